import PyProof.Rows.All
import Wide.All
import OpenK.AllK
import Wide.FinOn
import HandS.ForMost
import HandS.TupSets
import KE.SortData
import HandS.SortKw
import HandS.Codes
import HandS.SetFor
import HandS.Strs
import HandS.TupAny
import KE.GoesEnum
import HandS.Walk
import HandS.Zip
import HandS.DictComp
import HandS.DictEq
import HandS.DeepEq
import HandS.Conv
import HandS.IsInst
import HandS.ListItems
import PyProof.Rows.IntBool
import HandS.Style
import KE.KRevSl
import KE.KEqDict
import HandS.Deep
import KE.LtSeq
import KE.KSortAsk
import KE.SortCalls
import HandS.NoneIn
import PySem.Challenge.RW_enoughlooks_k56_shapes_of_any_value
set_option Elab.async false
set_option linter.all false
set_option maxRecDepth 100000
set_option maxHeartbeats 4000000
/-! a def's promise, for calls around which no repr runs; repr of data -/
namespace GL
open PySem PySem.Spec PyProof.Rows L2

structure Fn0 (P : Program) (w : World) (K : PySem.W.Frag) (mg : Str → Option Value)
    (base : Heap) (CX : CXT) (k : Nat) (f : Addr) (fd : FuncData) (ps : List Str) (sp : Sp) : Prop where
  len : ∀ vs H Q E, sp vs H Q E → vs.length = ps.length
  go : ∀ (A : Around) (outer : List Env) (s : Shared) (H : Hp) (args : Args) (us : List Value) (vs : List V)
    (Q : VK) (E : XK), A.guards = some [] → Room k A → Env0 P w K mg base A outer s H →
    BindsTo s fd args (ps.zip us) → Vals vs us → sp vs H Q E →
    codeAny (model P w) A (.call (.ref f) args) (CR CX outer P w H s Q E) s

section
variable {P : Program} {w : World} {K : PySem.W.Frag} {mg : Str → Option Value} {base : Heap}
theorem fn0_up {CX : CXT} {k : Nat} {f : Addr} {fd : FuncData} {ps : List Str} {sp : Sp}
    (F : FnOk P w K mg base CX k f fd ps sp) : Fn0 P w K mg base CX k f fd ps sp :=
  ⟨F.len, fun A outer s H args us vs Q E _ hr he hb hv hs => F.run A outer s H args us vs Q E hr he hb hv hs⟩
theorem fn0_mono {CX : CXT} {j k : Nat} {f : Addr} {fd : FuncData} {ps : List Str} {sp : Sp}
    (F : Fn0 P w K mg base CX j f fd ps sp) (h : j ≤ k) : Fn0 P w K mg base CX k f fd ps sp :=
  ⟨F.len, fun A outer s H args us vs Q E hg hr => F.go A outer s H args us vs Q E hg (hr.mono h)⟩

theorem fn0_of {x qual : Str} {st : Stmt} {f : Addr} {fd : FuncData} {N ps : List Str} {k : Nat} {sp : Sp}
    (F : Fun K x qual st f fd) (S : FnScope N ps (defScope st)) (len : ∀ vs H Q E, sp vs H Q E → vs.length = ps.length)
    (body : ∀ (cdv : Value) (A : Around) (outer : List Env) (s : Shared) (H : Hp) (vs : List V) (Q : VK) (E : XK),
      A.guards = some [] →
      Room k (A.deeper (envOfC qual (defScope st) s.heap.objs.size f cdv)) → sp vs H Q E →
      ∃ t, PSs (cxOf CX0 P w K mg base N qual (defScope st) f cdv A outer s H E).nox (defBody st) t ∧
        t { nx := fun _ H' => Q .non H', rt := Q } (start N vs) H) :
    Fn0 P w K mg base CX0 (k + 1) f fd ps sp := by
  obtain ⟨oc, od, kV, doc, pm, an, cdv, ct, osl, rfl, lk, hcd⟩ := F.ex
  refine ⟨len, fun A outer s H args us vs Q E hG hr e0 hb r hsp => ?_⟩
  have L1 := len _ _ _ _ hsp
  have bk : ∀ b o, base.get? b = some o → s.heap.get? b = some o := fun b o e => (e0.bs b o e).1
  have inS : K.In s.heap := e0.mod.kin.keeps bk
  have lim : s.heap.NoLimit := e0.mod.nolimit.keeps bk
  have kinds : ∀ y ∈ ps.zip us, (defScope st).names.lookup y.1 = some .local ∨
      ((defScope st).names.lookup y.1 = some .cell ∧
        ((cellsFrom (s.heap.objs.size + 1) (defScope st).names []).lookup y.1).isSome = true) := by
    rintro ⟨n, v⟩ hy
    have hn := (List.of_mem_zip hy).1
    cases S.par n hn with
    | inl q => exact .inl q
    | inr q => exact .inr ⟨q, PySem.W.cellsFrom_some _ _ _ (.inl q)⟩
  refine codeAny_call_function hr.depth (inS _ _ lk) rfl S.co S.gen rfl (PySem.W.codeRec_of inS hcd) (hb _ _ _ _ ?_)
  refine wpAny_newFunctionEnv_cells S.kind kinds fun env he s1 x => ?_
  subst he
  refine ⟨lim.keeps x.toInCall.keep, codeAny_func ?_⟩
  obtain ⟨t, ht0, hq⟩ := body cdv A outer s H vs Q E hG (hr.deeper _) hsp
  have ht := ht0.nox
  have I0 : Inv (cxOf CX0 P w K mg base N qual (defScope st) f cdv A outer s H E) [] (start N vs) H s1 :=
    inv_start S hr.hd e0 L1 r x
  refine wpAny_mono (ht.run [] s1 (start N vs) H _ I0 hq) (fun fl s' hs => ?_) fun _ _ z => z
  cases fl with
  | ret u =>
    obtain ⟨v, σ', H', J, rv, q⟩ := hs
    exact ⟨v, H', J.os, J.bare, J.base, J.hok, rv, q⟩
  | next =>
    obtain ⟨σ', H', J, q⟩ := hs
    exact ⟨.non, H', J.os, J.bare, J.base, J.hok, rfl, q⟩
  | brk => obtain ⟨_, _, _, q⟩ := hs; exact q.elim
  | cont => obtain ⟨_, _, _, q⟩ := hs; exact q.elim
end

section
variable {X : Cx} {CX : CXT} {k : Nat} {f : Addr} {fd : FuncData} {ps : List Str} {sp : Sp} {dvs : List V} {ds : List Value} {E : XK}
  {x : Str} {p pos : Pos} {e : Expr} {es : List Expr} {t : TA}
theorem go_fn {pins : List (Addr × Obj)} {σ : L2.St} {H : Hp} {s : Shared} {Q : VK} {us : List Value} {vs : List V}
    (F : Fn0 X.prog X.w X.K X.mg X.base CX k f fd ps sp) (hG : X.A.guards = some []) (hr : Room k X.A)
    (hb : Binds X.K fd ps ds) (hd : Vals dvs ds) (hx : Passes CX X E)
    (I : Inv X pins σ H s) (r : Vals vs us) (h : sp (vs ++ dvs) H Q E) :
    wpAny (model X.prog X.w) X.A (call (.ref f) us) (EP X pins σ Q) X.xe s := by
  have r2 : Vals (vs ++ dvs) (us ++ ds) := r.append hd
  have hl := F.len _ _ _ _ h
  rw [r2.length] at hl
  have run := F.go X.A X.stack s H ⟨us, []⟩ (us ++ ds) (vs ++ dvs) Q E hG hr I.env0 (hb s us I.kIn hl) r2 h
  refine wpAny_call (codeAny_mono run fun r s' hq => ?_)
  cases r with
  | error e => exact hx pins σ H s e s' I hq
  | ok fl => cases fl with
    | ret u => exact I.after hq
    | next => exact hq.elim
    | brk => exact hq.elim
    | cont => exact hq.elim

theorem pe_call0g (F : Fn0 X.prog X.w X.K X.mg X.base CX k f fd ps sp) (hG : X.A.guards = some []) (hr : Room k X.A)
    (hg : Gl X x) (hm : X.mg x = some (.ref f)) (hk : PySem.W.keepIn X.K (.ref f) = true)
    (hb : Binds X.K fd ps ds) (hd : Vals dvs ds) (hx : Passes CX X E) (ha : PA X (e :: es) t)
    (hdb : (x == ("__debug__" : Str)) = false := by decide)
    (he : starEach (e :: es) X.env = (false, eval e X.env) :: starEach es X.env := by rfl)
    (hpl : (backTo pos (starEach es X.env)).any (·.1) = false := by rfl) :
    PE X (.Call (.Name x p) (e :: es) [] pos) (tCall sp dvs E t) := by
  constructor
  intro pins s σ H Q I h
  refine wpAny_Call_Name_kw (ld_glob I hg hm ?_ hdb)
  refine PySem.W.callWith_K (h₀ := X.base) I.ok.mod.kin hk ?_ he hpl
  refine thn (ha.run pos pins s σ H _ I h) ?_
  rintro us s1 ⟨vs, H1, I1, r, q⟩
  exact ⟨I1.kIn, go_fn F hG hr hb hd hx I1 r q⟩
end

/-! ### repr of data -/
/-- the text of a datum fits -/
def Shows (d : PyData) : Prop := d.showable = true ∧ d.hasDict = false ∧ d.depth ≤ 60 ∧ d.shown.length ≤ sizeLine
def rRepr (K : PySem.W.Frag) : List V → Hp → VK → Prop := fun xs H Q => ∃ x d, xs = [x] ∧ Dp K H x d ∧ Shows d ∧ (∃ a, x = .ref a) ∧ Q (.str d.shown) H
theorem call_reprD {X : Cx} (hG : X.A.guards = some []) (hu : X.A.units + 64 < cLine) : CallR X (.builtin "repr") (rRepr X.K) := by
  intro pins s σ H xs us Q I r h
  obtain ⟨x, d, rfl, hd, ⟨h1, h2, h3, h4⟩, ⟨a, rfl⟩, q⟩ := h
  cases r with
  | cons rx rn =>
    cases rn
    cases rx
    obtain ⟨as, hr⟩ := Dp.reads I d _ _ hd rfl
    refine repr_of_reads' hr h1 (fun z => by rw [h2] at z; cases z) hG (by omega) (fun _ _ e => e) (fun h' u tk hk => ?_) h4
    exact ⟨.str d.shown, H, I.kept hk, ⟨_, rfl⟩, q⟩
end GL

namespace GL
open PySem PySem.Spec PyProof.Rows L2

section
variable {P : Program} {w : World} {K : PySem.W.Frag} {mg mb : Str → Option Value} {k : Nat} {fa a : Addr} {fd : FuncData} {x : Str}
  {sp : Sp} {s1 : Shared} {vs : List Value} {ns : List Int}
/-- what is wanted behind the law's call -/
def Good (s1 : Shared) (r : Result) (s' : Shared) : Prop :=
  r = .ok (.ret (.bool true)) ∧ PySem.OldK s1.heap s'.heap ∧ s'.os = s1.os ∧ AllBare s'.gens

theorem law0_core (KX : K.In s1.heap) (hns : s1.heap.Ns mainGlobals mg) (hb : s1.heap.Ns builtinsNs mb)
    (hbb : ∀ y : Str, y ≠ "__name__" → mb y = bootBuiltins y) (hlim : s1.heap.NoLimit) (hg : s1.gens = #[])
    (ha : s1.heap.get? a = some { cls := .type "list", data := .seq vs.toArray }) (hr : Room k callerA)
    (F : ∀ base : Heap, K.In base → base.Ns mainGlobals mg → Fn0 P w K mg base CX0 k fa fd [x] sp)
    (bind : ∀ (s : Shared) (u : Value), BindsTo s fd ⟨[u], []⟩ [(x, u)])
    (H : Hp) (hO : Only H) (want : sp [.ref a] H (fun v _ => v = .bl true) fun _ _ _ => False)
    (hok : HOk P w H s1.heap) (hA : ∀ b, H b ≠ none → b = a) (hK : H a ≠ none → K.lookup a = none) :
    codeAny (model P w) callerA (.call (.ref fa) ⟨[.ref a], []⟩) (Good s1) s1 := by
  have off : ∀ {b : Addr} {o : Obj}, s1.heap.get? b = some o → b ≠ a ∨ H b = none → (hidT s1.heap H).get? b = some o := by
    intro b o e z
    refine hidT_get e ?_
    rcases z with z | z
    · cases q : H b with
      | none => rfl
      | some u => exact absurd (hA b (by simp [q])) z
    · exact z
  have dictNe : ∀ {b : Addr} {o : Obj} {es : Array DictEntry} {ep : Nat}, s1.heap.get? b = some o → o.data = .dict es ep → b ≠ a := by
    intro b o es ep e d z
    subst z
    rw [ha] at e
    cases e
    cases d
  have nsK : ∀ {b : Addr} {m : Str → Option Value}, s1.heap.Ns b m → (hidT s1.heap H).Ns b m := by
    rintro b m ⟨o, es, ep, e, d, r⟩
    exact ⟨o, es, ep, off e (.inl (dictNe e d)), d, r⟩
  have inB : K.In (hidT s1.heap H) := by
    intro b o e
    refine off (KX b o e) ?_
    by_cases z : b = a
    · subst z
      cases q : H b with
      | none => exact .inr rfl
      | some u =>
        have := hK (by simp [q])
        rw [this] at e
        cases e
    · exact .inl z
  obtain ⟨mc, l1, l2⟩ := hlim
  have M : Mod K mg (hidT s1.heap H) := ⟨inB, nsK hns, ⟨mb, nsK hb, hbb⟩, ⟨mc, nsK l1, l2⟩⟩
  have e0 : Env0 P w K mg (hidT s1.heap H) callerA [] s1 H :=
    { frames := rfl, mod := M, bs := fun b o e => of_hidT e, bsz := Nat.le_of_eq (hidT_size _ _), funs := trivial,
      frf := fun b z => absurd (show b ∈ ([] : List Addr) from z) (by simp), hok := hok, bare := .of_eq hg }
  have run := (F _ inB (nsK hns)).go callerA [] s1 H ⟨[.ref a], []⟩ [.ref a] [.ref a] _ _ rfl hr e0 (bind s1 (.ref a)) (.cons rfl .nil) want
  refine codeAny_mono run fun r s' h => ?_
  match r, h with
  | .error e, h => exact (h : False).elim
  | .ok .next, h => exact (h : False).elim
  | .ok .brk, h => exact (h : False).elim
  | .ok .cont, h => exact (h : False).elim
  | .ok (.ret u), h =>
    obtain ⟨v, H', os, bare, un, hok', rv, q⟩ := h
    have q' : v = .bl true := q
    subst q'
    have eu : u = Value.bool true := rv
    subst eu
    refine ⟨rfl, OldK.of_keep fun b o e => ?_, os, bare⟩
    rcases hO b with z | ⟨ob, xs, z⟩
    · exact un.keep b o e z (fun n => nomatch n) (fun n => nomatch n)
    · have h1 := (hok b _ z).1
      have h2 := (hok' b _ (un.frzs b ob _ z)).1
      rw [e] at h1
      cases h1
      exact h2

theorem law0_call (KX : K.In s1.heap) (hns : s1.heap.Ns mainGlobals mg) (hb : s1.heap.Ns builtinsNs mb)
    (hbb : ∀ y : Str, y ≠ "__name__" → mb y = bootBuiltins y) (hlim : s1.heap.NoLimit) (hg : s1.gens = #[])
    (ha : s1.heap.get? a = some { cls := .type "list", data := .seq vs.toArray }) (hi : IntsAre vs ns) (hl : ns.length ≤ sizeLine)
    (hr : Room k callerA)
    (F : ∀ base : Heap, K.In base → base.Ns mainGlobals mg → Fn0 P w K mg base CX0 k fa fd [x] sp)
    (bind : ∀ (s : Shared) (u : Value), BindsTo s fd ⟨[u], []⟩ [(x, u)])
    (want : ∀ H : Hp, Only H → SqL K H a (ns.map V.int) → sp [.ref a] H (fun v _ => v = .bl true) fun _ _ _ => False) :
    codeAny (model P w) callerA (.call (.ref fa) ⟨[.ref a], []⟩) (Good s1) s1 := by
  have rv := vals_ints hi
  have lenV := hi.length
  cases hk : K.lookup a with
  | some o =>
    have e := KX a o hk
    rw [ha] at e
    cases e
    have hO : Only (fun _ => none) := fun _ => .inl rfl
    have hS : SqL K (fun _ => none) a (ns.map V.int) :=
      .inr ⟨_, vs.toArray, _, hk, rfl, rfl, rfl, by rw [List.size_toArray, lenV]; exact hl, by simpa using rv⟩
    exact law0_core KX hns hb hbb hlim hg ha hr F bind _ hO (want _ hO hS)
      (fun b u z => by have z' : (none : Option HO) = some u := z; cases z') (fun b z => absurd rfl z) fun z => absurd rfl z
  | none =>
    let H0 : Hp := fun b => if b = a then some (.frz { cls := .type "list", data := .seq vs.toArray } (.lst (ns.map V.int))) else none
    have at0 : H0 a = some (.frz { cls := .type "list", data := .seq vs.toArray } (.lst (ns.map V.int))) := if_pos rfl
    have ne0 : ∀ b, b ≠ a → H0 b = none := fun b z => if_neg z
    have hO : Only H0 := by
      intro b
      by_cases z : b = a
      · subst z; exact .inr ⟨_, _, at0⟩
      · exact .inl (ne0 b z)
    have hS : SqL K H0 a (ns.map V.int) := .inl (.inr ⟨_, at0⟩)
    refine law0_core KX hns hb hbb hlim hg ha hr F bind H0 hO (want H0 hO hS) (fun b u z => ?_) (fun b z => ?_) fun _ => hk
    · by_cases q : b = a
      · subst q
        rw [at0] at z
        cases z
        exact ⟨ha, by rw [List.length_map]; exact hl, vs, _, rv, ha⟩
      · rw [ne0 b q] at z
        cases z
    · exact Classical.byContradiction fun q => z (ne0 b q)
end

theorem walk0 {l : PySem.W.OpenLaw} {n k : Nat} {q : Program} {loose : List Str} {XP : (Str → Option Value) → Heap → Prop}
    {YP : World → Heap → Prop} {d : DefRec} {K : Params → PySem.W.Frag} {sp : World → Sp} {x : Str}
    (hn : l.most = some n) (hn2 : n ≤ sizeLine) (hdf : d.params.defaults = []) (hr : Room k callerA)
    (hY : ∀ (w : World) (h : Heap), YP w h → (K w.params).In h)
    (F : ∀ (w : World) (mg : Str → Option Value) (fa : Addr) (h : Heap), (K w.params).In h → h.Ns mainGlobals mg →
      mg d.name = some (.ref fa) → ∃ fd : FuncData, (∀ (s : Shared) (u : Value), BindsTo s fd ⟨[u], []⟩ [(x, u)]) ∧
        ∀ base : Heap, (K w.params).In base → base.Ns mainGlobals mg → Fn0 l.prog w (K w.params) mg base CX0 k fa fd [x] (sp w))
    (want : ∀ (w : World) (H : Hp) (a : Addr) (ns : List Int), ns.length ≤ n → Only H → SqL (K w.params) H a (ns.map V.int) →
      sp w [.ref a] H (fun v _ => v = .bl true) fun _ _ _ => False) :
    PySem.W.WalkO q loose XP YP l.row.toRowW d [] (fun f vs => PySem.call f vs) := by
  refine Att.attach_call hn hdf ?_
  intro w s0 s1 mg mb fa o pm cd doc a vs ns G Y ho hd hcd hmg hobj hints hlen hg
  have KX := hY w _ Y
  obtain ⟨fd, hb, hF⟩ := F w mg fa _ KX G.T.g hmg
  exact law0_call KX G.T.g G.T.b G.T.builtins G.T.nolimit hg hobj hints (Nat.le_trans hlen hn2) hr hF hb
    fun H hO hS => want w H a ns hlen hO hS
end GL

/-! sorted of lists, tuples, sets of tuples of whole numbers (any sign) -/
namespace GL
open PySem PySem.Spec PyProof.Rows L2

abbrev encR : List Int → PyData := fun r => .tuple (r.map .int)

theorem perm_lift {α β : Type} (f : α → β) : ∀ (out : List β) (l : List α), out.Perm (l.map f) → ∃ l' : List α, l'.map f = out ∧ l'.Perm l
  | [], l, h => by
    have e : l.map f = [] := List.Perm.eq_nil h.symm
    have e' : l = [] := List.map_eq_nil_iff.mp e
    exact ⟨[], rfl, by rw [e']⟩
  | y :: out, l, h => by
    have hm : y ∈ l.map f := h.mem_iff.mp List.mem_cons_self
    obtain ⟨b, hb, rfl⟩ := List.mem_map.mp hm
    obtain ⟨l1, l2, rfl⟩ := List.append_of_mem hb
    have h2 : (f b :: out).Perm (f b :: (l1 ++ l2).map f) := by
      refine h.trans ?_
      rw [List.map_append, List.map_cons, List.map_append]
      exact List.perm_middle
    obtain ⟨l', e, p⟩ := perm_lift f out (l1 ++ l2) h2.cons_inv
    exact ⟨b :: l', by rw [List.map_cons, e], (p.cons b).trans List.perm_middle.symm⟩

theorem dataLe_encR {β : Type} (x : β → List Int) : PySem.W.dataLe false (fun b => encR (x b)) = fun p q => decide (x p ≤ x q) := by
  funext p q
  show (!PySem.W.dataLt (.tuple ((x q).map .int)) (.tuple ((x p).map .int))) = _
  rw [PySem.W.dataLt_tuple]
  show (!PySem.W.rowLt ((x q).map .int) ((x p).map .int)) = _
  rw [PySem.W.dataLt_ints]
  rcases Classical.em (x q < x p) with h | h
  · simp [h, fun r : x p ≤ x q => List.not_lt.mpr r h]
  · simp [h, List.not_lt.mp h]

theorem each_fst {β γ : Type} : ∀ (l : List (β × γ)), PySem.W.EachIs (fun v b => v = b.1) (l.map (·.1)) l
  | [] => .nil
  | b :: l => .cons rfl (each_fst l)
theorem fst_each {β γ : Type} : ∀ {vs : List β} {l : List (β × γ)}, PySem.W.EachIs (fun v b => v = b.1) vs l → vs = l.map (·.1)
  | _, _, .nil => rfl
  | _, _, .cons e t => by rw [List.map_cons, e, fst_each t]
theorem each_of {β γ : Type} {R : β → β × γ → Prop} : ∀ {l : List (β × γ)}, (∀ b ∈ l, R b.1 b) → PySem.W.EachIs R (l.map (·.1)) l
  | [], _ => .nil
  | b :: l, h => .cons (h b List.mem_cons_self) (each_of fun c hc => h c (List.mem_cons_of_mem _ hc))

section
variable {prog : Program} {w : World} {A : Around} {E : Value → Shared → Prop} {s : Shared}
theorem sorted_gather {x : Value} {Q : Value → Shared → Prop} {bs : List (Value × List Int)}
    (hcol : ∀ (E' : Value → Shared → Prop) (Q' : List Value → Shared → Prop),
      (∀ s' out, (∀ b o, s.heap.get? b = some o → s'.heap.get? b = some o) → s.heap.objs.size ≤ s'.heap.objs.size → s'.gens = s.gens → s'.os = s.os →
        out.Perm (bs.map (·.1)) → Q' out s') → wpAny (model prog w) A.in1 (collect x) Q' E' s)
    (hr : ∀ b ∈ bs, b.2 ≠ [] ∧ ∃ as, Reads s.heap b.1 (encR b.2) as) (hL : bs.length ≤ sizeLine) (hu : A.units + 64 < cLine)
    (h : ∀ s' p c (bs' : List (Value × List Int)), (∀ b o, s.heap.get? b = some o → s'.heap.get? b = some o) → s'.gens = s.gens → s'.os = s.os →
      s.heap.objs.size ≤ p → s'.heap.get? p = some (seqObj "list" (bs'.map (·.1)).toArray c) → bs'.Perm bs → (bs'.map (·.2)).Pairwise (· ≤ ·) → Q (.ref p) s') :
    wpAny (model prog w) A (call (.builtin "sorted") [x]) Q E s := by
  refine Calls.call_function_entry kind_sorted plain_sorted entry_sorted (args_sorted1 _) ?_
  unfold Builtin.«sorted»
  refine wpAny_bind (m := checkCount "sorted" 1 1 _) (wpAny_pure ?_)
  refine wpAny_bind (hcol _ _ fun s1 out k1 z1 g1 o1 pm => ?_)
  obtain ⟨b1, e1, p1⟩ := perm_lift _ out bs pm
  subst e1
  have l1 : (b1.map (·.1)).length ≤ sizeLine := by rw [List.length_map, p1.length_eq]; exact hL
  refine wpAny_bind (wpAny_newList ?_ l1)
  have ho : (s1.heap.push (seqObj "list" (b1.map (·.1)).toArray 0)).get? s1.heap.objs.size = some (seqObj "list" (b1.map (·.1)).toArray 0) := Heap.get?_push_size _ rfl
  have old : ∀ b o, s.heap.get? b = some o → (PySem.W.sortingHeap (s1.heap.push (seqObj "list" (b1.map (·.1)).toArray 0)) s1.heap.objs.size (b1.map (·.1))).get? b = some o := by
    intro b o e
    have e2 := k1 b o e
    exact PySem.W.sortingHeap_old (Nat.ne_of_lt (Heap.lt_size e2)) (Heap.get?_push_of_some _ e2)
  have er : PySem.W.EachIs (fun v (b : Value × List Int) => ∃ as, Reads (PySem.W.sortingHeap (s1.heap.push (seqObj "list" (b1.map (·.1)).toArray 0)) s1.heap.objs.size (b1.map (·.1))) v (encR b.2) as) (b1.map (·.1)) b1 :=
    each_of fun b hb => by
      obtain ⟨_, as, r⟩ := hr b (p1.mem_iff.mp hb)
      exact ⟨as, PyProof.Rows.Reads.keeps old r⟩
  have hal : PySem.W.AllAlike (b1.map fun b => encR b.2) := PySem.W.AllAlike.of fun b c => by
    show PySem.W.alike (.tuple _) (.tuple _) = true
    rw [PySem.W.alike]
    exact PySem.W.alike_ints _ _
  have hk : PySem.W.Sortable (b1.map fun b => encR b.2) := .inl fun d hd => by
    obtain ⟨b, hb, rfl⟩ := List.mem_map.mp hd
    obtain ⟨n0, _⟩ := hr b (p1.mem_iff.mp hb)
    obtain ⟨_, r⟩ := b
    cases r with
    | nil => exact absurd rfl n0
    | cons i r => exact ⟨_, _, rfl⟩
  have S := PySem.W.SortsAt.data (prog := prog) (w := w) (A := A.in1.in1) (s := { s1 with heap := PySem.W.sortingHeap (s1.heap.push (seqObj "list" (b1.map (·.1)).toArray 0)) s1.heap.objs.size (b1.map (·.1)) })
    (PySem.W.each_map (R := fun v d => ∃ as, Reads (PySem.W.sortingHeap (s1.heap.push (seqObj "list" (b1.map (·.1)).toArray 0)) s1.heap.objs.size (b1.map (·.1))) v d as) (fun b : Value × List Int => encR b.2) er) hal hk (fun d hd => by
      obtain ⟨b, _, rfl⟩ := List.mem_map.mp hd
      have dp : (encR b.2).depth = 1 := by
        show PyData.depth (.tuple _) = 1
        rw [PyData.depth, PySem.W.depth_ints]
      rw [dp]
      show A.units + 1 + 1 + 1 < cLine
      omega)
  refine wpAny_bind (wpAny_holding (wpAny_call_entry slot_list_sort ⟨_, ho, rfl⟩ entry_list_sort ?body (args_list_sort _)))
  case body =>
    refine PySem.W.list_sort_vals (s := { s1 with heap := s1.heap.push (seqObj "list" (b1.map (·.1)).toArray 0) }) ho S l1 ⟨_, rfl, wpAny_pure ⟨_, rfl, ?_⟩⟩
    have eo := PySem.W.sortVals_data (R := fun (v : Value) (b : Value × List Int) => v = b.1) false (each_fst b1) er hal
    have eo2 := fst_each eo
    rw [eo2]
    obtain ⟨c, hc⟩ := PyProof.Rows.sortedHeap_at (vs := b1.map (·.1)) (out := ((b1.mergeSort (PySem.W.dataLe false fun b => encR b.2)).map (·.1)).toArray) ho
    refine h _ s1.heap.objs.size c (b1.mergeSort (PySem.W.dataLe false fun b => encR b.2)) (fun b o e => ?_) g1 o1 z1 hc ((List.mergeSort_perm _ _).trans p1) ?_
    · have e2 := k1 b o e
      have e3 : (s1.heap.push (seqObj "list" (b1.map (·.1)).toArray 0)).get? b = some o := Heap.get?_push_of_some _ e2
      exact (PyProof.Rows.sortedHeap_old (Nat.ne_of_lt (Heap.lt_size e2)) (Heap.lt_size e3)).trans e3
    · have pw := PySem.W.sort_pairwise (le := PySem.W.dataLe false fun b : Value × List Int => encR b.2) (PySem.W.sortLe_total _ _ _) b1
      rw [List.pairwise_map]
      refine pw.imp fun {a b} hab => ?_
      have hab' : PySem.W.dataLe false (fun b : Value × List Int => encR b.2) a b = true := hab
      rw [dataLe_encR (fun b : Value × List Int => b.2)] at hab'
      exact of_decide_eq_true hab'

theorem collect_tup {l : Addr} {vs : List Value} {Q : List Value → Shared → Prop} (hl : IsTup s.heap l vs.toArray)
    (h : Q vs { s with heap := (s.heap.push (seqObj "list" #[] 0)).update s.heap.objs.size (Obj.mapSeq (· ++ vs.toArray)) }) (hsz : vs.length ≤ sizeLine) :
    wpAny (model prog w) A (collect (.ref l)) Q E s := by
  obtain ⟨o, ho, hc, n, hd⟩ := id hl
  unfold collect
  refine wpAny_bind (wpAny_runValue (codeAny_builtin entry_proto_collect' ?_))
  show wpAny _ _ (newList [] >>= fun l' => again (.builtin "list.__iadd__" ⟨[l', .ref l], []⟩)) _ _ s
  refine wpAny_bind (wpAny_newList (wpAny_pure ⟨Code.quiet_builtin _ (by decide +kernel), codeAny_builtin entry_list_iadd' ?_⟩))
  have hne : s.heap.objs.size ≠ l := Nat.ne_of_gt (Heap.lt_size ho)
  show wpAny _ _ (Builtin.List.listExtendWith (.ref s.heap.objs.size) (.ref l) (.ref s.heap.objs.size)) _ _ { s with heap := s.heap.push (seqObj "list" #[] 0) }
  unfold Builtin.List.listExtendWith
  have ho' : (s.heap.push (seqObj "list" #[] 0)).get? l = some o := Heap.get?_push_of_some _ ho
  refine wpAny_bind (wpAny_typeOf (T := "tuple") ⟨o, ho', hc⟩ ?_)
  have t1 : (Value.type "tuple" == Value.type "list") = false := by decide
  have t2 : (Value.type "tuple" == Value.type "tuple") = true := by decide
  rw [if_pos (by rw [t1, t2]; simp)]
  refine wpAny_bind (listItems_at ho' hd ?_)
  have h0 : (s.heap.push (seqObj "list" #[] 0)).get? s.heap.objs.size = some (seqObj "list" #[] 0) := Heap.get?_push_size _ rfl
  refine wpAny_bind (listItems_at (xs := #[]) (n := 0) h0 rfl ?_)
  rw [if_neg (by simp)]
  have sz : (#[] ++ vs.toArray).size ≤ sizeLine + 1 := by
    simp only [Array.size_append, List.size_toArray, List.length_nil]
    omega
  refine wpAny_bind (listUpdate_at (xs := #[]) (n := 0) h0 rfl ?_ (Nat.zero_le _) sz)
  refine wpAny_pure ?_
  refine wpAny_bind (wpAny_load (get?_update_seq h0 _) ?_)
  show wpAny _ _ (pure ((#[] : Array Value) ++ vs.toArray).toList) Q E _
  have e : ((#[] : Array Value) ++ vs.toArray).toList = vs := by simp
  rw [e]
  exact wpAny_pure h
end

/-! ### the rule -/
abbrev tV (t : V × Value × List Int) : V × List Int := (t.1, t.2.2)
abbrev tU (t : V × Value × List Int) : Value × List Int := (t.2.1, t.2.2)
theorem trip : ∀ {bs : List (V × List Int)} {us : List Value}, Vals (bs.map (·.1)) us →
    ∃ ts : List (V × Value × List Int), bs = ts.map tV ∧ us = ts.map (·.2.1) ∧ ∀ t ∈ ts, RelV t.1 t.2.1
  | [], _, h => by
    have h' : Vals [] _ := h
    cases h'
    exact ⟨[], rfl, rfl, fun _ z => nomatch z⟩
  | c :: l, _, h => by
    have h' : Vals (c.1 :: l.map (·.1)) _ := h
    cases h' with
    | cons r t =>
      rename_i u us
      obtain ⟨ts, e1, e2, e3⟩ := trip t
      refine ⟨(c.1, u, c.2) :: ts, by rw [List.map_cons, ← e1], by rw [List.map_cons, ← e2], fun b hb => ?_⟩
      rcases List.mem_cons.mp hb with rfl | hb
      · exact r
      · exact e3 b hb

/-- rows: tuples of whole numbers, one at least -/
def RowAt (K : PySem.W.Frag) (H : Hp) (b : V × List Int) : Prop := ∃ t, b.1 = .ref t ∧ SqT K H t (b.2.map V.int) ∧ b.2 ≠ []
/-- what is sorted: a list or a tuple of rows, a set of them -/
def RowsIn (K : PySem.W.Frag) (P : Program) (w : World) (H : Hp) (a : Addr) (bs : List (V × List Int)) : Prop :=
  SqL K H a (bs.map (·.1)) ∨ SqT K H a (bs.map (·.1)) ∨
    ∃ L : List (Addr × List Int), H a = some (SetTO P w a L) ∧ bs = L.map fun p => (V.ref p.1, p.2)
def rSortRows (K : PySem.W.Frag) (P : Program) (w : World) : List V → Hp → VK → Prop := fun vs H Q =>
  ∃ a bs, vs = [.ref a] ∧ RowsIn K P w H a bs ∧ (∀ b ∈ bs, RowAt K H b) ∧
    ∀ (p : Addr) (bs' : List (V × List Int)), H p = none → bs'.Perm bs → (bs'.map (·.2)).Pairwise (· ≤ ·) → Q (.ref p) (upd H p (.lst (bs'.map (·.1))))

section
variable {X : Cx} {pins : List (Addr × Obj)} {σ : L2.St} {H : Hp} {s : Shared}
theorem row_reads (I : Inv X pins σ H s) {b : V × List Int} {u : Value} (r : RelV b.1 u) (h : RowAt X.K H b) : b.2 ≠ [] ∧ ∃ as, Reads s.heap u (encR b.2) as := by
  obtain ⟨t, e, ht, hne⟩ := h
  refine ⟨hne, ?_⟩
  have all : ∀ l : List Int, DpAll X.K H (l.map V.int) (l.map PyData.int) := by
    intro l
    induction l with
    | nil => exact .nil
    | cons i l ih => exact .cons (.int i) ih
  exact Dp.reads I (encR b.2) b.1 u (by rw [e]; exact .tup ht (all _)) r

/-- the end of each kind -/
theorem sort_fin (I : Inv X pins σ H s) (hu : X.A.units + 64 < cLine) {a : Addr} {Q : VK} {ts : List (V × Value × List Int)} (hz : ts.length ≤ sizeLine)
    (rel : ∀ t ∈ ts, RelV t.1 t.2.1) (hrow : ∀ b ∈ ts.map tV, RowAt X.K H b)
    (q : ∀ (p : Addr) (bs' : List (V × List Int)), H p = none → bs'.Perm (ts.map tV) → (bs'.map (·.2)).Pairwise (· ≤ ·) → Q (.ref p) (upd H p (.lst (bs'.map (·.1)))))
    (hcol : ∀ (E' : Value → Shared → Prop) (Q' : List Value → Shared → Prop),
      (∀ s' out, (∀ b o, s.heap.get? b = some o → s'.heap.get? b = some o) → s.heap.objs.size ≤ s'.heap.objs.size → s'.gens = s.gens → s'.os = s.os →
        out.Perm (ts.map (·.2.1)) → Q' out s') → wpAny (model X.prog X.w) X.A.in1 (collect (.ref a)) Q' E' s) :
    wpAny (model X.prog X.w) X.A (call (.builtin "sorted") [.ref a]) (EP X pins σ Q) X.xe s := by
  refine sorted_gather (bs := ts.map tU) (fun E' Q' k => hcol E' Q' fun s' out k1 z1 g1 o1 pm => k s' out k1 z1 g1 o1 (by rw [List.map_map]; exact pm))
    (fun b hb => ?_) (by rw [List.length_map]; exact hz) hu fun s' p c bs' k1 g1 o1 hp hg pm pw => ?_
  · obtain ⟨t, ht, rfl⟩ := List.mem_map.mp hb
    exact row_reads I (b := tV t) (rel t ht) (hrow _ (List.mem_map.mpr ⟨t, ht, rfl⟩))
  · obtain ⟨ts', e1, p1⟩ := perm_lift tU bs' ts pm
    subst e1
    have hn : H p = none := I.hok.fresh hp
    have rel' : ∀ l : List (V × Value × List Int), (∀ t ∈ l, t ∈ ts) → Vals ((l.map tV).map (·.1)) ((l.map tU).map (·.1)) := by
      intro l
      induction l with
      | nil => intro _; exact .nil
      | cons t l ih => intro hl; exact .cons (rel t (hl t List.mem_cons_self)) (ih fun b hb => hl b (List.mem_cons_of_mem _ hb))
    have hv := rel' ts' fun t ht => p1.mem_iff.mp ht
    have hlen : ((ts'.map tV).map (·.1)).length ≤ sizeLine := by
      rw [List.length_map, List.length_map, p1.length_eq]
      exact hz
    have J : Inv X pins σ (upd H p (.lst ((ts'.map tV).map (·.1)))) { s with heap := s'.heap, gens := s'.gens, drawn := s'.drawn, toks := s'.toks } :=
      I.call (ch := []) (Un.laid k1 hp hn) (I.hok.laid k1 hp ⟨hlen, _, c, hv, hg⟩) (by rw [g1]; exact I.bare) (fun _ z => nomatch z)
    have e : s' = { s with heap := s'.heap, gens := s'.gens, drawn := s'.drawn, toks := s'.toks } := by
      cases s'
      cases s
      cases o1
      rfl
    rw [e]
    refine ⟨.ref p, _, J, rfl, q p (ts'.map tV) hn (p1.map tV) ?_⟩
    have e2 : (ts'.map tV).map (·.2) = (ts'.map tU).map (·.2) := by rw [List.map_map, List.map_map]; rfl
    rw [e2]
    exact pw

theorem cr_sortRows (hc : X.calm = true) (hu : X.A.units + 64 < cLine) : CallR X (.builtin "sorted") (rSortRows X.K X.prog X.w) := by
  intro pins s σ H vs us Q I r h
  obtain ⟨a, bs, rfl, hin, hrow, q⟩ := h
  rw [Vals.ref1 r]
  rcases hin with hs | hs | ⟨L, hs, rfl⟩
  · obtain ⟨its, rv, pl, hz⟩ := I.list hs
    obtain ⟨ts, rfl, rfl, rel⟩ := trip rv
    have hz' : ts.length ≤ sizeLine := by rw [List.length_map, List.length_map] at hz; exact hz
    refine sort_fin I hu hz' rel hrow q fun E' Q' k => collect_list pl.isList ?_ (by rw [List.length_map]; exact hz')
    refine k _ _ (fun b o e => ?_) ?_ rfl rfl (List.Perm.refl _)
    · exact (Heap.get?_update_other _ _ (Nat.ne_of_gt (Heap.lt_size e))).trans (Heap.get?_push_of_some _ e)
    · show s.heap.objs.size ≤ (Heap.update _ _ _).objs.size
      rw [Heap.size_update, size_push']
      exact Nat.le_succ _
  · obtain ⟨its, rv, pl, hz⟩ := I.tuple hs
    obtain ⟨ts, rfl, rfl, rel⟩ := trip rv
    have hz' : ts.length ≤ sizeLine := by rw [List.length_map, List.length_map] at hz; exact hz
    refine sort_fin I hu hz' rel hrow q fun E' Q' k => collect_tup pl ?_ (by rw [List.length_map]; exact hz')
    refine k _ _ (fun b o e => ?_) ?_ rfl rfl (List.Perm.refl _)
    · exact (Heap.get?_update_other _ _ (Nat.ne_of_gt (Heap.lt_size e))).trans (Heap.get?_push_of_some _ e)
    · show s.heap.objs.size ≤ (Heap.update _ _ _).objs.size
      rw [Heap.size_update, size_push']
      exact Nat.le_succ _
  · have hk : ∀ p ∈ L, SqT X.K H p.1 (p.2.map V.int) := by
      intro p hp
      obtain ⟨t, e, ht, _⟩ := hrow _ (List.mem_map.mpr ⟨p, hp, rfl⟩)
      cases e
      exact ht
    have R0 : SetT0 X.prog X.w s.heap a L := (I.hok a _ hs).1
    obtain ⟨es, ep, t, R⟩ := R0.full fun p hp => I.isT (hk p hp)
    obtain ⟨o, ho, hex, hd⟩ := R.ob
    have hsz := R.size
    have hfew := R.few
    let ts : List (V × Value × List Int) := L.map fun p => (V.ref p.1, Value.ref p.1, p.2)
    have ets : L.map (fun p => (V.ref p.1, p.2)) = ts.map tV := by rw [List.map_map]; rfl
    rw [ets] at hrow q
    refine sort_fin I hu (ts := ts) (by rw [List.length_map, sizeLine_eq]; omega) (fun t ht => ?_) hrow q fun E' Q' k => ?_
    · obtain ⟨p, _, rfl⟩ := List.mem_map.mp ht
      exact rfl
    · refine collect_set (A := X.A.in1) (I.ok.hd hc) ⟨o, ho, hex.1, hd⟩ R.fits (by unfold scanBound; omega) R.tab.ris R.led fun s1 vs k1 hz g1 o1 pm => k s1 vs k1 hz g1 o1 ?_
      have hes : es.toList.map (·.2) = ts.map (·.2.1) := by
        rw [R.rows]
        unfold rowsOf
        rw [List.map_map, List.map_map] <;> rfl
      rw [← hes]
      exact pm

/-- sorted(s), s a set of rows -/
def rSortSet (K : PySem.W.Frag) (P : Program) (w : World) : List V → Hp → VK → Prop := fun vs H Q =>
  ∃ (a : Addr) (L : List (Addr × List Int)), vs = [.ref a] ∧ H a = some (SetTO P w a L) ∧ (∀ p ∈ L, SqT K H p.1 (p.2.map V.int) ∧ p.2 ≠ []) ∧
    ∀ (p : Addr) (bs' : List (V × List Int)), H p = none → bs'.Perm (L.map fun p => (V.ref p.1, p.2)) → (bs'.map (·.2)).Pairwise (· ≤ ·) → (L.map (·.2)).Nodup →
      Q (.ref p) (upd H p (.lst (bs'.map (·.1))))
theorem cr_sortSet (hc : X.calm = true) (hu : X.A.units + 64 < cLine) : CallR X (.builtin "sorted") (rSortSet X.K X.prog X.w) := by
  intro pins s σ H vs us Q I r h
  obtain ⟨a, L, e, hs, hk, q⟩ := h
  have R0 : SetT0 X.prog X.w s.heap a L := (I.hok a _ hs).1
  obtain ⟨es, ep, t, R⟩ := R0.full fun p hp => I.isT (hk p hp).1
  exact cr_sortRows hc hu pins s σ H vs us Q I r ⟨a, _, e, .inr (.inr ⟨L, hs, rfl⟩), fun b hb => by
    obtain ⟨p, hp, rfl⟩ := List.mem_map.mp hb
    exact ⟨p.1, rfl, (hk p hp).1, (hk p hp).2⟩, fun p bs' h1 h2 h3 => q p bs' h1 h2 h3 R.nd⟩
end
end GL

/-! min and max of a list of whole numbers, with default= -/
namespace GL
open PySem PySem.Spec PyProof.Rows L2
abbrev dkw (d : Value) : List (Str × Value) := [(Str.ofString "default", d)]

section
variable {prog : Program} {w : World} {A : Around} {E : Value → Shared → Prop} {s : Shared}
/-- how a built-in's own end is read -/
def EndR (prog : Program) (w : World) (A : Around) (Q E : Value → Shared → Prop) (fin : PySem.Fin) (s' : Shared) : Prop :=
  match fin with
  | .done f => (match (Except.ok f : Result) with | .ok (.ret v) => Q v s' | .ok _ => False | .error e => E e s')
  | .again c => c.quiet = true ∧ codeAny (model prog w) A c (fun r s' => match r with | .ok (.ret v) => Q v s' | .ok _ => False | .error e => E e s') s'
theorem call_treeK {id : String} {b : Builtin} {as : List Value} {kw : List (Str × Value)} {Q : Value → Shared → Prop} (k : builtinKind id = none) (p : plainId id = true)
    (e : entryFor table id = some b) (ok : argsOk id ⟨as, kw⟩) (run : wpAny (model prog w) A.in1 (b ⟨as, kw⟩) (EndR prog w A Q E) E s) :
    wpAny (model prog w) A (call (.builtin id) as kw) Q E s := by
  refine wpAny_call (codeAny_call_builtin p e ?_)
  simp only [checkBuiltinCall, k]
  cases sg : Manifest.signature? id with
  | none => exact wpAny_pure run
  | some sig =>
    have c : Bind.checkArgs id sig ⟨as, kw⟩ = pure () := by simpa only [argsOk, sg] using ok
    simp only [c]
    exact wpAny_pure run
end

section
variable {prog : Program} {w : World} {A : Around} {R : Result → Shared → Prop} {I : Addr} {fp wr : List Addr} {n : Nat}
  {P : Nat → Value → Prop} {St : Nat → Heap → Prop}
theorem dl_min (W : Walks prog w A.in1 I fp wr n P St) (bt : Nat → Nat → Bool) (cmp : CmpOf prog w A.in1 .Lt P bt) (S : Addr) (off : S ∉ fp) (d : Value) :
    ∀ (k j : Nat) (s : Shared) (vb : Value) (c : Nat), n - (j + 1) = k → j + 1 ≤ n → St (j + 1) s.heap → P (argBest bt j) vb →
    s.heap.get? S = some { cls := .type "list", dict := none, data := .seq #[vb, vb] c, slots := #[] } →
    (∀ v h' tk, P (argBest bt (n - 1)) v → (∀ b o, b ∉ wr → b ≠ S → s.heap.get? b = some o → h'.get? b = some o) →
      R (.ok (.ret v)) { s with heap := h', toks := tk }) →
    codeAny (model prog w) A (.builtin "min.loop" ⟨[.ref I, .none, .ref S], dkw d⟩) R s := by
  have offW : S ∉ wr := fun z => off (W.sub _ z)
  have nm : (toString "min" ++ toString ".loop" : String) = "min.loop" := by decide
  intro k
  induction k with
  | zero =>
    intro j s vb c hk hj hst hb hS hR
    have hin : j + 1 = n := by omega
    refine codeAny_builtin F.entry_min_loop ?_
    rw [Around.under_plainId F.plain_min_loop _]
    show wpAny _ A.in1 (seqItems? (.ref S) >>= _) _ _ s
    refine wpAny_bind (wpAny_seqItems hS rfl ?_)
    show wpAny _ A.in1 (tryCatch (pyNext (.ref I)) _ >>= _) _ _ s
    refine wpAny_bind (wpAny_tryCatch (W.done s _ _ (hin ▸ hst) fun h' tk keep => ?_))
    have hS' := keep S _ offW hS
    show wpAny _ A.in1 (updateSeq S (fun _ => #[]) >>= _) _ _ _
    refine wpAny_bind ?_
    refine wpAny_updateSeq hS' rfl (wpAny_bind (wpAny_letGo (wpAny_pure ?_)))
    rw [← hin] at hR
    exact hR vb _ tk hb fun b o h1 h2 e => (Heap.get?_update_other _ _ (Ne.symm h2)).trans (keep b o h1 e)
  | succ k ih =>
    intro j s vb c hk hj hst hb hS hR
    have hlt : j + 1 < n := by omega
    refine codeAny_builtin F.entry_min_loop ?_
    rw [Around.under_plainId F.plain_min_loop _]
    show wpAny _ A.in1 (seqItems? (.ref S) >>= _) _ _ s
    refine wpAny_bind (wpAny_seqItems hS rfl ?_)
    show wpAny _ A.in1 (tryCatch (pyNext (.ref I)) _ >>= _) _ _ s
    refine wpAny_bind (wpAny_tryCatch (W.item (j + 1) s _ _ hlt hst fun v h' tk hv hst' keep => ?_))
    have hS' := keep S _ offW hS
    show wpAny _ A.in1 (tryCatch (holding [v, v] (richCompare .Lt v vb >>= _)) _ >>= _) _ _ _
    refine wpAny_bind (wpAny_tryCatch (wpAny_holding (wpAny_bind (cmp (j + 1) (argBest bt j) v vb _ _ _ hv hb ?_))))
    refine wpAny_bind (wpAny_holding (wpAny_truthy_bool ?_))
    refine wpAny_bind (wpAny_letGo (wpAny_pure ?_))
    cases q : bt (j + 1) (argBest bt j) with
    | true =>
      simp only [if_true]
      refine wpAny_bind ?_
      refine wpAny_updateSeq hS' rfl (wpAny_bind (wpAny_letGo ?_))
      rw [nm]
      have st2 := W.frame _ _ (h'.update S (Obj.mapSeq fun _ => #[v, v])) hst' fun b hbf o e =>
        (Heap.get?_update_other _ _ (fun z : S = b => off (by rw [z]; exact hbf))).trans e
      refine wpAny_pure ⟨plainId_quiet F.plain_min_loop _, ih (j + 1) _ v _ (by omega) hlt st2 (by simp only [argBest, q, if_true]; exact hv)
        (Heap.get?_update_self _ hS' rfl) fun v' h'' tk'' hP' keep' => ?_⟩
      exact hR v' h'' tk'' hP' fun b o h1 h2 e => keep' b o h1 h2 ((Heap.get?_update_other _ _ (Ne.symm h2)).trans (keep b o h1 e))
    | false =>
      simp only [Bool.false_eq_true, if_false]
      refine wpAny_bind (wpAny_letGo ?_)
      rw [nm]
      refine wpAny_pure ⟨plainId_quiet F.plain_min_loop _, ih (j + 1) _ vb c (by omega) hlt hst'
        (by simp only [argBest, q, Bool.false_eq_true, if_false]; exact hb) hS' fun v' h'' tk'' hP' keep' => ?_⟩
      exact hR v' h'' tk'' hP' fun b o h1 h2 e => keep' b o h1 h2 (keep b o h1 e)

theorem dl_min0 (W : Walks prog w A.in1 I fp wr n P St) (bt : Nat → Nat → Bool) (cmp : CmpOf prog w A.in1 .Lt P bt) (S : Addr) (off : S ∉ fp) (d : Value)
    {s : Shared} {c : Nat} (hst : St 0 s.heap) (hS : s.heap.get? S = some { cls := .type "list", dict := none, data := .seq #[] c, slots := #[] })
    (hR : ∀ v h' tk, (n = 0 → v = d) → (0 < n → P (argBest bt (n - 1)) v) → (∀ b o, b ∉ wr → b ≠ S → s.heap.get? b = some o → h'.get? b = some o) →
      R (.ok (.ret v)) { s with heap := h', toks := tk }) :
    codeAny (model prog w) A (.builtin "min.loop" ⟨[.ref I, .none, .ref S], dkw d⟩) R s := by
  have offW : S ∉ wr := fun z => off (W.sub _ z)
  have nm : (toString "min" ++ toString ".loop" : String) = "min.loop" := by decide
  refine codeAny_builtin F.entry_min_loop ?_
  rw [Around.under_plainId F.plain_min_loop _]
  show wpAny _ A.in1 (seqItems? (.ref S) >>= _) _ _ s
  refine wpAny_bind (wpAny_seqItems hS rfl ?_)
  show wpAny _ A.in1 (tryCatch (pyNext (.ref I)) _ >>= _) _ _ s
  by_cases hn : 0 < n
  · refine wpAny_bind (wpAny_tryCatch (W.item 0 s _ _ hn hst fun v h' tk hv hst' keep => ?_))
    have hS' := keep S _ offW hS
    show wpAny _ A.in1 (updateSeq S (fun _ => #[v, v]) >>= _) _ _ _
    refine wpAny_bind ?_
    refine wpAny_updateSeq hS' rfl ?_
    rw [nm]
    have st2 := W.frame _ _ (h'.update S (Obj.mapSeq fun _ => #[v, v])) hst' fun b hbf o e =>
      (Heap.get?_update_other _ _ (fun z : S = b => off (by rw [z]; exact hbf))).trans e
    refine wpAny_pure ⟨plainId_quiet F.plain_min_loop _, dl_min W bt cmp S off d _ 0 _ v _ rfl hn st2 hv (Heap.get?_update_self _ hS' rfl) fun v' h'' tk'' hP' keep' => ?_⟩
    exact hR v' h'' tk'' (fun z => by omega) (fun _ => hP') fun b o h1 h2 e => keep' b o h1 h2 ((Heap.get?_update_other _ _ (Ne.symm h2)).trans (keep b o h1 e))
  · have h0 : 0 = n := by omega
    refine wpAny_bind (wpAny_tryCatch (W.done s _ _ (h0 ▸ hst) fun h' tk keep => ?_))
    show wpAny _ A.in1 (rule _ >>= _) _ _ _
    refine wpAny_bind (wpAny_rule ?_)
    exact wpAny_pure (hR d h' tk (fun _ => rfl) (fun z => absurd z hn) fun b o h1 _ e => keep b o h1 e)
end

section
variable {prog : Program} {w : World} {A : Around} {E : Value → Shared → Prop} {s : Shared}
theorem args_mind (a d : Value) : argsOk "min" ⟨[a], dkw d⟩ := by unfold argsOk; kernel_rfl
theorem min_dflt {l : Addr} {its : List Value} {ns : List Int} {d : Value} {Q : Value → Shared → Prop} (hh : A.handled = none)
    (hl : s.heap.IsList l its.toArray) (hi : IntsAre its ns)
    (h : ∀ v h' tk, (ns = [] → v = d) → (ns ≠ [] → ∃ M t, v = .int M t ∧ M ∈ ns ∧ ∀ a ∈ ns, M ≤ a) → (∀ b o, s.heap.get? b = some o → h'.get? b = some o) →
      Q v { s with heap := h', toks := tk }) :
    wpAny (model prog w) A (call (.builtin "min") [.ref l] (dkw d)) Q E s := by
  have nm : (toString "min" ++ toString ".loop" : String) = "min.loop" := by decide
  obtain ⟨xs, e⟩ := hi.allInts.items
  have hn : numsOf (intItems xs).toList = ns := by rw [← e]; exact hi.numsOf
  rw [nums_intItems] at hn
  subst hn
  rw [e] at hl
  refine call_treeK F.kind_min F.plain_min F.entry_min (args_mind _ _) ?_
  show wpAny _ A.in1 (Builtin.Builtins.bindParams "min" ["key", "default"] 0 ⟨[], dkw d⟩ >>= _) _ _ s
  refine wpAny_bind (wpAny_of_eq (show Builtin.Builtins.bindParams "min" ["key", "default"] 0 ⟨[], dkw d⟩ = pure [none, some d] from rfl) ?_)
  refine wpAny_bind (wpAny_pure ?_)
  refine wpAny_bind (iter_intList hl fun s2 es st hfp hlI => ?_)
  subst es
  refine wpAny_bind (wpAny_newObj_type ?_)
  rw [nm]
  have W := Walks.list (prog := prog) (w := w) (A := A.in1) hh _ l hlI (intItems xs)
  refine wpAny_pure ⟨plainId_quiet F.plain_min_loop _, dl_min0 W _ (CmpOf.ints_lt (numAt xs) (fun _ _ => intItems_at)) _ (fun z => Nat.lt_irrefl _ (hfp _ z)) d
    (W.frame _ _ _ st fun b _ o e => Heap.get?_push_of_some _ e) (Heap.get?_push_size _ rfl) fun v h' tk h0 h1 keep => ?_⟩
  have hz : (intItems xs).size = xs.size := by simp [intItems]
  refine h v h' tk (fun z => h0 ?_) (fun z => ?_) ?_
  · have z2 := congrArg List.length z
    rw [List.length_map, Array.length_toList] at z2
    rw [hz]
    exact z2
  · have hp : 0 < xs.size := by
      cases q : xs.toList with
      | nil => rw [q] at z; exact absurd rfl z
      | cons a r =>
        rw [← Array.length_toList, q]
        exact Nat.succ_pos _
    have hv := h1 (by rw [hz]; exact hp)
    rw [hz] at hv
    obtain ⟨t, rfl⟩ := intItems_at hv
    obtain ⟨g1, g2⟩ := argBest_lt (numAt xs) (xs.size - 1)
    refine ⟨_, t, rfl, ?_, fun a ha => ?_⟩
    · rw [numAt_eq]
      exact PySem.getD_mem (by rw [List.length_map, Array.length_toList]; omega)
    · obtain ⟨j, hj, rfl⟩ := mem_getD ha
      rw [List.length_map, Array.length_toList] at hj
      rw [← numAt_eq]
      exact g2 j (by omega)
  · exact old_kept fun b o hb e2 => keep b o hb (Nat.ne_of_lt (Heap.lt_size e2)) (Heap.get?_push_of_some _ e2)
end

section
variable {prog : Program} {w : World} {A : Around} {R : Result → Shared → Prop} {I : Addr} {fp wr : List Addr} {n : Nat}
  {P : Nat → Value → Prop} {St : Nat → Heap → Prop}
theorem dl_max (W : Walks prog w A.in1 I fp wr n P St) (bt : Nat → Nat → Bool) (cmp : CmpOf prog w A.in1 .Gt P bt) (S : Addr) (off : S ∉ fp) (d : Value) :
    ∀ (k j : Nat) (s : Shared) (vb : Value) (c : Nat), n - (j + 1) = k → j + 1 ≤ n → St (j + 1) s.heap → P (argBest bt j) vb →
    s.heap.get? S = some { cls := .type "list", dict := none, data := .seq #[vb, vb] c, slots := #[] } →
    (∀ v h' tk, P (argBest bt (n - 1)) v → (∀ b o, b ∉ wr → b ≠ S → s.heap.get? b = some o → h'.get? b = some o) →
      R (.ok (.ret v)) { s with heap := h', toks := tk }) →
    codeAny (model prog w) A (.builtin "max.loop" ⟨[.ref I, .none, .ref S], dkw d⟩) R s := by
  have offW : S ∉ wr := fun z => off (W.sub _ z)
  have nm : (toString "max" ++ toString ".loop" : String) = "max.loop" := by decide
  intro k
  induction k with
  | zero =>
    intro j s vb c hk hj hst hb hS hR
    have hin : j + 1 = n := by omega
    refine codeAny_builtin F.entry_max_loop ?_
    rw [Around.under_plainId F.plain_max_loop _]
    show wpAny _ A.in1 (seqItems? (.ref S) >>= _) _ _ s
    refine wpAny_bind (wpAny_seqItems hS rfl ?_)
    show wpAny _ A.in1 (tryCatch (pyNext (.ref I)) _ >>= _) _ _ s
    refine wpAny_bind (wpAny_tryCatch (W.done s _ _ (hin ▸ hst) fun h' tk keep => ?_))
    have hS' := keep S _ offW hS
    show wpAny _ A.in1 (updateSeq S (fun _ => #[]) >>= _) _ _ _
    refine wpAny_bind ?_
    refine wpAny_updateSeq hS' rfl (wpAny_bind (wpAny_letGo (wpAny_pure ?_)))
    rw [← hin] at hR
    exact hR vb _ tk hb fun b o h1 h2 e => (Heap.get?_update_other _ _ (Ne.symm h2)).trans (keep b o h1 e)
  | succ k ih =>
    intro j s vb c hk hj hst hb hS hR
    have hlt : j + 1 < n := by omega
    refine codeAny_builtin F.entry_max_loop ?_
    rw [Around.under_plainId F.plain_max_loop _]
    show wpAny _ A.in1 (seqItems? (.ref S) >>= _) _ _ s
    refine wpAny_bind (wpAny_seqItems hS rfl ?_)
    show wpAny _ A.in1 (tryCatch (pyNext (.ref I)) _ >>= _) _ _ s
    refine wpAny_bind (wpAny_tryCatch (W.item (j + 1) s _ _ hlt hst fun v h' tk hv hst' keep => ?_))
    have hS' := keep S _ offW hS
    show wpAny _ A.in1 (tryCatch (holding [v, v] (richCompare .Gt v vb >>= _)) _ >>= _) _ _ _
    refine wpAny_bind (wpAny_tryCatch (wpAny_holding (wpAny_bind (cmp (j + 1) (argBest bt j) v vb _ _ _ hv hb ?_))))
    refine wpAny_bind (wpAny_holding (wpAny_truthy_bool ?_))
    refine wpAny_bind (wpAny_letGo (wpAny_pure ?_))
    cases q : bt (j + 1) (argBest bt j) with
    | true =>
      simp only [if_true]
      refine wpAny_bind ?_
      refine wpAny_updateSeq hS' rfl (wpAny_bind (wpAny_letGo ?_))
      rw [nm]
      have st2 := W.frame _ _ (h'.update S (Obj.mapSeq fun _ => #[v, v])) hst' fun b hbf o e =>
        (Heap.get?_update_other _ _ (fun z : S = b => off (by rw [z]; exact hbf))).trans e
      refine wpAny_pure ⟨plainId_quiet F.plain_max_loop _, ih (j + 1) _ v _ (by omega) hlt st2 (by simp only [argBest, q, if_true]; exact hv)
        (Heap.get?_update_self _ hS' rfl) fun v' h'' tk'' hP' keep' => ?_⟩
      exact hR v' h'' tk'' hP' fun b o h1 h2 e => keep' b o h1 h2 ((Heap.get?_update_other _ _ (Ne.symm h2)).trans (keep b o h1 e))
    | false =>
      simp only [Bool.false_eq_true, if_false]
      refine wpAny_bind (wpAny_letGo ?_)
      rw [nm]
      refine wpAny_pure ⟨plainId_quiet F.plain_max_loop _, ih (j + 1) _ vb c (by omega) hlt hst'
        (by simp only [argBest, q, Bool.false_eq_true, if_false]; exact hb) hS' fun v' h'' tk'' hP' keep' => ?_⟩
      exact hR v' h'' tk'' hP' fun b o h1 h2 e => keep' b o h1 h2 (keep b o h1 e)

theorem dl_max0 (W : Walks prog w A.in1 I fp wr n P St) (bt : Nat → Nat → Bool) (cmp : CmpOf prog w A.in1 .Gt P bt) (S : Addr) (off : S ∉ fp) (d : Value)
    {s : Shared} {c : Nat} (hst : St 0 s.heap) (hS : s.heap.get? S = some { cls := .type "list", dict := none, data := .seq #[] c, slots := #[] })
    (hR : ∀ v h' tk, (n = 0 → v = d) → (0 < n → P (argBest bt (n - 1)) v) → (∀ b o, b ∉ wr → b ≠ S → s.heap.get? b = some o → h'.get? b = some o) →
      R (.ok (.ret v)) { s with heap := h', toks := tk }) :
    codeAny (model prog w) A (.builtin "max.loop" ⟨[.ref I, .none, .ref S], dkw d⟩) R s := by
  have offW : S ∉ wr := fun z => off (W.sub _ z)
  have nm : (toString "max" ++ toString ".loop" : String) = "max.loop" := by decide
  refine codeAny_builtin F.entry_max_loop ?_
  rw [Around.under_plainId F.plain_max_loop _]
  show wpAny _ A.in1 (seqItems? (.ref S) >>= _) _ _ s
  refine wpAny_bind (wpAny_seqItems hS rfl ?_)
  show wpAny _ A.in1 (tryCatch (pyNext (.ref I)) _ >>= _) _ _ s
  by_cases hn : 0 < n
  · refine wpAny_bind (wpAny_tryCatch (W.item 0 s _ _ hn hst fun v h' tk hv hst' keep => ?_))
    have hS' := keep S _ offW hS
    show wpAny _ A.in1 (updateSeq S (fun _ => #[v, v]) >>= _) _ _ _
    refine wpAny_bind ?_
    refine wpAny_updateSeq hS' rfl ?_
    rw [nm]
    have st2 := W.frame _ _ (h'.update S (Obj.mapSeq fun _ => #[v, v])) hst' fun b hbf o e =>
      (Heap.get?_update_other _ _ (fun z : S = b => off (by rw [z]; exact hbf))).trans e
    refine wpAny_pure ⟨plainId_quiet F.plain_max_loop _, dl_max W bt cmp S off d _ 0 _ v _ rfl hn st2 hv (Heap.get?_update_self _ hS' rfl) fun v' h'' tk'' hP' keep' => ?_⟩
    exact hR v' h'' tk'' (fun z => by omega) (fun _ => hP') fun b o h1 h2 e => keep' b o h1 h2 ((Heap.get?_update_other _ _ (Ne.symm h2)).trans (keep b o h1 e))
  · have h0 : 0 = n := by omega
    refine wpAny_bind (wpAny_tryCatch (W.done s _ _ (h0 ▸ hst) fun h' tk keep => ?_))
    show wpAny _ A.in1 (rule _ >>= _) _ _ _
    refine wpAny_bind (wpAny_rule ?_)
    exact wpAny_pure (hR d h' tk (fun _ => rfl) (fun z => absurd z hn) fun b o h1 _ e => keep b o h1 e)
end

section
variable {prog : Program} {w : World} {A : Around} {E : Value → Shared → Prop} {s : Shared}
theorem args_maxd (a d : Value) : argsOk "max" ⟨[a], dkw d⟩ := by unfold argsOk; kernel_rfl
theorem max_dflt {l : Addr} {its : List Value} {ns : List Int} {d : Value} {Q : Value → Shared → Prop} (hh : A.handled = none)
    (hl : s.heap.IsList l its.toArray) (hi : IntsAre its ns)
    (h : ∀ v h' tk, (ns = [] → v = d) → (ns ≠ [] → ∃ M t, v = .int M t ∧ M ∈ ns ∧ ∀ a ∈ ns, a ≤ M) → (∀ b o, s.heap.get? b = some o → h'.get? b = some o) →
      Q v { s with heap := h', toks := tk }) :
    wpAny (model prog w) A (call (.builtin "max") [.ref l] (dkw d)) Q E s := by
  have nm : (toString "max" ++ toString ".loop" : String) = "max.loop" := by decide
  obtain ⟨xs, e⟩ := hi.allInts.items
  have hn : numsOf (intItems xs).toList = ns := by rw [← e]; exact hi.numsOf
  rw [nums_intItems] at hn
  subst hn
  rw [e] at hl
  refine call_treeK F.kind_max F.plain_max F.entry_max (args_maxd _ _) ?_
  show wpAny _ A.in1 (Builtin.Builtins.bindParams "max" ["key", "default"] 0 ⟨[], dkw d⟩ >>= _) _ _ s
  refine wpAny_bind (wpAny_of_eq (show Builtin.Builtins.bindParams "max" ["key", "default"] 0 ⟨[], dkw d⟩ = pure [none, some d] from rfl) ?_)
  refine wpAny_bind (wpAny_pure ?_)
  refine wpAny_bind (iter_intList hl fun s2 es st hfp hlI => ?_)
  subst es
  refine wpAny_bind (wpAny_newObj_type ?_)
  rw [nm]
  have W := Walks.list (prog := prog) (w := w) (A := A.in1) hh _ l hlI (intItems xs)
  refine wpAny_pure ⟨plainId_quiet F.plain_max_loop _, dl_max0 W _ (CmpOf.ints_gt (numAt xs) (fun _ _ => intItems_at)) _ (fun z => Nat.lt_irrefl _ (hfp _ z)) d
    (W.frame _ _ _ st fun b _ o e => Heap.get?_push_of_some _ e) (Heap.get?_push_size _ rfl) fun v h' tk h0 h1 keep => ?_⟩
  have hz : (intItems xs).size = xs.size := by simp [intItems]
  refine h v h' tk (fun z => h0 ?_) (fun z => ?_) ?_
  · have z2 := congrArg List.length z
    rw [List.length_map, Array.length_toList] at z2
    rw [hz]
    exact z2
  · have hp : 0 < xs.size := by
      cases q : xs.toList with
      | nil => rw [q] at z; exact absurd rfl z
      | cons a r =>
        rw [← Array.length_toList, q]
        exact Nat.succ_pos _
    have hv := h1 (by rw [hz]; exact hp)
    rw [hz] at hv
    obtain ⟨t, rfl⟩ := intItems_at hv
    obtain ⟨g1, g2⟩ := argBest_gt (numAt xs) (xs.size - 1)
    refine ⟨_, t, rfl, ?_, fun a ha => ?_⟩
    · rw [numAt_eq]
      exact PySem.getD_mem (by rw [List.length_map, Array.length_toList]; omega)
    · obtain ⟨j, hj, rfl⟩ := mem_getD ha
      rw [List.length_map, Array.length_toList] at hj
      rw [← numAt_eq]
      exact g2 j (by omega)
  · exact old_kept fun b o hb e2 => keep b o hb (Nat.ne_of_lt (Heap.lt_size e2)) (Heap.get?_push_of_some _ e2)
end

/-- min(xs, default=d), xs a list of whole numbers -/
def rBestD (K : PySem.W.Frag) (le : Int → Int → Prop) : List V → List V → Hp → VK → Prop := fun vs zs H Q =>
  ∃ (a : Addr) (ns : List Int), vs = [.ref a] ∧ zs = [.non] ∧ SqL K H a (ns.map V.int) ∧
    (ns = [] → Q .non H) ∧ ∀ M, M ∈ ns → (∀ z ∈ ns, le M z) → Q (.int M) H
theorem cr_minD {X : Cx} (hc : X.calm = true) : CallRK X (.builtin "min") [Str.ofString "default"] (rBestD X.K (fun m z => m ≤ z)) := by
  intro pins s σ H vs zs us ws Q I r rz h
  obtain ⟨a, ns, rfl, rfl, hs, q0, q1⟩ := h
  obtain ⟨its, rv, hl, _⟩ := I.list hs
  rw [Vals.ref1 r]
  cases rz with
  | cons rd rn =>
    cases rn
    cases rd
    refine min_dflt (I.ok.hd hc) hl.isList rv.ints fun v h' tk e0 e1 keep => ?_
    by_cases hn : ns = []
    · rw [e0 hn]
      exact ⟨.non, H, I.kept keep, rfl, q0 hn⟩
    · obtain ⟨M, t, rfl, hm, hle⟩ := e1 hn
      exact ⟨.int M, H, I.kept keep, ⟨_, rfl⟩, q1 M hm hle⟩
theorem cr_maxD {X : Cx} (hc : X.calm = true) : CallRK X (.builtin "max") [Str.ofString "default"] (rBestD X.K (fun m z => z ≤ m)) := by
  intro pins s σ H vs zs us ws Q I r rz h
  obtain ⟨a, ns, rfl, rfl, hs, q0, q1⟩ := h
  obtain ⟨its, rv, hl, _⟩ := I.list hs
  rw [Vals.ref1 r]
  cases rz with
  | cons rd rn =>
    cases rn
    cases rd
    refine max_dflt (I.ok.hd hc) hl.isList rv.ints fun v h' tk e0 e1 keep => ?_
    by_cases hn : ns = []
    · rw [e0 hn]
      exact ⟨.non, H, I.kept keep, rfl, q0 hn⟩
    · obtain ⟨M, t, rfl, hm, hle⟩ := e1 hn
      exact ⟨.int M, H, I.kept keep, ⟨_, rfl⟩, q1 M hm hle⟩
end GL

/-! defs by their names, over the guard layer; the draws of a law -/
namespace GL
open PySem PySem.Spec PyProof.Rows L2

/-- a def of the text as the top leaves it -/
structure DefAt (K : PySem.W.Frag) (mg : Str → Option Value) (x : Str) (st : Stmt) (ps : List Str) : Prop where
  ex : ∃ f fd, L2.Fun K x x st f fd ∧ mg x = some (.ref f) ∧ Binds K fd ps []
/-- a def that may be called -/
structure Cal (P : Program) (w : World) (K : PySem.W.Frag) (mg : Str → Option Value) (base : Heap) (k : Nat) (x : Str) (sp : Sp) : Prop where
  ex : ∃ f fd ps, Fn0 P w K mg base CX0 k f fd ps sp ∧ mg x = some (.ref f) ∧ PySem.W.keepIn K (.ref f) = true ∧ Binds K fd ps []

section
variable {P : Program} {w : World} {K : PySem.W.Frag} {mg : Str → Option Value} {base : Heap}
theorem cal_mk {x : Str} {st : Stmt} {N ps : List Str} {k : Nat} {sp : Sp} (D : DefAt K mg x st ps) (S : FnScope N ps (defScope st))
    (len : ∀ vs H Q E, sp vs H Q E → vs.length = ps.length)
    (body : ∀ (f : Addr) (cdv : Value) (A : Around) (outer : List Env) (s : Shared) (H : Hp) (vs : List V) (Q : VK) (E : XK),
      A.guards = some [] → Room k (A.deeper (envOfC x (defScope st) s.heap.objs.size f cdv)) → sp vs H Q E →
      ∃ t, PSs (cxOf CX0 P w K mg base N x (defScope st) f cdv A outer s H E).nox (defBody st) t ∧
        t { nx := fun _ H' => Q .non H', rt := Q } (start N vs) H) :
    Cal P w K mg base (k + 1) x sp := by
  obtain ⟨f, fd, F, m, b⟩ := D.ex
  exact ⟨f, fd, ps, fn0_of F S len (fun cdv A outer s H vs Q E hG hr h => body f cdv A outer s H vs Q E hG hr h), m, F.kp, b⟩
end

section
variable {X : Cx} {k j : Nat} {x : Str} {sp : Sp} {p pos : Pos} {e : Expr} {es : List Expr} {t : TA}
/-- f(e, ..) -/
theorem pe_cg (c : Cal X.prog X.w X.K X.mg X.base k x sp) (hG : X.A.guards = some []) (hr : Room j X.A) (hk : k ≤ j) (hg : Gl X x) (ha : PA X (e :: es) t)
    (hdb : (x == ("__debug__" : Str)) = false := by decide) (he : starEach (e :: es) X.env = (false, eval e X.env) :: starEach es X.env := by rfl)
    (hpl : (backTo pos (starEach es X.env)).any (·.1) = false := by rfl) :
    PE X (.Call (.Name x p) (e :: es) [] pos) (tCall sp [] (fun _ _ _ => False) t) := by
  obtain ⟨f, fd, ps, F, m, kp, b⟩ := c.ex
  exact pe_call0g F hG (hr.mono hk) hg m kp b .nil pass0 ha hdb he hpl
/-- xs[i], for xs[i] += e -/
theorem pg_list : PGet X (fun x y H Q => ∃ p xs i v, x = .ref p ∧ y = .int i ∧ SqL X.K H p xs ∧ 0 ≤ i ∧ xs[i.toNat]? = some v ∧ Q v H) := by
  intro pins s σ H o i ov iv Q I ro ri h
  obtain ⟨p, xs, n, v, rfl, rfl, hq, h0, hv, q⟩ := h
  cases ro
  obtain ⟨t, rfl⟩ := ri
  obtain ⟨its, r, pl, hz⟩ := I.list hq
  obtain ⟨u, hu, ru⟩ := r.get hv
  have hl := r.length
  have hn := line63
  have hlt : n.toNat < its.length := (List.getElem?_eq_some_iff.mp hu).1
  exact wpAny_getItem_list pl.isList h0 (by omega) (by simpa using hu) ⟨v, H, I, ru, q⟩
end

/-! ### heaps -/
/-- all stays but what stands at b -/
def Kp (b : Addr) (H H' : Hp) : Prop := ∀ q o, q ≠ b → H q = some o → H' q = some o
theorem Kp.refl (b : Addr) (H : Hp) : Kp b H H := fun _ _ _ e => e
theorem Kp.trans {b : Addr} {H H' H'' : Hp} (a : Kp b H H') (c : Kp b H' H'') : Kp b H H'' := fun q o n e => c q o n (a q o n e)
theorem Kp.new {b p : Addr} {H : Hp} {o : HO} (h : H p = none) : Kp b H (upd H p o) := fun q u _ e => by
  rw [upd_ne (ne_of_none e h)]
  exact e
theorem Kp.at {b : Addr} {H : Hp} {o : HO} : Kp b H (upd H b o) := fun q u n e => by rw [upd_ne n]; exact e
theorem Kp.tup {b : Addr} {H H' : Hp} (k : Kp b H H') {xs : List V} {t : Addr} {ys : List V} (hb : H b = some (.lst xs)) (h : H t = some (.tup ys)) : H' t = some (.tup ys) :=
  k t _ (ne_of h hb (by intro z; cases z)) h
theorem Kp.sqT {b : Addr} {H H' : Hp} {K : PySem.W.Frag} (k : Kp b H H') {xs : List V} {t : Addr} {ys : List V} (hb : H b = some (.lst xs)) (h : SqT K H t ys) : SqT K H' t ys := by
  rcases h with (h | ⟨o, h⟩) | h
  · exact .inl (.inl (k.tup hb h))
  · exact .inl (.inr ⟨o, k t _ (ne_of h hb (by intro z; cases z)) h⟩)
  · exact .inr h
theorem Kp.sqL {b a : Addr} {H H' : Hp} {K : PySem.W.Frag} (k : Kp b H H') {ys : List V} (hb : a ≠ b) (h : SqL K H a ys) : SqL K H' a ys := by
  rcases h with (h | ⟨o, h⟩) | h
  · exact .inl (.inl (k a _ hb h))
  · exact .inl (.inr ⟨o, k a _ hb h⟩)
  · exact .inr h

theorem put_new {p : Addr} {H : Hp} (h : H p = none) (o : HO) : Same H (upd H p o) := fun q u e => by
  rw [upd_ne (ne_of_none e h)]
  exact e
/-! ### the draws -/
/-- a law's bag stands at b -/
def Bag (H : Hp) (b c : Addr) : Prop := ∃ (s0 s1 s2 : Int) (ns : List Int),
  H b = some (.lst [.int s0, .int s1, .int s2, .ref c]) ∧ H c = some (.lst (ns.map V.int)) ∧ 0 ≤ s1 ∧ s1 < 2147483647 ∧ ns.length ≤ 1000
theorem Bag.lst {H : Hp} {b c : Addr} (h : Bag H b c) : ∃ xs, H b = some (.lst xs) := by
  obtain ⟨_, _, _, _, h, _⟩ := h
  exact ⟨_, h⟩
theorem Bag.cne {H : Hp} {b c : Addr} {s0 s1 s2 : Int} {ns : List Int} (h : H b = some (.lst [.int s0, .int s1, .int s2, .ref c])) (h' : H c = some (.lst (ns.map V.int))) : c ≠ b := by
  refine ne_of h' h fun z => ?_
  have z1 : ns.map V.int = [.int s0, .int s1, .int s2, .ref c] := HO.lst.inj z
  have z2 : V.ref c ∈ ns.map V.int := by rw [z1]; simp
  obtain ⟨n, _, e⟩ := List.mem_map.mp z2
  cases e
theorem Bag.cell {H : Hp} {b c : Addr} (h : Bag H b c) : c ≠ b ∧ ∃ ns : List Int, H c = some (.lst (ns.map V.int)) := by
  obtain ⟨_, _, _, ns, h1, h2, _⟩ := h
  exact ⟨Bag.cne h1 h2, ns, h2⟩
/-- a thing that is not the bag's changes -/
theorem Bag.other {H : Hp} {b c p : Addr} {o : HO} (h : Bag H b c) (h1 : p ≠ b) (h2 : p ≠ c) : Bag (upd H p o) b c := by
  obtain ⟨s0, s1, s2, ns, g1, g2, g3⟩ := h
  exact ⟨s0, s1, s2, ns, by rw [upd_ne h1.symm]; exact g1, by rw [upd_ne h2.symm]; exact g2, g3⟩
/-- nothing but new things: the bag stays -/
theorem Bag.new {H : Hp} {b c p : Addr} {o : HO} (h : Bag H b c) (hp : H p = none) : Bag (upd H p o) b c := by
  obtain ⟨s0, s1, s2, ns, h1, h2, h3⟩ := h
  exact ⟨s0, s1, s2, ns, by rw [upd_ne (ne_of_none h1 hp)]; exact h1, by rw [upd_ne (ne_of_none h2 hp)]; exact h2, h3⟩
theorem Bag.same {H H' : Hp} {b c : Addr} (h : Bag H b c) (k : Same H H') : Bag H' b c := by
  obtain ⟨s0, s1, s2, ns, h1, h2, h3⟩ := h
  exact ⟨s0, s1, s2, ns, k _ _ h1, k _ _ h2, h3⟩
theorem Kp.of {b : Addr} {H H' : Hp} (k : Same H H') : Kp b H H' := fun q o _ e => k q o e

theorem cut_ints (ns : List Int) (lo hi : Option Int) : ∃ ms : List Int, cutV (ns.map V.int) lo hi = ms.map V.int := by
  unfold cutV
  exact ⟨_, by rw [← List.map_drop, ← List.map_take]⟩
theorem len1000 {n : Nat} (h : n ≤ 1000) : n + 1 ≤ sizeLine := small1000 h

def spTake : Sp := fun vs H Q _ => ∃ (b c : Addr) (many : Int), vs = [.ref b, .int many] ∧ Bag H b c ∧ 0 < many ∧ many < 1073741824 ∧
  ∀ (r : Int) H', Kp b H H' → Bag H' b c → 0 ≤ r → r < many → Q (.int r) H'
def spBag (K : PySem.W.Frag) : Sp := fun vs H Q _ => ∃ (a : Addr) (ns : List Int), vs = [.ref a] ∧ SqL K H a (ns.map V.int) ∧ ns.length ≤ 63 ∧
  ∀ b c H', Same H H' → H b = none → H c = none → Bag H' b c → Q (.ref b) H'
def spSome (K : PySem.W.Frag) : Sp := fun vs H Q _ => ∃ (b c t : Addr) (xs : List V), vs = [.ref b, .ref t] ∧ Bag H b c ∧ ((SqL K H t xs ∧ t ≠ b) ∨ SqT K H t xs) ∧ xs ≠ [] ∧ xs.length < 1000000 ∧
  ∀ x H', x ∈ xs → Kp b H H' → Bag H' b c → Q x H'
def spMixed (K : PySem.W.Frag) : Sp := fun vs H Q _ => ∃ (b c t : Addr) (xs : List V), vs = [.ref b, .ref t] ∧ Bag H b c ∧ SqL K H t xs ∧ t ≠ b ∧ xs.length ≤ 1000 ∧
  ∀ (p : Addr) (ys : List V) H', ys.Perm xs → Kp b H H' → Bag H' b c → H p = none → H' p = some (.lst ys) → Q (.ref p) H'
def spAlike (K : PySem.W.Frag) : Sp := fun vs H Q _ => ∃ (a b : Addr) (d : PyData), vs = [.ref a, .ref b] ∧ Dp K H (.ref a) d ∧ Dp K H (.ref b) d ∧
  SeqAt.shaped d = true ∧ Shows d ∧ Q (.bl true) H
end GL

/-! comprehensions by what each turn gives; tuples that stay; rows -/
namespace GL
open PySem PySem.Spec PyProof.Rows L2
open PySem.W (EachIs)

/-- the tuples stay -/
def TupK (H H' : Hp) : Prop := ∀ (K : PySem.W.Frag) (t : Addr) (ys : List V), SqT K H t ys → SqT K H' t ys
theorem TupK.refl (H : Hp) : TupK H H := fun _ _ _ h => h
theorem TupK.trans {H H' H'' : Hp} (a : TupK H H') (b : TupK H' H'') : TupK H H'' := fun K t ys h => b K t ys (a K t ys h)
theorem TupK.same {H H' : Hp} (k : Same H H') : TupK H H' := fun K t ys h => by
  rcases h with (h | ⟨o, h⟩) | h
  · exact .inl (.inl (k _ _ h))
  · exact .inl (.inr ⟨o, k _ _ h⟩)
  · exact .inr h
theorem TupK.kp {b : Addr} {H H' : Hp} {xs : List V} (k : Kp b H H') (hb : H b = some (.lst xs)) : TupK H H' := fun _ _ _ h => k.sqT hb h
theorem TupK.upd {D : Addr} {H : Hp} {acc : List V} {o : HO} (hD : H D = some (.lst acc)) : TupK H (upd H D o) := TupK.kp Kp.at hD
theorem TupK.new {p : Addr} {H : Hp} (h : H p = none) (o : HO) : TupK H (L2.upd H p o) := TupK.same (put_new h o)

theorem each_mono {α β : Type} {R R' : α → β → Prop} (f : ∀ a b, R a b → R' a b) : ∀ {as : List α} {bs : List β}, EachIs R as bs → EachIs R' as bs
  | _, _, .nil => .nil
  | _, _, .cons h t => .cons (f _ _ h) (each_mono f t)
theorem each_snoc {α β : Type} {R : α → β → Prop} {a : α} {b : β} (h : R a b) : ∀ {as : List α} {bs : List β}, EachIs R as bs → EachIs R (as ++ [a]) (bs ++ [b])
  | _, _, .nil => .cons h .nil
  | _, _, .cons h' t => .cons h' (each_snoc h t)

/-- what a comprehension's turns may change -/
structure LcG (H0 : Hp) (D : Addr) (Rel : Hp → Hp → Prop) (G : Hp → Prop) : Prop where
  refl : ∀ H, Rel H H
  trans : ∀ {H H' H''}, Rel H H' → Rel H' H'' → Rel H H''
  tk : ∀ {H'}, Rel H0 H' → TupK H0 H'
  tk2 : ∀ {H H'}, G H → Rel H H' → TupK H H'
  keepD : ∀ {H H' acc}, Rel H H' → H D = some (.lst acc) → H' D = some (.lst acc)
  upd : ∀ {H acc acc'}, Rel H0 H → H D = some (.lst acc) → Rel H0 (L2.upd H D (.lst acc'))
  new : Rel H0 (L2.upd H0 D (.lst []))
  gU : ∀ {H acc acc'}, G H → H D = some (.lst acc) → G (L2.upd H D (.lst acc'))
  g0 : G (L2.upd H0 D (.lst []))
theorem LcG.pure {H0 : Hp} {D : Addr} (h : H0 D = none) : LcG H0 D Same fun _ => True where
  refl := fun _ _ _ e => e
  trans := fun a b => a.trans b
  tk := TupK.same
  tk2 := fun _ k => TupK.same k
  keepD := fun k e => k _ _ e
  upd := fun k e q o z => by rw [upd_ne (ne_of_none z h)]; exact k q o z
  new := put_new h _
  gU := fun _ _ => trivial
  g0 := trivial
theorem LcG.draw {H0 : Hp} {D b c : Addr} (h : H0 D = none) (hB : Bag H0 b c) : LcG H0 D (Kp b) fun H => Bag H b c := by
  obtain ⟨zs, hz⟩ := hB.lst
  obtain ⟨ncb, ns, hc⟩ := hB.cell
  have nb : D ≠ b := fun z => by rw [z, hz] at h; cases h
  have nc : D ≠ c := fun z => by rw [z, hc] at h; cases h
  exact {
    refl := Kp.refl b
    trans := fun a c => a.trans c
    tk := fun k => TupK.kp k hz
    tk2 := fun g k => by
      obtain ⟨ys, hy⟩ := g.lst
      exact TupK.kp k hy
    keepD := fun k e => k _ _ nb e
    upd := fun k e q o n z => by rw [upd_ne (ne_of_none z h)]; exact k q o n z
    new := Kp.new h
    gU := fun g e => g.other nb nc
    g0 := hB.new h }

section
variable {K : PySem.W.Frag} {g : TG} {tt : TT} {te : TE} {vs : List Nat} {σ : L2.St} {H1 : Hp} {D : Addr} {Qd : Hp → Prop} {Rel : Hp → Hp → Prop} {G : Hp → Prop} {β : Type}
/-- one turn: x the item, o what comes of it (none: left out) -/
def Turn (g : TG) (tt : TT) (te : TE) (vs : List Nat) (σ : L2.St) (Rel : Hp → Hp → Prop) (G : Hp → Prop) (Y : Hp → V → β → Prop) (x : V) (o : Option β) (H : Hp) : Prop :=
  ∀ (Qe : VK) (Qn : Hp → Prop), (∀ y H4 b, o = some b → Rel H H4 → G H4 → Y H4 y b → Qe y H4) → (∀ H3, o = none → Rel H H3 → G H3 → Qn H3) →
    g x (wipe σ vs) H fun σ2 H2 => wipe σ2 vs = wipe σ vs ∧ tt σ2 H2 fun b H3 => if b = true then te σ2 H3 Qe else Qn H3
/-- the list so far -/
def Lp (H1 : Hp) (D : Addr) (Rel : Hp → Hp → Prop) (G : Hp → Prop) (Y : Hp → V → β → Prop) (out : Nat → Option β) (i : Nat) (H : Hp) : Prop :=
  ∃ (acc : List V) (bs : List β), Rel H1 H ∧ G H ∧ H D = some (.lst acc) ∧ EachIs (Y H) acc bs ∧ bs = (List.range i).filterMap out
variable {Y : Hp → V → β → Prop} {out : Nat → Option β}
theorem fm_le (out : Nat → Option β) : ∀ i, ((List.range i).filterMap out).length ≤ i
  | i => Nat.le_trans (List.length_filterMap_le _ _) (by rw [List.length_range]; exact Nat.le_refl _)
theorem Lp.zero (L : LcG H1 D Rel G) : Lp H1 D Rel G Y out 0 (upd H1 D (.lst [])) := ⟨[], [], L.new, L.g0, upd_same, .nil, rfl⟩
theorem Lp.turn (L : LcG H1 D Rel G) (mono : ∀ H H' v b, TupK H H' → Y H v b → Y H' v b) {i : Nat} {x : V} {H : Hp} (hi : i < 1000) (hp : Lp H1 D Rel G Y out i H)
    (step : Rel H1 H → G H → Turn g tt te vs σ Rel G Y x (out i) H) :
    g x (wipe σ vs) H fun σ2 H2 => wipe σ2 vs = wipe σ vs ∧ tt σ2 H2 fun b H3 =>
      if b = true then te σ2 H3 fun y H4 => ∃ acc, H4 D = some (.lst acc) ∧ acc.length < sizeLine ∧ Lp H1 D Rel G Y out (i + 1) (upd H4 D (.lst (acc ++ [y])))
      else Lp H1 D Rel G Y out (i + 1) H3 := by
  obtain ⟨acc, bs, r1, g1, hD, ea, rfl⟩ := hp
  refine step r1 g1 _ _ (fun y H4 b eo r4 g4 hy => ?_) fun H3 eo r3 g3 => ?_
  · have hD4 := L.keepD r4 hD
    have t4 := (L.tk2 g1 r4).trans (TupK.upd (o := .lst (acc ++ [y])) hD4)
    refine ⟨acc, hD4, small1000 ?_, acc ++ [y], _, L.upd (L.trans r1 r4) hD4, L.gU g4 hD4, upd_same,
      each_snoc (mono _ _ _ _ (TupK.upd hD4) hy) (each_mono (fun v b => mono _ _ _ _ t4) ea), ?_⟩
    · have l1 := ea.length
      have l2 := fm_le out i
      omega
    · rw [List.range_succ, List.filterMap_append]
      simp [eo]
  · refine ⟨acc, _, L.trans r1 r3, g3, L.keepD r3 hD, each_mono (fun v b => mono _ _ _ _ (L.tk2 g1 r3)) ea, ?_⟩
    rw [List.range_succ, List.filterMap_append]
    simp [eo]

theorem lcg_tup {a : Addr} {xs : List V} (L : LcG H1 D Rel G) (mono : ∀ H H' v b, TupK H H' → Y H v b → Y H' v b) (src : SqT K H1 a xs) (hl : xs.length ≤ 1000)
    (step : ∀ i x H, xs[i]? = some x → Rel H1 H → G H → Turn g tt te vs σ Rel G Y x (out i) H)
    (fin : ∀ H acc bs, Rel H1 H → G H → H D = some (.lst acc) → EachIs (Y H) acc bs → bs = (List.range xs.length).filterMap out → Qd H) :
    ∃ W : Nat → Nat → Hp → Prop, (∃ m, W 0 m (upd H1 D (.lst []))) ∧ ∀ i m H, W i m H →
      ((Itt K a).stop i H ∧ Qd H) ∨ ((Itt K a).go i H ∧ ∃ Nx : Hp → Prop, (∀ H', Nx H' → ∃ m', m' < m ∧ W (i + 1) m' H') ∧ ∀ x H', (Itt K a).yld i H x H' → g x (wipe σ vs) H' fun σ2 H2 =>
        wipe σ2 vs = wipe σ vs ∧ tt σ2 H2 fun b H3 => if b = true then te σ2 H3 fun y H4 => ∃ acc, H4 D = some (.lst acc) ∧ acc.length < sizeLine ∧ Nx (upd H4 D (.lst (acc ++ [y]))) else Nx H3) := by
  refine lc_tup (K := K) (a := a) (xs := xs) (Lp H1 D Rel G Y out) (Lp.zero L) (fun i H _ hp => ?_) (fun i x H hx hp => ?_) (fun H hp => ?_)
  · obtain ⟨_, _, r1, _⟩ := hp
    exact L.tk r1 K a xs src
  · have hi : i < xs.length := (List.getElem?_eq_some_iff.mp hx).1
    exact Lp.turn L mono (by omega) hp fun r g => step i x H hx r g
  · obtain ⟨acc, bs, r1, g1, hD, ea, e⟩ := hp
    exact fin H acc bs r1 g1 hD ea e
theorem lcg_list {a : Addr} {xs : List V} (L : LcG H1 D Rel G) (mono : ∀ H H' v b, TupK H H' → Y H v b → Y H' v b) (src : ∀ H, Rel H1 H → SqL K H a xs) (hl : xs.length ≤ 1000)
    (step : ∀ i x H, xs[i]? = some x → Rel H1 H → G H → Turn g tt te vs σ Rel G Y x (out i) H)
    (fin : ∀ H acc bs, Rel H1 H → G H → H D = some (.lst acc) → EachIs (Y H) acc bs → bs = (List.range xs.length).filterMap out → Qd H) :
    ∃ W : Nat → Nat → Hp → Prop, (∃ m, W 0 m (upd H1 D (.lst []))) ∧ ∀ i m H, W i m H →
      ((Itl K a).stop i H ∧ Qd H) ∨ ((Itl K a).go i H ∧ ∃ Nx : Hp → Prop, (∀ H', Nx H' → ∃ m', m' < m ∧ W (i + 1) m' H') ∧ ∀ x H', (Itl K a).yld i H x H' → g x (wipe σ vs) H' fun σ2 H2 =>
        wipe σ2 vs = wipe σ vs ∧ tt σ2 H2 fun b H3 => if b = true then te σ2 H3 fun y H4 => ∃ acc, H4 D = some (.lst acc) ∧ acc.length < sizeLine ∧ Nx (upd H4 D (.lst (acc ++ [y]))) else Nx H3) := by
  refine lc_list (K := K) (a := a) (xs := xs) (Lp H1 D Rel G Y out) (Lp.zero L) (fun i H _ hp => ?_) (fun i x H hx hp => ?_) (fun H hp => ?_)
  · obtain ⟨_, _, r1, _⟩ := hp
    exact src H r1
  · have hi : i < xs.length := (List.getElem?_eq_some_iff.mp hx).1
    exact Lp.turn L mono (by omega) hp fun r g => step i x H hx r g
  · obtain ⟨acc, bs, r1, g1, hD, ea, e⟩ := hp
    exact fin H acc bs r1 g1 hD ea e
theorem lcg_range {lo : Int} {n : Nat} (L : LcG H1 D Rel G) (mono : ∀ H H' v b, TupK H H' → Y H v b → Y H' v b) (hl : n ≤ 1000)
    (step : ∀ i H, i < n → Rel H1 H → G H → Turn g tt te vs σ Rel G Y (.int (lo + i)) (out i) H)
    (fin : ∀ H acc bs, Rel H1 H → G H → H D = some (.lst acc) → EachIs (Y H) acc bs → bs = (List.range n).filterMap out → Qd H) :
    ∃ W : Nat → Nat → Hp → Prop, (∃ m, W 0 m (upd H1 D (.lst []))) ∧ ∀ i m H, W i m H →
      ((Itr lo n).stop i H ∧ Qd H) ∨ ((Itr lo n).go i H ∧ ∃ Nx : Hp → Prop, (∀ H', Nx H' → ∃ m', m' < m ∧ W (i + 1) m' H') ∧ ∀ x H', (Itr lo n).yld i H x H' → g x (wipe σ vs) H' fun σ2 H2 =>
        wipe σ2 vs = wipe σ vs ∧ tt σ2 H2 fun b H3 => if b = true then te σ2 H3 fun y H4 => ∃ acc, H4 D = some (.lst acc) ∧ acc.length < sizeLine ∧ Nx (upd H4 D (.lst (acc ++ [y]))) else Nx H3) := by
  refine lc_range (lo := lo) (n := n) (Lp H1 D Rel G Y out) (Lp.zero L) (fun i H hi hp => ?_) (fun H hp => ?_)
  · exact Lp.turn L mono (by omega) hp fun r g => step i H hi r g
  · obtain ⟨acc, bs, r1, g1, hD, ea, e⟩ := hp
    exact fin H acc bs r1 g1 hD ea e
end

/-! ### where what comes is drawn -/
section
variable {K : PySem.W.Frag} {g : TG} {tt : TT} {te : TE} {vs : List Nat} {σ : L2.St} {H1 : Hp} {D : Addr} {Qd : Hp → Prop} {Rel : Hp → Hp → Prop} {G : Hp → Prop} {β : Type}
def TurnD (g : TG) (tt : TT) (te : TE) (vs : List Nat) (σ : L2.St) (Rel : Hp → Hp → Prop) (G : Hp → Prop) (Y : Hp → V → β → Prop) (x : V) (H : Hp) : Prop :=
  ∀ (Qe : VK) (Qn : Hp → Prop), (∀ y H4 b, Rel H H4 → G H4 → Y H4 y b → Qe y H4) →
    g x (wipe σ vs) H fun σ2 H2 => wipe σ2 vs = wipe σ vs ∧ tt σ2 H2 fun b H3 => if b = true then te σ2 H3 Qe else Qn H3
def LpD (H1 : Hp) (D : Addr) (Rel : Hp → Hp → Prop) (G : Hp → Prop) (Y : Hp → V → β → Prop) (i : Nat) (H : Hp) : Prop :=
  ∃ (acc : List V) (bs : List β), Rel H1 H ∧ G H ∧ H D = some (.lst acc) ∧ EachIs (Y H) acc bs ∧ bs.length = i
variable {Y : Hp → V → β → Prop}
theorem LpD.turn (L : LcG H1 D Rel G) (mono : ∀ H H' v b, TupK H H' → Y H v b → Y H' v b) {i : Nat} {x : V} {H : Hp} (hi : i < 1000) (hp : LpD H1 D Rel G Y i H)
    (step : Rel H1 H → G H → TurnD g tt te vs σ Rel G Y x H) :
    g x (wipe σ vs) H fun σ2 H2 => wipe σ2 vs = wipe σ vs ∧ tt σ2 H2 fun b H3 =>
      if b = true then te σ2 H3 fun y H4 => ∃ acc, H4 D = some (.lst acc) ∧ acc.length < sizeLine ∧ LpD H1 D Rel G Y (i + 1) (upd H4 D (.lst (acc ++ [y])))
      else LpD H1 D Rel G Y (i + 1) H3 := by
  obtain ⟨acc, bs, r1, g1, hD, ea, rfl⟩ := hp
  refine step r1 g1 _ _ fun y H4 b r4 g4 hy => ?_
  have hD4 := L.keepD r4 hD
  have t4 := (L.tk2 g1 r4).trans (TupK.upd (o := .lst (acc ++ [y])) hD4)
  exact ⟨acc, hD4, small1000 (by have := ea.length; omega), acc ++ [y], bs ++ [b], L.upd (L.trans r1 r4) hD4, L.gU g4 hD4, upd_same,
    each_snoc (mono _ _ _ _ (TupK.upd hD4) hy) (each_mono (fun v b => mono _ _ _ _ t4) ea), by rw [List.length_append]; rfl⟩
theorem lcd_range {lo : Int} {n : Nat} (L : LcG H1 D Rel G) (mono : ∀ H H' v b, TupK H H' → Y H v b → Y H' v b) (hl : n ≤ 1000)
    (step : ∀ i H, i < n → Rel H1 H → G H → TurnD g tt te vs σ Rel G Y (.int (lo + i)) H)
    (fin : ∀ H acc bs, Rel H1 H → G H → H D = some (.lst acc) → EachIs (Y H) acc bs → bs.length = n → Qd H) :
    ∃ W : Nat → Nat → Hp → Prop, (∃ m, W 0 m (upd H1 D (.lst []))) ∧ ∀ i m H, W i m H →
      ((Itr lo n).stop i H ∧ Qd H) ∨ ((Itr lo n).go i H ∧ ∃ Nx : Hp → Prop, (∀ H', Nx H' → ∃ m', m' < m ∧ W (i + 1) m' H') ∧ ∀ x H', (Itr lo n).yld i H x H' → g x (wipe σ vs) H' fun σ2 H2 =>
        wipe σ2 vs = wipe σ vs ∧ tt σ2 H2 fun b H3 => if b = true then te σ2 H3 fun y H4 => ∃ acc, H4 D = some (.lst acc) ∧ acc.length < sizeLine ∧ Nx (upd H4 D (.lst (acc ++ [y]))) else Nx H3) := by
  refine lc_range (lo := lo) (n := n) (LpD H1 D Rel G Y) ⟨[], [], L.new, L.g0, upd_same, .nil, rfl⟩ (fun i H hi hp => ?_) (fun H hp => ?_)
  · exact LpD.turn L mono (by omega) hp fun r g => step i H hi r g
  · obtain ⟨acc, bs, r1, g1, hD, ea, e⟩ := hp
    exact fin H acc bs r1 g1 hD ea e
theorem lcd_list {a : Addr} {xs : List V} (L : LcG H1 D Rel G) (mono : ∀ H H' v b, TupK H H' → Y H v b → Y H' v b) (src : ∀ H, Rel H1 H → SqL K H a xs) (hl : xs.length ≤ 1000)
    (step : ∀ (i : Nat) (x : V) (H : Hp), xs[i]? = some x → Rel H1 H → G H → TurnD g tt te vs σ Rel G Y x H)
    (fin : ∀ H acc bs, Rel H1 H → G H → H D = some (.lst acc) → EachIs (Y H) acc bs → bs.length = xs.length → Qd H) :
    ∃ W : Nat → Nat → Hp → Prop, (∃ m, W 0 m (upd H1 D (.lst []))) ∧ ∀ i m H, W i m H →
      ((Itl K a).stop i H ∧ Qd H) ∨ ((Itl K a).go i H ∧ ∃ Nx : Hp → Prop, (∀ H', Nx H' → ∃ m', m' < m ∧ W (i + 1) m' H') ∧ ∀ x H', (Itl K a).yld i H x H' → g x (wipe σ vs) H' fun σ2 H2 =>
        wipe σ2 vs = wipe σ vs ∧ tt σ2 H2 fun b H3 => if b = true then te σ2 H3 fun y H4 => ∃ acc, H4 D = some (.lst acc) ∧ acc.length < sizeLine ∧ Nx (upd H4 D (.lst (acc ++ [y]))) else Nx H3) := by
  refine lc_list (K := K) (a := a) (xs := xs) (LpD H1 D Rel G Y) ⟨[], [], L.new, L.g0, upd_same, .nil, rfl⟩ (fun i H _ hp => ?_) (fun i x H hx hp => ?_) (fun H hp => ?_)
  · obtain ⟨_, _, r1, _⟩ := hp
    exact src H r1
  · have hi : i < xs.length := (List.getElem?_eq_some_iff.mp hx).1
    exact LpD.turn L mono (by omega) hp fun r g => step i x H hx r g
  · obtain ⟨acc, bs, r1, g1, hD, ea, e⟩ := hp
    exact fin H acc bs r1 g1 hD ea e
end

/-! ### rows -/
theorem dp_ints {K : PySem.W.Frag} {H : Hp} : ∀ l : List Int, DpAll K H (l.map V.int) (l.map PyData.int)
  | [] => .nil
  | i :: l => .cons (.int i) (dp_ints l)
/-- a tuple of whole numbers -/
def TI (K : PySem.W.Frag) (H : Hp) (v : V) (r : List Int) : Prop := ∃ t, v = .ref t ∧ SqT K H t (r.map V.int)
theorem TI.mono {K : PySem.W.Frag} {H H' : Hp} {v : V} {r : List Int} (k : TupK H H') (h : TI K H v r) : TI K H' v r := by
  obtain ⟨t, e, h⟩ := h
  exact ⟨t, e, k _ _ _ h⟩
theorem TI.dp {K : PySem.W.Frag} {H : Hp} {v : V} {r : List Int} (h : TI K H v r) : Dp K H v (encR r) := by
  obtain ⟨t, rfl, h⟩ := h
  exact .tup h (dp_ints r)
/-- a tuple of rows, bs: the items with what they are -/
def RowsAt (K : PySem.W.Frag) (H : Hp) (a : Addr) (bs : List (V × List Int)) : Prop := SqT K H a (bs.map (·.1)) ∧ ∀ b ∈ bs, TI K H b.1 b.2
theorem RowsAt.mono {K : PySem.W.Frag} {H H' : Hp} {a : Addr} {bs : List (V × List Int)} (k : TupK H H') (h : RowsAt K H a bs) : RowsAt K H' a bs :=
  ⟨k _ _ _ h.1, fun b hb => (h.2 b hb).mono k⟩
theorem dp_rows {K : PySem.W.Frag} {H : Hp} : ∀ {bs : List (V × List Int)}, (∀ b ∈ bs, TI K H b.1 b.2) → DpAll K H (bs.map (·.1)) (bs.map fun b => encR b.2)
  | [], _ => .nil
  | b :: bs, h => .cons (h b List.mem_cons_self).dp (dp_rows fun c hc => h c (List.mem_cons_of_mem _ hc))
abbrev encRs (rs : List (List Int)) : PyData := .tuple (rs.map encR)
theorem RowsAt.dp {K : PySem.W.Frag} {H : Hp} {a : Addr} {bs : List (V × List Int)} (h : RowsAt K H a bs) : Dp K H (.ref a) (encRs (bs.map (·.2))) := by
  refine .tup h.1 ?_
  rw [List.map_map]
  exact dp_rows h.2
/-- a table -/
def TabAt (K : PySem.W.Frag) (H : Hp) (t : Addr) (many : Int) (a : Addr) (bs : List (V × List Int)) : Prop := SqT K H t [.int many, .ref a] ∧ RowsAt K H a bs
theorem TabAt.mono {K : PySem.W.Frag} {H H' : Hp} {t a : Addr} {many : Int} {bs : List (V × List Int)} (k : TupK H H') (h : TabAt K H t many a bs) : TabAt K H' t many a bs :=
  ⟨k _ _ _ h.1, h.2.mono k⟩
abbrev encT (many : Int) (rs : List (List Int)) : PyData := .tuple [.int many, encRs rs]
theorem TabAt.dp {K : PySem.W.Frag} {H : Hp} {t a : Addr} {many : Int} {bs : List (V × List Int)} (h : TabAt K H t many a bs) : Dp K H (.ref t) (encT many (bs.map (·.2))) :=
  .tup h.1 (.cons (.int _) (.cons h.2.dp .nil))
end GL
namespace GL
open PySem PySem.Spec PyProof.Rows L2
theorem units65 {k : Nat} {A : Around} (r : Room k A) : A.units + 65 < cLine := by have := r.un; omega
theorem lay_ints : ∀ l : List Int, PyData.canLayAll0 (l.map .int) = true
  | [] => by simp [PyData.canLayAll0]
  | i :: l => by
    rw [List.map_cons, PyData.canLayAll0, lay_ints l]
    simp [PyData.canLay0]
theorem lay_encR (r : List Int) : (encR r).canLay0 = true := by
  show PyData.canLay0 (.tuple _) = true
  rw [PyData.canLay0]
  exact lay_ints r
theorem depth_encR (r : List Int) : (encR r).depth = 1 := by
  show PyData.depth (.tuple _) = 1
  rw [PyData.depth, PySem.W.depth_ints]
theorem shaped_encR (r : List Int) : SeqAt.shaped (encR r) = true := by
  unfold SeqAt.shaped
  rw [lay_encR, depth_encR]
  rfl
theorem lay_rows : ∀ rs : List (List Int), PyData.canLayAll0 (rs.map encR) = true
  | [] => by simp [PyData.canLayAll0]
  | r :: rs => by
    rw [List.map_cons, PyData.canLayAll0, lay_rows rs, lay_encR]
    rfl
theorem depth_rows : ∀ rs : List (List Int), PyData.depthAll (rs.map encR) ≤ 1
  | [] => by simp [PyData.depthAll]
  | r :: rs => by
    rw [List.map_cons, PyData.depthAll, depth_encR]
    have := depth_rows rs
    omega
theorem lay_encRs (rs : List (List Int)) : (encRs rs).canLay0 = true := by
  show PyData.canLay0 (.tuple _) = true
  rw [PyData.canLay0]
  exact lay_rows rs
theorem depth_encRs (rs : List (List Int)) : (encRs rs).depth ≤ 2 := by
  show PyData.depth (.tuple _) ≤ 2
  rw [PyData.depth]
  have := depth_rows rs
  omega
theorem shaped_encRs (rs : List (List Int)) : SeqAt.shaped (encRs rs) = true := by
  unfold SeqAt.shaped
  rw [lay_encRs, decide_eq_true (Nat.le_trans (depth_encRs rs) (by decide))]
  rfl
theorem eqvs_ints : ∀ a b : List Int, PyData.eqvAll (a.map .int) (b.map .int) = decide (a = b)
  | [], [] => by simp [PyData.eqvAll]
  | [], _ :: _ => by simp [PyData.eqvAll]
  | _ :: _, [] => by simp [PyData.eqvAll]
  | x :: a, y :: b => by
    rw [List.map_cons, List.map_cons, PyData.eqvAll, eqvs_ints a b]
    by_cases h : x = y <;> simp [PyData.eqv, h]
theorem eqv_encR (a b : List Int) : PyData.eqv (encR a) (encR b) = decide (a = b) := by
  show PyData.eqv (.tuple _) (.tuple _) = _
  rw [PyData.eqv]
  exact eqvs_ints a b
theorem any_encR (rs : List (List Int)) (r : List Int) : ((rs.map encR).any fun z => PyData.eqv z (encR r)) = decide (r ∈ rs) := by
  induction rs with
  | nil => simp
  | cons a rs ih =>
    rw [List.map_cons, List.any_cons, ih, eqv_encR]
    by_cases h : a = r
    · simp [h]
    · have h' : ¬ r = a := fun e => h e.symm
      simp [h, h']
end GL

/-! rows in order: plain mathematics -/
namespace K2
abbrev Rw := List Int
theorem le_anti {a b : Rw} (h : a ≤ b) (h' : b ≤ a) : a = b := List.le_antisymm h h'
theorem sorted_unique : ∀ {l m : List Rw}, l.Pairwise (· ≤ ·) → m.Pairwise (· ≤ ·) → l.Perm m → l = m
  | [], m, _, _, p => (List.Perm.eq_nil p.symm).symm
  | a :: l, [], _, _, p => absurd (List.Perm.eq_nil p) (by simp)
  | a :: l, b :: m, hl, hm, p => by
    rw [List.pairwise_cons] at hl hm
    have e : a = b := by
      have ha : a ∈ b :: m := p.mem_iff.mp List.mem_cons_self
      have hb : b ∈ a :: l := p.mem_iff.mpr List.mem_cons_self
      rcases List.mem_cons.mp ha with e | ha
      · exact e
      · rcases List.mem_cons.mp hb with e | hb
        · exact e.symm
        · exact le_anti (hl.1 b hb) (hm.1 a ha)
    subst e
    rw [sorted_unique hl.2 hm.2 p.cons_inv]
/-- a lot of rows: ascending, none twice -/
def Lot (rs : List Rw) : Prop := rs.Pairwise (· < ·)
theorem Lot.le {rs : List Rw} (h : Lot rs) : rs.Pairwise (· ≤ ·) := h.imp fun h => List.le_of_lt h
theorem Lot.nodup {rs : List Rw} (h : Lot rs) : rs.Nodup := h.imp fun h e => by subst e; exact List.lt_irrefl _ h
theorem lot_of {rs : List Rw} (h : rs.Pairwise (· ≤ ·)) (n : rs.Nodup) : Lot rs := by
  have := h.and n
  exact this.imp fun {a b} ⟨h1, h2⟩ => by
    rcases Classical.em (a < b) with q | q
    · exact q
    · exact absurd (le_anti h1 (List.not_lt.mp q)) h2
theorem filter_ne_of {rs : List Rw} {r : Rw} (h : r ∉ rs) : rs.filter (fun x => decide (x ≠ r)) = rs :=
  List.filter_eq_self.mpr fun a ha => decide_eq_true fun e => h (e ▸ ha)
theorem perm_filter_ne {rs : List Rw} {r : Rw} (n : rs.Nodup) (h : r ∈ rs) : (rs.filter (fun x => decide (x ≠ r)) ++ [r]).Perm rs := by
  induction rs with
  | nil => cases h
  | cons a l ih =>
    rw [List.nodup_cons] at n
    by_cases e : a = r
    · subst e
      rw [List.filter_cons_of_neg (by simp), filter_ne_of n.1]
      exact List.perm_append_singleton _ _
    · rw [List.filter_cons_of_pos (by simpa using e), List.cons_append]
      exact (ih n.2 ((List.mem_cons.mp h).resolve_left fun z => e z.symm)).cons a
/-- the least, the greatest of some whole numbers -/
def IsLo (ns : List Int) (o : Option Int) : Prop := (ns = [] ∧ o = none) ∨ ∃ m, o = some m ∧ m ∈ ns ∧ ∀ z ∈ ns, m ≤ z
def IsHi (ns : List Int) (o : Option Int) : Prop := (ns = [] ∧ o = none) ∨ ∃ m, o = some m ∧ m ∈ ns ∧ ∀ z ∈ ns, z ≤ m
theorem IsLo.one {ns ms : List Int} {o u : Option Int} (h : IsLo ns o) (h' : IsLo ms u) (e : ∀ z, z ∈ ns ↔ z ∈ ms) : o = u := by
  rcases h with ⟨rfl, rfl⟩ | ⟨m, rfl, h1, h2⟩
  · rcases h' with ⟨rfl, rfl⟩ | ⟨k, rfl, g1, _⟩
    · rfl
    · exact absurd ((e k).mpr g1) (by simp)
  · rcases h' with ⟨rfl, rfl⟩ | ⟨k, rfl, g1, g2⟩
    · exact absurd ((e m).mp h1) (by simp)
    · have := h2 k ((e k).mpr g1)
      have := g2 m ((e m).mp h1)
      exact congrArg some (by omega)
theorem IsHi.one {ns ms : List Int} {o u : Option Int} (h : IsHi ns o) (h' : IsHi ms u) (e : ∀ z, z ∈ ns ↔ z ∈ ms) : o = u := by
  rcases h with ⟨rfl, rfl⟩ | ⟨m, rfl, h1, h2⟩
  · rcases h' with ⟨rfl, rfl⟩ | ⟨k, rfl, g1, _⟩
    · rfl
    · exact absurd ((e k).mpr g1) (by simp)
  · rcases h' with ⟨rfl, rfl⟩ | ⟨k, rfl, g1, g2⟩
    · exact absurd ((e m).mp h1) (by simp)
    · have := h2 k ((e k).mpr g1)
      have := g2 m ((e m).mp h1)
      exact congrArg some (by omega)
theorem lo_first {m : Int} {l : List Int} (h : (m :: l).Pairwise (· < ·)) : IsLo (m :: l) (some m) := .inr ⟨m, rfl, List.mem_cons_self, fun z hz => by
  rcases List.mem_cons.mp hz with rfl | hz
  · exact Int.le_refl _
  · exact Int.le_of_lt ((List.pairwise_cons.mp h).1 z hz)⟩
theorem hi_last {m : Int} {l : List Int} (h : (l ++ [m]).Pairwise (· < ·)) : IsHi (l ++ [m]) (some m) := .inr ⟨m, rfl, by simp, fun z hz => by
  rcases List.mem_append.mp hz with hz | hz
  · exact Int.le_of_lt ((List.pairwise_append.mp h).2.2 z hz m (by simp))
  · rw [List.mem_singleton.mp hz]; exact Int.le_refl _⟩
/-- what stands behind a prefix -/
def behind (rs : List Rw) (pre : Rw) : List Int := (rs.filter fun r => decide (r.take pre.length = pre)).map fun r => r.getD pre.length 0
def there (rs : List Rw) (pre : Rw) : Bool := decide (pre = []) || rs.any fun r => decide (r.take pre.length = pre)
end K2

set_option maxHeartbeats 8000000
/-! set(xs) of a list of whole numbers; row in t, t a tuple of data -/
namespace GL
open PySem PySem.Spec PyProof.Rows L2
/-- an empty set as it is made -/
abbrev eSet (w : World) : Obj := { cls := .type "set", dict := none, data := .set #[] 0 (.fresh 0 0 (!w.params.followText "set-order")) }

section
variable {P : Program} {w : World} {A : Around} {E : Value → Shared → Prop} {s : Shared}
theorem set_of_list {l : Addr} {its : List Value} {ns : List Int} {Q : Value → Shared → Prop} (hd0 : A.handled = none)
    (hl : s.heap.IsList l its.toArray) (hi : IntsAre its ns) (few : ns.length + 1 < scanBound)
    (fin : ∀ (h' : Heap) (tk c : Nat), SetR w h' s.heap.objs.size (fun j => decide (j ∈ ns)) c → c ≤ ns.length →
      (∀ b o, s.heap.get? b = some o → h'.get? b = some o) → Q (.ref s.heap.objs.size) { s with heap := h', toks := tk }) :
    wpAny (model P w) A (call (.type "set") [.ref l]) Q E s := by
  have sz : its.toArray.size = ns.length := by rw [List.size_toArray]; exact hi.length
  obtain ⟨c, tl, hmro⟩ := F.called_set.mro
  have i1 := F.called_set.made
  have i2 := F.called_set.sub
  refine wpAny_call (codeAny_of_tree ?_)
  show wpAny _ _ (callAny (.type "set") _) _ _ _
  refine wpAny_pure ⟨Code.quiet_builtin _ (by decide +kernel), codeAny_builtin F.entry_type_call ?_⟩
  rw [Around.under_plain (weight_type_call_type "set" [.ref l] []) rfl]
  have i3 := F.called_set.notType
  have i4 := F.called_set.canCreate
  have i5 := F.typeCall_set_1 (.ref l)
  repeat (any_goals (first | assumption | wp_step))
  have made := code_set_led1 (P := P) (w := w) (A := A.in1) (s := s) (.ref l) (E := E)
    (Q₁ := fun x s1 => x = .ref s.heap.objs.size ∧ s1 = { s with heap := s.heap.push (eSet w) }) ⟨rfl, rfl⟩
  refine codeAny_mono made fun r s1 hr => ?_
  match r, hr with
  | .error e, hr => exact hr
  | .ok .next, hr => exact hr.elim
  | .ok .brk, hr => exact hr.elim
  | .ok .cont, hr => exact hr.elim
  | .ok (.ret x), hr =>
    obtain ⟨rfl, rfl⟩ := hr
    have g0 : (s.heap.push (eSet w)).get? s.heap.objs.size = some (eSet w) := Heap.get?_push_size _ rfl
    have ty : Shared.TypeIs { s with heap := s.heap.push (eSet w) } (.ref s.heap.objs.size) "set" := ⟨_, g0, rfl⟩
    have j1 := F.called_set.init.lookup
    have j2 := F.called_set.init.bind (.ref s.heap.objs.size)
    repeat (any_goals (first | assumption | wp_step))
    refine codeAny_mono (codeAny_call_builtin (R := wants (fun r s2 => r = .none ∧ ∃ h' tk c, s2 = { s with heap := h', toks := tk } ∧
      SetR w h' s.heap.objs.size (fun j => decide (j ∈ ns)) c ∧ c ≤ ns.length ∧ (∀ b o, s.heap.get? b = some o → h'.get? b = some o)) E)
      F.called_set.init.plain F.entry_set_init (check_set_init_1 ty ?_)) fun r2 s2 hr2 => ?_
    · obtain ⟨ol, hol, hcl, nl, hdl⟩ := hl
      obtain ⟨k1, k2, k3, k4⟩ := ol
      simp only at hcl hdl
      subst hcl; subst hdl
      have hol' : (s.heap.push (eSet w)).get? l = some { cls := .type "list", dict := k2, data := .seq its.toArray nl, slots := k4 } := Heap.get?_push_of_some _ hol
      have n1 := F.sub_list_set
      have n2 := F.sub_list_frozenset
      have n3 : (Value.type "list" == Value.type "dict") = false := by decide
      have lst1 : (s.heap.push (eSet w)).IsList l its.toArray := ⟨_, hol', rfl, nl, rfl⟩
      unfold Builtin.«set.__init__» noKeywords Builtin.Frozenset.updateFrom
      generalize e0 : pyIter = it0
      wp_walk
      subst e0
      refine wpAny_pyIter_list lst1 ?_
      refine wpAny_bind (wpAny_runValue ?_)
      have lS : l < s.heap.objs.size := Heap.lt_size hol
      have hd3 : A.in1.in1.in1.handled = none := by simp [hd0]
      have z1 : (s.heap.push (eSet w)).objs.size = s.heap.objs.size + 1 := Heap.size_push ..
      have neI : l ≠ (s.heap.push (eSet w)).objs.size := by rw [z1]; exact Nat.ne_of_lt (Nat.lt_succ_of_lt lS)
      have off : s.heap.objs.size ∉ [(s.heap.push (eSet w)).objs.size, l] := by
        rw [z1]
        intro m
        rcases List.mem_cons.mp m with q | m
        · exact absurd q (Nat.ne_of_lt (Nat.lt_succ_self _))
        · exact absurd (List.mem_singleton.mp m) (Nat.ne_of_gt lS)
      have val : ∀ (i : Nat) (v : Value), its.toArray[i]? = some v → ∃ k t, ns[i]? = some k ∧ v = .int k t := fun i v hv => by
        have lt : i < ns.length := by rw [← sz]; exact (Array.getElem?_eq_some_iff.mp hv).1
        obtain ⟨t, e⟩ := PyProof.Rows.IntsAre.int_at hi i v (by simpa using hv)
        refine ⟨ns[i], t, List.getElem?_eq_getElem lt, ?_⟩
        rw [e, List.getD_eq_getElem?_getD, List.getElem?_eq_getElem lt] <;> rfl
      refine set_update_ints ((Walks.list hd3 _ l neI its.toArray).toS) s.heap.objs.size off ns sz few val (its.toArray.size - 0) 0 _ (by omega) (Nat.zero_le _)
        ⟨⟨_, Heap.get?_push_size _ rfl, rfl, rfl⟩, lst1.push _⟩ ?hz0 ?hz1
      case hz0 => exact ⟨0, Nat.le_refl 0, setR_new_at (Heap.get?_push_of_some _ g0)⟩
      case hz1 =>
        intro s' c' hm hc' hS'
        obtain ⟨h', g2, d', tk', os'⟩ := s'
        have eg : g2 = s.gens := hm.gens
        have ed : d' = s.drawn := hm.drawn
        have eo : os' = s.os := hm.os
        subst eg; subst ed; subst eo
        refine wpAny_pure ?_
        rw [sz] at hc'
        refine wpAny_pure ⟨rfl, h', tk', c', rfl, hS', hc', fun b o e => ?_⟩
        have b0 : b < s.heap.objs.size := Heap.lt_size e
        refine hm.heap b o (fun m => ?_) (Heap.get?_push_of_some _ (Heap.get?_push_of_some _ e))
        rcases List.mem_cons.mp m with q | m
        · exact absurd q (Nat.ne_of_lt b0)
        · exact absurd (List.mem_singleton.mp m) (by rw [z1]; exact Nat.ne_of_lt (Nat.lt_succ_of_lt b0))
    · match r2, hr2 with
      | .error e, hr2 => exact hr2
      | .ok .next, hr2 => exact hr2.elim
      | .ok .brk, hr2 => exact hr2.elim
      | .ok .cont, hr2 => exact hr2.elim
      | .ok (.ret x), hr2 =>
        obtain ⟨rfl, h', tk, c', rfl, hS', hc', hk'⟩ := hr2
        repeat (any_goals (first | assumption | wp_step))
        exact fin _ _ _ hS' hc' hk'
end

section
variable {X : Cx}
/-- set(xs), xs a list of whole numbers -/
def rSetInts (K : PySem.W.Frag) (w : World) : List V → Hp → VK → Prop := fun vs H Q => ∃ (a : Addr) (ns : List Int), vs = [.ref a] ∧ SqL K H a (ns.map V.int) ∧ ns.length ≤ 1000 ∧
  ∀ p c, H p = none → c ≤ ns.length → Q (.ref p) (upd H p (SetO w p (fun j => decide (j ∈ ns)) c))
theorem cr_setInts (hc : X.calm = true) : CallR X (.type "set") (rSetInts X.K X.w) := by
  intro pins s σ H vs us Q I r h
  obtain ⟨a, ns, rfl, hs, hl, q⟩ := h
  obtain ⟨its, rv, pl, hz⟩ := I.list hs
  rw [Vals.ref1 r]
  refine set_of_list (I.ok.hd hc) pl.isList rv.ints (by unfold scanBound; omega) fun h' tk c R hc' k => ?_
  have hn : H s.heap.objs.size = none := I.hok.fresh (Nat.le_refl _)
  exact ⟨.ref s.heap.objs.size, upd H s.heap.objs.size (SetO X.w s.heap.objs.size (fun j => decide (j ∈ ns)) c), I.laid (t' := tk) k (Nat.le_refl _) (setO_new R), rfl, q _ _ hn hc'⟩
/-- x in t, x and the items of the tuple t data -/
def rInT (K : PySem.W.Frag) : R2 := fun x y H Q => ∃ d ds, Dp K H x d ∧ Dp K H y (.tuple ds) ∧ SeqAt.shaped d = true ∧ SeqAt.shaped (.tuple ds) = true ∧
  Q (.bl (ds.any fun z => PyData.eqv z d)) H
theorem op_inTD (hu : X.A.units + 65 < cLine) : OpR X (compareOp .In) (rInT X.K) := by
  intro pins s σ H x y v u Q I rx ry h
  obtain ⟨d, ds, hd, he, sd, se, q⟩ := h
  obtain ⟨as, q1⟩ := Dp.reads I d x v hd rx
  obtain ⟨bs, q2⟩ := Dp.reads I (.tuple ds) y u he ry
  exact SeqAt.in_tuple_reads q2 q1 (SeqAt.canLay_of_shaped se) (SeqAt.canLay_of_shaped sd) (room_in_shaped sd hu) ⟨.bl _, H, I, rfl, q⟩
end
end GL

/-! rules with the written part named, their ends alike -/
namespace GL
open PySem PySem.Spec PyProof.Rows L2

/-- a new tuple, or one that stands: what is wanted of it -/
def TupTo (K : PySem.W.Frag) (H : Hp) (Q : VK) (ys : List V) : Prop := ∀ (p : Addr) H', Same H H' → SqT K H' p ys → Q (.ref p) H'
theorem TupTo.new {K : PySem.W.Frag} {H : Hp} {Q : VK} {ys : List V} (h : TupTo K H Q ys) {p : Addr} (hp : H p = none) : Q (.ref p) (upd H p (.tup ys)) :=
  h p _ (put_new hp _) (SqT.of upd_same)
def rCatU (K : PySem.W.Frag) : R2 := fun x y H Q => ∃ a b xs ys, x = .ref a ∧ y = .ref b ∧ SqT K H a xs ∧ SqT K H b ys ∧ xs.length + ys.length ≤ sizeLine ∧ TupTo K H Q (xs ++ ys)
def rSlU (K : PySem.W.Frag) : V → Option Int → Option Int → Hp → VK → Prop := fun x lo hi H Q => ∃ a xs, x = .ref a ∧ SqT K H a xs ∧ TupTo K H Q (cutV xs lo hi)
def rLen2 (K : PySem.W.Frag) : List V → Hp → VK → Prop := fun xs H Q => ∃ p ys, xs = [.ref p] ∧ (SqL K H p ys ∨ SqT K H p ys) ∧ Q (.int ys.length) H
def rTupOf (K : PySem.W.Frag) : List V → Hp → VK → Prop := fun xs H Q => ∃ p ys, xs = [.ref p] ∧ (SqL K H p ys ∨ SqT K H p ys) ∧ TupTo K H Q ys
section
variable {X : Cx}
theorem op_catU : OpR X (binaryOp .Add) (rCatU X.K) := by
  intro pins s σ H x y v u Q I rx ry h
  obtain ⟨a, b, xs, ys, rfl, rfl, ha, hb, hz, q⟩ := h
  refine op_catA pins s σ H _ _ v u Q I rx ry ⟨a, b, xs, ys, rfl, rfl, ha, hb, hz, fun e => ?_, fun _ e => ?_, fun _ _ p hp => q.new hp⟩
  · subst e
    exact q b H (Same.refl H) hb
  · subst e
    exact q a H (Same.refl H) (by rw [List.append_nil]; exact ha)
theorem sl_tupU : SlR X (rSlU X.K) := by
  intro pins s σ H x v vl vu lo hi sl Q I rx hs pl pu h
  obtain ⟨a, xs, rfl, hx, q⟩ := h
  refine sl_tupA pins s σ H _ v vl vu lo hi sl Q I rx hs pl pu ⟨a, xs, rfl, hx, fun hw => ?_, fun _ p hp => q.new hp⟩
  refine q a H (Same.refl H) ?_
  have e : cutV xs lo hi = xs := by
    unfold cutV
    rw [hw.1, hw.2]
    simp
  rw [e]
  exact hx
theorem call_len2 : CallR X (.builtin "len") (rLen2 X.K) := call_len_seq
theorem call_tup2 : CallR X (.type "tuple") (rTupOf X.K) := by
  intro pins s σ H xs us Q I r h
  obtain ⟨p, ys, rfl, hq, q⟩ := h
  refine call_tuple_of pins s σ H _ us Q I r ⟨p, ys, rfl, ?_⟩
  rcases hq with hq | hq
  · exact .inl ⟨hq, fun l hl => q.new hl⟩
  · exact .inr ⟨hq, q p H (Same.refl H) hq⟩
end
end GL
namespace GL
open PySem PySem.Spec PyProof.Rows L2
open PySem.W (EachIs)
theorem fm_take {α β : Type} (l : List α) (f : α → Option β) : ∀ i, (List.range i).filterMap (fun j => (l[j]?).bind f) = (l.take i).filterMap f
  | 0 => by simp
  | i + 1 => by
    rw [List.range_succ, List.filterMap_append, fm_take l f i, List.take_add_one, List.filterMap_append]
    cases h : l[i]? with
    | none => simp [h]
    | some a => cases h2 : f a <;> simp [h, h2]
theorem fm_all {α β : Type} (l : List α) (f : α → Option β) : (List.range l.length).filterMap (fun j => (l[j]?).bind f) = l.filterMap f := by
  rw [fm_take, List.take_length]
/-- items that are pairs, told by themselves -/
def YP (K : PySem.W.Frag) (H : Hp) (v : V) (b : V × List Int) : Prop := v = b.1 ∧ TI K H b.1 b.2
theorem YP.mono {K : PySem.W.Frag} : ∀ H H' v b, TupK H H' → YP K H v b → YP K H' v b := fun _ _ _ _ k h => ⟨h.1, h.2.mono k⟩
theorem yp_all {K : PySem.W.Frag} {H : Hp} : ∀ {acc : List V} {bs : List (V × List Int)}, EachIs (YP K H) acc bs → acc = bs.map (·.1) ∧ ∀ b ∈ bs, TI K H b.1 b.2
  | _, _, .nil => ⟨rfl, fun _ z => nomatch z⟩
  | _, _, .cons h t => by
    obtain ⟨e, g⟩ := yp_all t
    refine ⟨by rw [List.map_cons, ← e, ← h.1], fun b hb => ?_⟩
    rcases List.mem_cons.mp hb with rfl | hb
    · exact h.2
    · exact g b hb
theorem get_fst {bs : List (V × List Int)} {i : Nat} {x : V} (h : (bs.map (·.1))[i]? = some x) : ∃ b, bs[i]? = some b ∧ x = b.1 ∧ b ∈ bs := by
  rw [List.getElem?_map] at h
  cases e : bs[i]? with
  | none => rw [e] at h; cases h
  | some b =>
    rw [e] at h
    cases h
    exact ⟨b, rfl, rfl, List.mem_of_getElem? e⟩
end GL
namespace GL
open PySem PySem.Spec PyProof.Rows L2
open PySem.W (EachIs)
theorem ti_zip {K : PySem.W.Frag} {H : Hp} : ∀ {acc : List V} {rs : List (List Int)}, EachIs (TI K H) acc rs → ∃ bs : List (V × List Int), acc = bs.map (·.1) ∧ rs = bs.map (·.2) ∧ ∀ b ∈ bs, TI K H b.1 b.2
  | _, _, .nil => ⟨[], rfl, rfl, fun _ z => nomatch z⟩
  | a :: _, r :: _, .cons h t => by
    obtain ⟨bs, rfl, rfl, g⟩ := ti_zip t
    refine ⟨(a, r) :: bs, rfl, rfl, fun b hb => ?_⟩
    rcases List.mem_cons.mp hb with rfl | hb
    · exact h
    · exact g b hb
theorem ti_row {K : PySem.W.Frag} {H : Hp} {b : V × List Int} (h : TI K H b.1 b.2) (n : b.2 ≠ []) : RowAt K H b := by
  obtain ⟨t, e1, e2⟩ := h
  exact ⟨t, e1, e2, n⟩
end GL
namespace GL
open PySem PySem.Spec PyProof.Rows L2
theorem fm_if {α : Type} (p : α → Bool) : ∀ l : List α, (l.filterMap fun v => if p v = true then some v else none) = l.filter p
  | [] => rfl
  | a :: l => by
    have ih := fm_if p l
    by_cases h : p a = true
    · rw [List.filterMap_cons, List.filter_cons_of_pos h, if_pos h, ih]
    · rw [List.filterMap_cons, List.filter_cons_of_neg h, if_neg h, ih]
def oV : Option Int → V
  | none => .non
  | some i => .int i
theorem inV_ints (x : Int) : ∀ ns : List Int, inV (.int x) (ns.map V.int) = decide (x ∈ ns)
  | [] => rfl
  | n :: ns => by
    have ih := inV_ints x ns
    unfold inV at *
    rw [List.map_cons, List.any_cons, ih]
    by_cases h : n = x
    · simp [eqV, h]
    · have h' : ¬ x = n := fun e => h e.symm
      simp [eqV, h, h']
theorem flat_ints : ∀ ns : List Int, (ns.map V.int).all flatV = true
  | [] => rfl
  | n :: ns => by
    rw [List.map_cons, List.all_cons, flat_ints ns]
    rfl
end GL
namespace GL
open PySem PySem.Spec PyProof.Rows L2
/-- min(xs, default=None), max(xs, default=None) -/
def rBestU (K : PySem.W.Frag) (R : List Int → Option Int → Prop) : List V → List V → Hp → VK → Prop := fun vs zs H Q =>
  ∃ (a : Addr) (ns : List Int), vs = [.ref a] ∧ zs = [.non] ∧ SqL K H a (ns.map V.int) ∧ ∀ o, R ns o → Q (oV o) H
theorem cr_minU {X : Cx} (hc : X.calm = true) : CallRK X (.builtin "min") [Str.ofString "default"] (rBestU X.K K2.IsLo) := by
  intro pins s σ H vs zs us ws Q I r rz h
  obtain ⟨a, ns, e1, e2, hs, q⟩ := h
  exact cr_minD hc pins s σ H vs zs us ws Q I r rz ⟨a, ns, e1, e2, hs, fun z => q none (.inl ⟨z, rfl⟩), fun M h1 h2 => q (some M) (.inr ⟨M, rfl, h1, h2⟩)⟩
theorem cr_maxU {X : Cx} (hc : X.calm = true) : CallRK X (.builtin "max") [Str.ofString "default"] (rBestU X.K K2.IsHi) := by
  intro pins s σ H vs zs us ws Q I r rz h
  obtain ⟨a, ns, e1, e2, hs, q⟩ := h
  exact cr_maxD hc pins s σ H vs zs us ws Q I r rz ⟨a, ns, e1, e2, hs, fun z => q none (.inl ⟨z, rfl⟩), fun M h1 h2 => q (some M) (.inr ⟨M, rfl, h1, h2⟩)⟩
end GL
namespace GL
open PySem PySem.Spec PyProof.Rows L2
/-- another reading that says enough -/
theorem pe_imp {X : Cx} {e : Expr} {t t' : TE} (h : PE X e t) (f : ∀ σ H Q, t' σ H Q → t σ H Q) : PE X e t' := ⟨fun pins s σ H Q I hw => h.run pins s σ H Q I (f σ H Q hw)⟩
theorem dp_lints {K : PySem.W.Frag} {H : Hp} {a : Addr} {ns : List Int} (h : SqL K H a (ns.map V.int)) : Dp K H (.ref a) (.list (ns.map .int)) := .lst h (dp_ints ns)
theorem shaped_lints (ns : List Int) : SeqAt.shaped (.list (ns.map .int)) = true := by
  unfold SeqAt.shaped
  rw [PyData.canLay0, lay_ints, PyData.depth, PySem.W.depth_ints]
  rfl
theorem ne_lints (ns : List Int) : (!PyData.eqv (.list (ns.map .int)) (.list [])) = decide (ns ≠ []) := by
  have := eqvs_ints ns []
  rw [PyData.eqv]
  rw [List.map_nil] at this
  rw [this]
  cases ns <;> simp
/-- xs[0] if xs != [] else None; xs[-1] if xs != [] else None: ascending whole numbers -/
def tFirstOr (K : PySem.W.Frag) (i : Nat) : TE := fun σ H Q => ∃ (a : Addr) (ns : List Int), σ[i]? = some (some (.ref a)) ∧ SqL K H a (ns.map V.int) ∧ ns.Pairwise (· < ·) ∧ ∀ o H', Same H H' → K2.IsLo ns o → Q (oV o) H'
def tLastOr (K : PySem.W.Frag) (i : Nat) : TE := fun σ H Q => ∃ (a : Addr) (ns : List Int), σ[i]? = some (some (.ref a)) ∧ SqL K H a (ns.map V.int) ∧ ns.Pairwise (· < ·) ∧ ∀ o H', Same H H' → K2.IsHi ns o → Q (oV o) H'
theorem last_at {ns : List Int} (h : ns ≠ []) : ∃ l m, ns = l ++ [m] ∧ atI (ns.map V.int) (-1) = some (.int m) := by
  refine ⟨ns.dropLast, ns.getLast h, (List.dropLast_concat_getLast h).symm, ?_⟩
  have e : ns.map V.int = ns.dropLast.map V.int ++ [.int (ns.getLast h)] := by
    rw [← List.map_singleton, ← List.map_append, List.dropLast_concat_getLast h]
  rw [e]
  exact atI_last _ _
end GL

/-! small data: what is asked of them by == and repr -/
namespace GL
open PySem PySem.Spec PyProof.Rows L2
/-- no dict, no text; whole numbers of at most twelve digits; depth, weight -/
structure Ok (w dp : Nat) (d : PyData) : Prop where
  sh : d.showable = true
  nd : d.hasDict = false
  lay : d.canLay0 = true
  sm : d.leavesShort 13 = true
  dep : d.depth ≤ dp
  wt : d.weight ≤ w
structure OkAll (w dp : Nat) (ds : List PyData) : Prop where
  sh : PyData.showableAll ds = true
  nd : PyData.hasDictAll ds = false
  lay : PyData.canLayAll0 ds = true
  sm : PyData.leavesShortAll 13 ds = true
  dep : PyData.depthAll ds ≤ dp
  wt : PyData.weightAll ds ≤ w
theorem Ok.mono {w w' dp dp' : Nat} {d : PyData} (h : Ok w dp d) (a : w ≤ w') (b : dp ≤ dp') : Ok w' dp' d := ⟨h.sh, h.nd, h.lay, h.sm, Nat.le_trans h.dep b, Nat.le_trans h.wt a⟩
theorem OkAll.mono {w w' dp dp' : Nat} {d : List PyData} (h : OkAll w dp d) (a : w ≤ w') (b : dp ≤ dp') : OkAll w' dp' d := ⟨h.sh, h.nd, h.lay, h.sm, Nat.le_trans h.dep b, Nat.le_trans h.wt a⟩
theorem Ok.none : Ok 0 0 .none := ⟨by simp [PyData.showable], by simp [PyData.hasDict], by simp [PyData.canLay0], by simp [PyData.leavesShort], by simp [PyData.depth], by simp [PyData.weight]⟩
theorem Ok.bool (b : Bool) : Ok 0 0 (.bool b) := ⟨by simp [PyData.showable], by simp [PyData.hasDict], by simp [PyData.canLay0], by simp [PyData.leavesShort], by simp [PyData.depth], by simp [PyData.weight]⟩
theorem Ok.int {i : Int} (h : i.natAbs < 10 ^ 12) : Ok 41 0 (.int i) := by
  have l2 : i.natAbs.log2 < 40 := by
    by_cases z : i.natAbs = 0
    · rw [z]
      decide
    · exact (Nat.log2_lt z).mpr (Nat.lt_trans h (by decide))
  refine ⟨?_, by simp [PyData.hasDict], by simp [PyData.canLay0], ?_, by simp [PyData.depth], ?_⟩
  · simp only [PyData.showable, decide_eq_true_eq]
    omega
  · simp only [PyData.leavesShort, decide_eq_true_eq]
    exact PyData.shown_int_le h
  · simp only [PyData.weight]
    split <;> omega
theorem OkAll.nil (dp : Nat) : OkAll 0 dp [] := ⟨by simp [PyData.showableAll], by simp [PyData.hasDictAll], by simp [PyData.canLayAll0], by simp [PyData.leavesShortAll], by simp [PyData.depthAll], by simp [PyData.weightAll]⟩
theorem Ok.cons' {w1 w2 dp : Nat} {d : PyData} {ds : List PyData} (h : Ok w1 dp d) (t : OkAll w2 dp ds) : OkAll (w1 + 1 + w2) dp (d :: ds) :=
  ⟨by simp [PyData.showableAll, h.sh, t.sh], by simp [PyData.hasDictAll, h.nd, t.nd], by simp [PyData.canLayAll0, h.lay, t.lay], by simp [PyData.leavesShortAll, h.sm, t.sm],
    by simp only [PyData.depthAll]; exact Nat.max_le.mpr ⟨h.dep, t.dep⟩, by simp only [PyData.weightAll]; have := h.wt; have := t.wt; omega⟩
theorem OkAll.map {α : Type} {w dp : Nat} {f : α → PyData} : ∀ {l : List α}, (∀ a ∈ l, Ok w dp (f a)) → OkAll (l.length * (w + 1)) dp (l.map f)
  | [], _ => (OkAll.nil dp).mono (Nat.zero_le _) (Nat.le_refl _)
  | a :: l, h => by
    have t := OkAll.map (l := l) fun b hb => h b (List.mem_cons_of_mem _ hb)
    refine ((h a List.mem_cons_self).cons' t).mono ?_ (Nat.le_refl _)
    rw [List.length_cons, Nat.succ_mul]
    omega
theorem Ok.tuple {w dp : Nat} {ds : List PyData} (h : OkAll w dp ds) : Ok w (dp + 1) (.tuple ds) :=
  ⟨by simp [PyData.showable, h.sh], by simp [PyData.hasDict, h.nd], by simp [PyData.canLay0, h.lay], by simp [PyData.leavesShort, h.sm], by simp only [PyData.depth]; have := h.dep; omega, by simp only [PyData.weight]; exact h.wt⟩
theorem Ok.list {w dp : Nat} {ds : List PyData} (h : OkAll w dp ds) : Ok w (dp + 1) (.list ds) :=
  ⟨by simp [PyData.showable, h.sh], by simp [PyData.hasDict, h.nd], by simp [PyData.canLay0, h.lay], by simp [PyData.leavesShort, h.sm], by simp only [PyData.depth]; have := h.dep; omega, by simp only [PyData.weight]; exact h.wt⟩
theorem Ok.shaped {w dp : Nat} {d : PyData} (h : Ok w dp d) (b : dp ≤ 60) : SeqAt.shaped d = true := by
  unfold SeqAt.shaped
  rw [h.lay, decide_eq_true (show d.depth ≤ 64 by have := h.dep; omega)]
  rfl
theorem Ok.shows {w dp : Nat} {d : PyData} (h : Ok w dp d) (a : w ≤ 1000000) (b : dp ≤ 60) : Shows d := by
  refine ⟨h.sh, h.nd, Nat.le_trans h.dep b, ?_⟩
  have := PyData.shown_le 13 (by decide) d h.sm
  have := h.wt
  rw [sizeLine_eq]
  omega
theorem ok_row {r : List Int} (h : ∀ v ∈ r, v.natAbs < 10 ^ 12) : Ok (r.length * 42) 1 (encR r) := Ok.tuple (OkAll.map fun a ha => Ok.int (h a ha))
theorem ok_rows {rs : List (List Int)} {k : Nat} (h : ∀ r ∈ rs, r.length ≤ k ∧ ∀ v ∈ r, v.natAbs < 10 ^ 12) : Ok (rs.length * (k * 42 + 1)) 2 (encRs rs) :=
  Ok.tuple (OkAll.map fun r hr => (ok_row (h r hr).2).mono (Nat.mul_le_mul_right _ (h r hr).1) (Nat.le_refl _))
theorem ok_tab {many : Int} {rs : List (List Int)} {k : Nat} (hm : many.natAbs < 10 ^ 12) (h : ∀ r ∈ rs, r.length ≤ k ∧ ∀ v ∈ r, v.natAbs < 10 ^ 12) :
    Ok (41 + 1 + (rs.length * (k * 42 + 1) + 1 + 0)) 3 (encT many rs) :=
  Ok.tuple (((Ok.int hm).mono (Nat.le_refl _) (by omega)).cons' (((ok_rows h)).cons' (OkAll.nil 2)))
end GL

/-! the end of a row: the defs as the top leaves them -/
namespace GL
open PySem PySem.Spec PyProof.Rows L2
section
variable {P : Program} {w : World} {K : PySem.W.Frag} {mg : Str → Option Value} {base : Heap}
theorem fn_mk {x : Str} {st : Stmt} {N ps : List Str} {k : Nat} {sp : Sp} {f : Addr} {fd : FuncData} (F : L2.Fun K x x st f fd) (S : FnScope N ps (defScope st))
    (len : ∀ vs H Q E, sp vs H Q E → vs.length = ps.length)
    (body : ∀ (f : Addr) (cdv : Value) (A : Around) (outer : List Env) (s : Shared) (H : Hp) (vs : List V) (Q : VK) (E : XK),
      A.guards = some [] → Room k (A.deeper (envOfC x (defScope st) s.heap.objs.size f cdv)) → sp vs H Q E →
      ∃ t, PSs (cxOf CX0 P w K mg base N x (defScope st) f cdv A outer s H E).nox (defBody st) t ∧
        t { nx := fun _ H' => Q .non H', rt := Q } (start N vs) H) :
    Fn0 P w K mg base CX0 (k + 1) f fd ps sp :=
  fn0_of F S len (fun cdv A outer s H vs Q E hG hr h => body f cdv A outer s H vs Q E hG hr h)
theorem def_at {h : Heap} {x : Str} {st : Stmt} {ps : List Str} {f : Addr} {fd : FuncData} (X : K.In h) (G : h.Ns mainGlobals mg) (a : PySem.W.nsIn K mainGlobals x = some (some (.ref f)))
    (F : L2.Fun K x x st f fd) (b : Binds K fd ps []) : DefAt K mg x st ps := ⟨f, fd, F, PySem.W.mg_of X G a, b⟩
end
end GL

/-! enumerate(tuple) -/
namespace PySem
open Sem (wp)
set_option maxHeartbeats 1000000 in
theorem gn_meets {v : Value} {o : Obj} {H : Heap → Prop} (B : Begins v o H) :
    Meets (Builtin.«enumerate.__new__» ⟨[.type "enumerate", v], []⟩)
      (fun _ R s => H s.heap ∧ R (.ok (.ret (.ref (s.heap.push o).objs.size)))
        { s with heap := (s.heap.push o).push ⟨.type "enumerate", none, .fields #[.none, .bool false, .ref s.heap.objs.size, rawInt 0, .none, .none], #[]⟩ }) := by
  refine .of_wp fun prog w A R s hs => ?_
  obtain ⟨hp, g, d, tk, os⟩ := s
  obtain ⟨hb, hs⟩ := hs
  have hsub := sub_enumerate
  have go : ∀ {A' : Around} {E Q : Value → Shared → Prop}, Q (.ref hp.objs.size) ⟨hp.push o, g, d, tk, os⟩ → wpAny (model prog w) A' (pyIter v) Q E ⟨hp, g, d, tk, os⟩ := by
    intro A' E Q q
    exact B.iter prog w A' E ⟨hp, g, d, tk, os⟩ Q hb q
  wp_walk using go
  refine wpAny_stack_any fun _ => wpAny_pure ?_
  split
  · rename_i c _ _ _ _ _
    cases (c == Value.type "enumerate") <;> (wp_walk using go; exact ⟨_, rfl, hs⟩)
  · wp_walk using go
    exact ⟨_, rfl, hs⟩
section
variable {prog : Program} {w : World} {A : Around} {E : Value → Shared → Prop} {s : Shared}
theorem gn_call {v : Value} {o : Obj} {H : Heap → Prop} {Q : Value → Shared → Prop} (B : Begins v o H) (h1 : H s.heap)
    (h : ∀ h', IsEnum h' (s.heap.objs.size + 1) s.heap.objs.size 0 .none → h'.get? s.heap.objs.size = some o → (∀ b u, s.heap.get? b = some u → h'.get? b = some u) → Q (.ref (s.heap.objs.size + 1)) { s with heap := h' }) :
    wpAny (model prog w) A (call (.type "enumerate") [v]) Q E s := by
  refine callType_new F.called_enumerate (by decide) (F.typeCall_enumerate_1 v) (F.newCall_enumerate_1 v) (fun ob => F.args_object_init_2 ob v) F.entry_enumerate_new (gn_meets B) ⟨h1, ?_⟩
  have z1 : (s.heap.push o).objs.size = s.heap.objs.size + 1 := Heap.size_push ..
  show _ ∧ _
  rw [z1]
  have he : IsEnum ((s.heap.push o).push ⟨.type "enumerate", none, .fields #[.none, .bool false, .ref s.heap.objs.size, rawInt 0, .none, .none], #[]⟩) (s.heap.objs.size + 1) s.heap.objs.size 0 .none := by
    have q := Heap.get?_push_size (s.heap.push o) (o := ⟨.type "enumerate", none, .fields #[.none, .bool false, .ref s.heap.objs.size, rawInt 0, .none, .none], #[]⟩) rfl
    rw [z1] at q
    exact q
  exact ⟨⟨_, he, rfl⟩, h _ he (Heap.get?_push_of_some _ (Heap.get?_push_size _ B.free)) fun b u e => Heap.get?_push_of_some _ (Heap.get?_push_of_some _ e)⟩
end
end PySem
namespace GL
open PySem PySem.Spec PyProof.Rows L2
/-- the tuple at a, each item in a new pair -/
def IteT (K : PySem.W.Frag) (a : Addr) : It where
  go := fun i H => ∃ (xs : List V) (x : V), SqT K H a xs ∧ xs[i]? = some x
  yld := fun i H v H' => ∃ (p : Addr) (x : V), v = .ref p ∧ H p = none ∧ H' = upd H p (.tup [.int (i : Nat), x]) ∧ ∀ xs, SqT K H a xs → xs[i]? = some x
  stop := fun i H => ∃ xs : List V, SqT K H a xs ∧ xs.length ≤ i
theorem turn_enumT {P : Program} {w : World} {K : PySem.W.Frag} {elts : List Expr} {kk : Nat} {tpos : Pos} (a e it : Addr) :
    L2.Turn P w K (.Tuple elts kk tpos) (IteT K a) [e, it] e (fun i h => (∃ old, IsEnum h e it ((i : Nat) : Int) old) ∧ h.IsTupleIter it a i ∧ e ≠ it) where
  mem := List.mem_cons_self
  obj := by
    rintro i h ⟨⟨old, he⟩, ⟨o, ho, hc, hd⟩, _⟩ b hb
    rcases List.mem_cons.mp hb with rfl | hb
    · exact ⟨_, he, fun v q => nomatch q⟩
    · rw [List.mem_singleton.mp hb]
      exact ⟨o, ho, fun v q => by rw [hd] at q; cases q⟩
  keep := by
    rintro i h h' ⟨⟨old, he⟩, hi, hne⟩ k
    exact ⟨⟨old, k e List.mem_cons_self _ he⟩, hi.at fun o q => k it (by simp) o q, hne⟩
  item := by
    intro X hP hw hK hc i pins s σ H E I hf st hg
    subst hP hw hK
    obtain ⟨⟨old, he⟩, hit, hne⟩ := st
    obtain ⟨xs, x, hq, hx⟩ := hg
    obtain ⟨its, rv, p, hz⟩ := I.tuple hq
    obtain ⟨u, hu, ru⟩ := rv.get hx
    have hel : e < s.heap.objs.size := Heap.lt_size he
    have hil : it < s.heap.objs.size := by
      obtain ⟨_, q, _⟩ := hit
      exact Heap.lt_size q
    have hnt : a ≠ it := by
      intro z
      obtain ⟨o1, e1, c1, _⟩ := hit
      obtain ⟨o2, e2, c2, _⟩ := (show s.heap.IsTuple a its.toArray from p)
      rw [z, e1] at e2
      cases e2
      exact absurd (c1.symm.trans c2) (by decide)
    have hna : e ≠ a := by
      intro z
      obtain ⟨o2, e2, c2, _⟩ := (show s.heap.IsTuple a its.toArray from p)
      rw [← z] at e2
      have he' : s.heap.get? e = _ := he
      rw [he'] at e2
      injection e2 with e3
      rw [← e3] at c2
      exact absurd (show Value.type "enumerate" = Value.type "tuple" from c2) (by decide)
    have hii : i < its.toArray.size := by
      have := (List.getElem?_eq_some_iff.mp hu).1
      simpa using this
    refine wpAny_pyNext_enum_itemD (Draws.tuple (A := X.A.in1) (prog := X.prog) (w := X.w) (I.ok.hd hc) it a hnt its.toArray) he ⟨hit, p⟩ hii hne (by simp [hne, hna]) fun y h' tk hy ho hit' hT hsz hk => ?_
    have ey : y = u := by
      have q : its.toArray[i]? = some y := hy
      rw [show its.toArray[i]? = some u by simpa using hu] at q
      exact (Option.some.inj q).symm
    subst ey
    refine ⟨_, rfl, wpAny_letOwnedTupleGo_enum (s := { s with heap := h', toks := tk + 1 }) ho fun h'' he' sb => ?_⟩
    have hT2 := (sb.2 _ (Nat.ne_of_gt hel)).trans hT
    have new : ObjOk X.prog X.w (upd H s.heap.objs.size (.tup [.int (i : Nat), x])) h'' s.heap.objs.size (.tup [.int (i : Nat), x]) :=
      ⟨by show 2 ≤ sizeLine; decide, [.int i tk, y], .cons ⟨_, rfl⟩ (.cons ru .nil), ⟨_, hT2, rfl, _, rfl⟩⟩
    have I1 : Inv X pins σ (upd H s.heap.objs.size (.tup [.int (i : Nat), x])) { s with heap := h'', toks := tk + 1 } := by
      refine I.turnedNew (ch := [e, it]) (fun b ob hb q => ?_) hf (Nat.le_refl _) new
      have b1 : b ≠ e := fun z => hb (by simp [z])
      have b2 : b ≠ it := fun z => hb (by simp [z])
      exact (sb.2 b b1).trans (hk b ob b1 b2 q)
    refine ⟨.ref s.heap.objs.size, _, I1, rfl, ⟨_, x, rfl, I.hok.fresh (Nat.le_refl _), rfl, fun ys hy => by rw [I.tuple_inj hy hq]; exact hx⟩, ⟨⟨y, ?_⟩, hit'.1.at fun o q => (sb.2 it (Ne.symm hne)).trans q, hne⟩, fun b hb => ?_⟩
    · rw [show ((i + 1 : Nat) : Int) = (i : Int) + 1 by omega]
      exact he'
    · have hb' : b < s.heap.objs.size := by
        rcases List.mem_cons.mp hb with z | z
        · rw [z]; exact hel
        · rw [List.mem_singleton.mp z]; exact hil
      rw [upd_ne (Nat.ne_of_lt hb')]
      exact (hf b hb).1
  done := by
    intro X hP hw hK hc i pins s σ H E I hf st hg
    subst hP hw hK
    obtain ⟨⟨old, he⟩, hit, hne⟩ := st
    obtain ⟨xs, hq, hx⟩ := hg
    obtain ⟨its, rv, p, hz⟩ := I.tuple hq
    obtain ⟨f0, f1, f2, f3, f4, f5⟩ := hf it (by simp)
    have hl := rv.length
    have hT : s.TypeIs (.ref e) "enumerate" := ⟨_, he, rfl⟩
    unfold pyNext
    refine wpAny_bind (wpAny_attempt (wpAny_callSpecial?_slot (name := Str.ofString "__next__") hT F.slot_enumerate_next (wpAny_call_entry F.slot_enumerate_next hT F.entry_enumerate_next ?_ (F.args_enumerate_next_1 _))))
    show wpAny _ _ (field (.ref e) 2 >>= _) _ _ _
    refine wpAny_bind (wpAny_field he rfl (x := .ref it) rfl (wpAny_bind (wpAny_nextOf_tuple_end (I.ok.hd hc) hit (show s.heap.IsTuple a its.toArray from p) (by simp; omega) fun h' x eb hx' => ?_)))
    obtain ⟨o, ho, hcl⟩ := hx'
    refine wpAny_bind (wpAny_isInstance (T := "StopIteration") (b := true) ⟨o, ho, hcl⟩ isSubtype_stop (wpAny_pure ?_))
    exact ⟨rfl, I.turned (t' := s.toks) (fun b o hb q => eb b o hb q) f0 f1 f3 f4 f5⟩
  self := fun _ _ _ _ _ st h => wpAny_pyIter_enum st.1.choose_spec h
def iEnumT (K : PySem.W.Frag) (ta : TA) : L2.TI := fun σ H R => ta σ H fun vs H1 => ∃ a xs, vs = [.ref a] ∧ SqT K H1 a xs ∧ R (IteT K a) H1
theorem pi_enumT {X : Cx} {e : Expr} {ta : TA} {p pos tpos : Pos} {elts : List Expr} {kk : Nat} (hg : Gl X "enumerate") (hm : X.mg "enumerate" = none) (ha : PA X [e] ta)
    (hs : starEach [e] X.env = [(false, eval e X.env)] := by rfl) : PI X (.Tuple elts kk tpos) (.Call (.Name "enumerate" p) [e] [] pos) (iEnumT X.K ta) := by
  constructor
  intro pins s σ H R I h
  refine Call_ (ld_blt I hg hm boot_enumerate (PyProof.Rows.callWith_type1 (thn (ha.run pos pins s σ H _ I h) ?_) hs rfl))
  rintro us s1 ⟨vs, H1, I1, r1, a, xs, rfl, hq, q⟩
  cases r1 with
  | cons r rr =>
    cases rr
    cases r
    obtain ⟨its, rv, p', hz⟩ := I1.tuple hq
    refine gn_call (begins_tuple a its.toArray) p' fun h' he ho hk => wpAny_pyIter_enum he ?_
    refine ⟨s1.heap.objs.size + 1, [s1.heap.objs.size + 1, s1.heap.objs.size], _, _, H1, rfl, I1.kept (t' := s1.toks) hk, turn_enumT a (s1.heap.objs.size + 1) s1.heap.objs.size, ⟨⟨.none, he⟩, ⟨_, ho, rfl, rfl⟩, Nat.succ_ne_self _⟩, ?_, q⟩
    intro b hb
    have hle : s1.heap.objs.size ≤ b := by
      rcases List.mem_cons.mp hb with z | z
      · rw [z]; exact Nat.le_add_right _ _
      · rw [List.mem_singleton.mp z]; exact Nat.le_refl _
    exact I1.fpOk hle (I1.hok.fresh hle)
theorem walk_enumT {K : PySem.W.Frag} {a : Addr} {xs : List V} : Walk (IteT K a) xs.length (fun H => SqT K H a xs) (YPair (fun i => some (.int (i : Nat))) (fun i => xs[i]?)) := by
  refine ⟨fun i _ hi q => ⟨xs, xs[i], q, by simp [hi]⟩, fun _ q => ⟨xs, q, Nat.le_refl _⟩, ?_⟩
  rintro i H v H' _ q ⟨p, x, h1, h2, h3, h4⟩
  exact ⟨p, .int (i : Nat), x, h1, h2, h3, rfl, h4 xs q⟩
end GL

/-! tuples told with their objects: (..), tuple(xs), t.index(x) -/
namespace GL
open PySem PySem.Spec PyProof.Rows L2
/-- the object at a is a tuple without a dict of its own -/
def NoD (M : Hp) (a : Addr) : Prop := ∃ ob xs, M a = some (.frz ob (.tup xs)) ∧ ob.dict = none
theorem NoD.same {M M' : Hp} (k : Same M M') {a : Addr} (h : NoD M a) : NoD M' a := by
  obtain ⟨ob, xs, e, d⟩ := h
  exact ⟨ob, xs, k _ _ e, d⟩
theorem sqF {K : PySem.W.Frag} {H : Hp} {a : Addr} {ob : Obj} {xs : List V} (h : H a = some (.frz ob (.tup xs))) : SqT K H a xs := .inl (.inr ⟨ob, h⟩)
def tTupF (t : TA) : TE := fun σ H Q => t σ H fun xs H1 => xs.length ≤ sizeLine ∧ ∀ (p : Addr) (ob : Obj), H1 p = none → ob.dict = none → Q (.ref p) (upd H1 p (.frz ob (.tup xs)))
def rTupF (K : PySem.W.Frag) : List V → Hp → VK → Prop := fun xs H Q => ∃ p ys, xs = [.ref p] ∧ ((SqL K H p ys ∧ ∀ (l : Addr) (ob : Obj), H l = none → ob.dict = none → Q (.ref l) (upd H l (.frz ob (.tup ys)))) ∨ (SqT K H p ys ∧ Q (.ref p) H))
def tIdx (K : PySem.W.Frag) (to : TE) (t : TA) : TE := fun σ H Q => to σ H fun x H1 => ∃ p, x = .ref p ∧ NoD H1 p ∧ t σ H1 fun vs H2 => ∃ (ys : List Str) (z : Str) (j : Nat), vs = [.str z] ∧ SqT K H2 p (ys.map V.str) ∧ ys[j]? = some z ∧ (∀ m, m < j → ys[m]? ≠ some z) ∧ Q (.int (j : Nat)) H2
section
variable {X : Cx} {t : TA} {es : List Expr} {pos : Pos}
theorem pe_tupF {k1 : Nat} (h : PA X es t) : PE X (.Tuple es k1 pos) (tTupF t) := by
  constructor
  intro pins s σ H Q I hq
  refine wpAny_Tuple_spliced (thn (h.run pos pins s σ H _ I hq) ?_)
  rintro us s1 ⟨xs, H1, I1, r, z, q⟩
  have z' := z
  rw [r.length] at z'
  refine ⟨z', ?_⟩
  have new : H1 s1.heap.objs.size = none := I1.hok.fresh (Nat.le_refl _)
  have at_ : (s1.heap.push { cls := .type "tuple", data := .seq us.toArray }).get? s1.heap.objs.size = some { cls := .type "tuple", data := .seq us.toArray } := Heap.get?_push_size _ rfl
  refine ⟨.ref s1.heap.objs.size, upd H1 s1.heap.objs.size (.frz { cls := .type "tuple", data := .seq us.toArray } (.tup xs)), I1.laid (t' := s1.toks) (fun b u e => Heap.get?_push_of_some _ e) (Nat.le_refl _) ⟨at_, z, us, r, ?_⟩, rfl, q _ _ new rfl⟩
  exact ⟨_, at_, rfl, _, rfl⟩
theorem call_tupF : CallR X (.type "tuple") (rTupF X.K) := by
  rintro pins s σ H xs us Q I r ⟨p, ys, rfl, h⟩
  obtain ⟨u, rfl, rx⟩ := vals1 r
  cases rx
  rcases h with ⟨hq, q⟩ | ⟨hq, q⟩
  · obtain ⟨its, rv, pl, hz⟩ := I.list hq
    have hl := rv.length
    refine call_tuple_list pl.isList (fun h' kp => ?_) (by simp only [List.size_toArray]; omega)
    have J : Inv X pins σ H { s with heap := h' } := I.kept (t' := s.toks) kp
    have at_ : (h'.push { cls := .type "tuple", data := .seq its.toArray }).get? h'.objs.size = some { cls := .type "tuple", data := .seq its.toArray } := Heap.get?_push_size _ rfl
    have J2 : Inv X pins σ (upd H h'.objs.size (.frz { cls := .type "tuple", data := .seq its.toArray } (.tup ys))) { s with heap := h'.push { cls := .type "tuple", data := .seq its.toArray } } :=
      J.laid (t' := s.toks) (fun b o e => Heap.get?_push_of_some _ e) (Nat.le_refl _) ⟨at_, hz, its, rv, ⟨_, at_, rfl, _, rfl⟩⟩
    exact ⟨.ref h'.objs.size, _, J2, rfl, q _ _ (J.hok.fresh (Nat.le_refl _)) rfl⟩
  · obtain ⟨its, rv, pl, hz⟩ := I.tuple hq
    exact call_tuple_same pl ⟨.ref p, H, I, rfl, q⟩
theorem pe_tidx {o e : Expr} {to : TE} {apos cpos : Pos} (ho : PE X o to) (ha : PA X [e] t)
    (hbase : attributeBase o "index" X.env (eval o X.env) = eval o X.env := by rfl)
    (hfew : ((backTo cpos (starEach [e] X.env)).all (fun x => !x.1) && (backToKw cpos (keywordEach [] X.env)).all (fun x => x.1.isSome) && decide ([e].length + ([] : List Keyword).length + (if ([] : List Keyword).isEmpty then 0 else 1) < 30)) = true := by rfl)
    (hline : (apos.endLine == cpos.line) = true := by rfl) (hs : starEach [e] X.env = (false, eval e X.env) :: starEach [] X.env := by rfl) (hplain : (backTo cpos (starEach [] X.env)).any (·.1) = false := by rfl) :
    PE X (.Call (.Attribute o "index" apos) [e] [] cpos) (tIdx X.K to t) := by
  constructor
  intro pins s σ H Q I h
  refine wpAny_Call_method_late hbase hfew hline rfl (thn (ho.run pins s σ H _ I h) ?_)
  rintro v s1 ⟨x, H1, I1, r1, p, rfl, ⟨ob, xs, hp, hd⟩, q1⟩
  cases r1
  obtain ⟨g1, g2⟩ := (show ObjOk X.prog X.w H1 s1.heap p (.frz ob (.tup xs)) from I1.hok p _ hp)
  obtain ⟨_, its, rv, o2, g3, g4, _⟩ := (show ObjOk X.prog X.w H1 s1.heap p (.tup xs) from g2)
  refine ⟨"tuple", "tuple.index", PySem.F.plainAttrs_tuple, PySem.F.slot_tuple_index, PySem.F.type_tuple_index, ⟨o2, g3, g4⟩, fun a e => ?_, ?_⟩
  · cases e
    exact ⟨ob, g1, hd⟩
  have hA := ha.run cpos pins s1 σ H1 _ I1 q1
  rw [hs] at hA ⊢
  refine Calls.callWith_builtin ?_ (Calls.evalArgs_plain (thn hA ?_))
  · show (false || (backTo cpos (starEach [] X.env)).any (·.1)) = false
    rw [hplain]
    rfl
  · rintro us s2 ⟨vs, H2, I2, r2, ys, z, j, rfl, e1, e2, e3, q⟩
    exact mt_tup_index pins s2 σ H2 (.ref p) [.str z] _ us Q I2 rfl r2 ⟨p, ys, z, j, rfl, rfl, e1, e2, e3, q⟩
end
end GL

/-! the data layer: what a piece of text does, told by data alone -/
namespace GL
open PySem PySem.Spec PyProof.Rows L2
/-- a tuple of texts: told with its object -/
def isS : PyData → Bool
  | .str _ => true
  | _ => false
def ixT : List PyData → Bool
  | .str _ :: r => r.all isS
  | _ => false
mutual
/-- a value's datum, over what is seen -/
inductive Du (K : PySem.W.Frag) (M : Hp) : V → PyData → Prop
  | non : Du K M .non .none
  | bl (b : Bool) : Du K M (.bl b) (.bool b)
  | int (i : Int) : Du K M (.int i) (.int i)
  | str (x : Str) : Du K M (.str x) (.str x)
  | lst {a : Addr} {xs : List V} {ds : List PyData} : M a = some (.lst xs) → DuAll K M xs ds → Du K M (.ref a) (.list ds)
  | tup {a : Addr} {xs : List V} {ds : List PyData} : SqT K M a xs → DuAll K M xs ds → (ixT ds = true → NoD M a) → Du K M (.ref a) (.tuple ds)
  | dk {a : Addr} {kvs : List (Key × V)} {ds : List (PyData × PyData)} : M a = some (.dK kvs) → (kvs.map (·.1)).Nodup → DuKv K M kvs ds → Du K M (.ref a) (.dict ds)
  | dt {a : Addr} {ds : List (PyData × PyData)} : ds = [(.tuple [], .int 1)] → M a = some (.dT [([], .int 1)]) → Du K M (.ref a) (.dict ds)
inductive DuAll (K : PySem.W.Frag) (M : Hp) : List V → List PyData → Prop
  | nil : DuAll K M [] []
  | cons {v : V} {vs : List V} {d : PyData} {ds : List PyData} : Du K M v d → DuAll K M vs ds → DuAll K M (v :: vs) (d :: ds)
inductive DuKv (K : PySem.W.Frag) (M : Hp) : List (Key × V) → List (PyData × PyData) → Prop
  | nil : DuKv K M [] []
  | cons {k : Key} {v : V} {kvs : List (Key × V)} {kd d : PyData} {ds : List (PyData × PyData)} : kd = (match k with | .inl i => .int i | .inr x => .str x) → Du K M v d → DuKv K M kvs ds → DuKv K M ((k, v) :: kvs) ((kd, d) :: ds)
end
variable {K : PySem.W.Frag} {M M' M1 M2 H H' H1 H2 : Hp}
mutual
theorem du_same (k : Same M M') : ∀ (d : PyData) (v : V), Du K M v d → Du K M' v d
  | .none, _, h => by cases h; exact .non
  | .bool _, _, h => by cases h; exact .bl _
  | .int _, _, h => by cases h; exact .int _
  | .str _, _, h => by cases h; exact .str _
  | .list ds, _, h => by
    cases h with
    | lst a c => exact .lst (k _ _ a) (duA_same k ds _ c)
  | .tuple ds, _, h => by
    cases h with
    | tup a c n => exact .tup (TupK.same k _ _ _ a) (duA_same k ds _ c) fun z => (n z).same k
  | .dict ds, _, h => by
    cases h with
    | dk a b c => exact .dk (k _ _ a) b (duK_same k ds _ c)
    | dt e a => exact .dt e (k _ _ a)
theorem duA_same (k : Same M M') : ∀ (ds : List PyData) (vs : List V), DuAll K M vs ds → DuAll K M' vs ds
  | [], _, h => by cases h; exact .nil
  | d :: ds, _, h => by
    cases h with
    | cons a b => exact .cons (du_same k d _ a) (duA_same k ds _ b)
theorem duK_same (k : Same M M') : ∀ (ds : List (PyData × PyData)) (vs : List (Key × V)), DuKv K M vs ds → DuKv K M' vs ds
  | [], _, h => by cases h; exact .nil
  | (_, d) :: ds, _, h => by
    cases h with
    | cons e a b => exact .cons e (du_same k d _ a) (duK_same k ds _ b)
end
mutual
theorem du_dp (k : Same M H) : ∀ (d : PyData) (v : V), d.hasDict = false → Du K M v d → Dp K H v d
  | .none, _, _, h => by cases h; exact .non
  | .bool _, _, _, h => by cases h; exact .bl _
  | .int _, _, _, h => by cases h; exact .int _
  | .str _, _, _, h => by cases h; exact .str _
  | .list ds, _, n, h => by
    cases h with
    | lst a c => exact .lst (SqL.of (k _ _ a)) (duA_dp k ds _ (by simpa [PyData.hasDict] using n) c)
  | .tuple ds, _, n, h => by
    cases h with
    | tup a c _ => exact .tup (TupK.same k _ _ _ a) (duA_dp k ds _ (by simpa [PyData.hasDict] using n) c)
  | .dict ds, _, n, h => by simp [PyData.hasDict] at n
theorem duA_dp (k : Same M H) : ∀ (ds : List PyData) (vs : List V), PyData.hasDictAll ds = false → DuAll K M vs ds → DpAll K H vs ds
  | [], _, _, h => by cases h; exact .nil
  | d :: ds, _, n, h => by
    cases h with
    | cons a b =>
      simp only [PyData.hasDictAll, Bool.or_eq_false_iff] at n
      exact .cons (du_dp k d _ n.1 a) (duA_dp k ds _ n.2 b)
end
theorem DuAll.length : ∀ {ds : List PyData} {vs : List V}, DuAll K M vs ds → vs.length = ds.length
  | [], _, h => by cases h; rfl
  | _ :: _, _, h => by
    cases h with
    | cons a b => rw [List.length_cons, List.length_cons, DuAll.length b]
theorem DuAll.get : ∀ {ds : List PyData} {vs : List V} {i : Nat} {d : PyData}, DuAll K M vs ds → ds[i]? = some d → ∃ v, vs[i]? = some v ∧ Du K M v d
  | [], _, i, _, h, e => by simp at e
  | _ :: _, _, 0, _, h, e => by
    cases h with
    | cons a b =>
      cases e
      exact ⟨_, rfl, a⟩
  | _ :: _, _, i + 1, _, h, e => by
    cases h with
    | cons a b =>
      rw [List.getElem?_cons_succ] at e
      obtain ⟨v, hv, q⟩ := DuAll.get b e
      exact ⟨v, by rw [List.getElem?_cons_succ]; exact hv, q⟩
theorem DuAll.get' : ∀ {ds : List PyData} {vs : List V} {i : Nat} {v : V}, DuAll K M vs ds → vs[i]? = some v → ∃ d, ds[i]? = some d ∧ Du K M v d
  | [], _, i, _, h, e => by cases h; simp at e
  | _ :: _, _, 0, _, h, e => by
    cases h with
    | cons a b =>
      cases e
      exact ⟨_, rfl, a⟩
  | _ :: _, _, i + 1, _, h, e => by
    cases h with
    | cons a b =>
      rw [List.getElem?_cons_succ] at e
      obtain ⟨v, hv, q⟩ := DuAll.get' b e
      exact ⟨v, by rw [List.getElem?_cons_succ]; exact hv, q⟩
theorem DuAll.append : ∀ {ds es : List PyData} {vs us : List V}, DuAll K M vs ds → DuAll K M us es → DuAll K M (vs ++ us) (ds ++ es)
  | [], _, _, _, h, g => by cases h; exact g
  | _ :: _, _, _, _, h, g => by
    cases h with
    | cons a b => exact .cons a (DuAll.append b g)
theorem DuAll.drop : ∀ {ds : List PyData} {vs : List V} (n : Nat), DuAll K M vs ds → DuAll K M (vs.drop n) (ds.drop n)
  | _, _, 0, h => h
  | [], _, n + 1, h => by cases h; exact .nil
  | _ :: _, _, n + 1, h => by
    cases h with
    | cons a b => exact DuAll.drop n b
theorem DuAll.take : ∀ {ds : List PyData} {vs : List V} (n : Nat), DuAll K M vs ds → DuAll K M (vs.take n) (ds.take n)
  | _, _, 0, h => .nil
  | [], _, n + 1, h => by cases h; exact .nil
  | _ :: _, _, n + 1, h => by
    cases h with
    | cons a b => exact .cons a (DuAll.take n b)
/-- a slice of data -/
def cutD (ds : List PyData) (lo hi : Option Int) : List PyData := (ds.drop (HT.sIx ds.length 0 lo)).take (HT.sIx ds.length ds.length hi - HT.sIx ds.length 0 lo)
theorem DuAll.cut {ds : List PyData} {vs : List V} (h : DuAll K M vs ds) (lo hi : Option Int) : DuAll K M (cutV vs lo hi) (cutD ds lo hi) := by
  unfold cutV cutD
  rw [h.length]
  exact (h.drop _).take _

/-! ### heaps -/
abbrev Bg := Option (Addr × Addr)
def Fr (bg : Bg) (H H' : Hp) : Prop := ∀ q o, (∀ c, bg ≠ some (q, c)) → H q = some o → H' q = some o
def BagOk (bg : Bg) (M H : Hp) : Prop := ∀ b c, bg = some (b, c) → Bag H b c ∧ M b = none
structure Stp (bg : Bg) (M H M' H' : Hp) : Prop where
  sm : Same M M'
  vis : Same M' H'
  fr : Fr bg H H'
  hid : ∀ a, M a = none → H a ≠ none → M' a = none
  bag : BagOk bg M H → BagOk bg M' H'
  live : ∀ a, H a ≠ none → H' a ≠ none
variable {bg : Bg}
theorem Same.rf (H : Hp) : Same H H := fun _ _ e => e
theorem Stp.refl (k : Same M H) : Stp bg M H M H := ⟨Same.rf M, k, fun _ _ _ e => e, fun _ e _ => e, fun b => b, fun _ e => e⟩
theorem Stp.trans {M3 H3 : Hp} (a : Stp bg M1 H1 M2 H2) (b : Stp bg M2 H2 M3 H3) : Stp bg M1 H1 M3 H3 :=
  ⟨a.sm.trans b.sm, b.vis, fun q o n e => b.fr q o n (a.fr q o n e), fun q e n => b.hid q (a.hid q e n) (a.live q n), fun g => b.bag (a.bag g), fun q n => b.live q (a.live q n)⟩
theorem none_of_vis {p : Addr} (k : Same M H) (h : H p = none) : M p = none := by
  cases e : M p with
  | none => rfl
  | some o => rw [k _ _ e] at h; cases h
/-- a new thing that is seen -/
theorem Stp.new {p : Addr} (k : Same M H) (hp : H p = none) (o : HO) : Stp bg M H (upd M p o) (upd H p o) := by
  refine ⟨put_new (none_of_vis k hp) o, fun q u e => ?_, fun q u _ e => ?_, fun q e n => ?_, fun g b c e => ?_, fun q n => ?_⟩
  · by_cases z : q = p
    · rw [z, upd_same] at e ⊢
      exact e
    · rw [upd_ne z] at e ⊢
      exact k _ _ e
  · rw [upd_ne (ne_of_none e hp)]
    exact e
  · have : q ≠ p := fun z => n (by rw [z]; exact hp)
    rw [upd_ne this]
    exact e
  · obtain ⟨h1, h2⟩ := g b c e
    obtain ⟨xs, hx⟩ := h1.lst
    exact ⟨h1.new hp, by rw [upd_ne (ne_of_none hx hp)]; exact h2⟩
  · by_cases z : q = p
    · rw [z, upd_same]
      exact fun z => nomatch z
    · rw [upd_ne z]
      exact n
/-- a new thing that is not -/
theorem Stp.hidden {p : Addr} (k : Same M H) (hp : H p = none) (o : HO) : Stp bg M H M (upd H p o) := by
  refine ⟨Same.rf M, fun q u e => ?_, fun q u _ e => ?_, fun q e _ => e, fun g b c e => ?_, fun q n => ?_⟩
  · have := k _ _ e
    rw [upd_ne (ne_of_none this hp)]
    exact this
  · rw [upd_ne (ne_of_none e hp)]
    exact e
  · obtain ⟨h1, h2⟩ := g b c e
    exact ⟨h1.new hp, h2⟩
  · by_cases z : q = p
    · rw [z, upd_same]
      exact fun z => nomatch z
    · rw [upd_ne z]
      exact n
/-- the bag alone changes -/
theorem Stp.kp {b c : Addr} (k : Same M H) (hm : M b = none) (kp : Kp b H H') (hb : Bag H' b c) : Stp (some (b, c)) M H M H' := by
  have ne : ∀ q o, M q = some o → q ≠ b := fun q o e z => by rw [z, hm] at e; cases e
  refine ⟨Same.rf M, fun q u e => kp _ _ (ne q u e) (k _ _ e), fun q u n e => kp _ _ (fun z => n c (by rw [z])) e, fun q e _ => e, fun g b' c' e => ?_, fun q n => ?_⟩
  · cases e
    exact ⟨hb, hm⟩
  · by_cases z : q = b
    · rw [z]
      obtain ⟨_, h⟩ := hb.lst
      rw [h]
      exact fun z => nomatch z
    · cases e : H q with
      | none => exact absurd e n
      | some o =>
        rw [kp _ _ z e]
        exact fun z => nomatch z

/-! ### what is borrowed: a list of one's own, read -/
def Sh (K : PySem.W.Frag) (bg : Bg) (M H : Hp) (v : V) (d : PyData) : Prop :=
  Du K M v d ∨ ∃ p vs ds, v = .ref p ∧ d = .list ds ∧ (∀ c, bg ≠ some (p, c)) ∧ H p = some (.lst vs) ∧ DuAll K M vs ds
theorem Sh.step {v : V} {d : PyData} (h : Sh K bg M H v d) (s : Stp bg M H M' H') : Sh K bg M' H' v d := by
  rcases h with h | ⟨p, vs, ds, rfl, rfl, hb, hp, ha⟩
  · exact .inl (du_same s.sm _ _ h)
  · exact .inr ⟨p, vs, ds, rfl, rfl, hb, s.fr _ _ hb hp, duA_same s.sm _ _ ha⟩
theorem Sh.dp {v : V} {d : PyData} (k : Same M H) (n : d.hasDict = false) (h : Sh K bg M H v d) : Dp K H v d := by
  rcases h with h | ⟨p, vs, ds, rfl, rfl, hb, hp, ha⟩
  · exact du_dp k _ _ n h
  · exact .lst (SqL.of hp) (duA_dp k ds _ (by simpa [PyData.hasDict] using n) ha)
theorem Sh.list {v : V} {ds : List PyData} (k : Same M H) (h : Sh K bg M H v (.list ds)) : ∃ p vs, v = .ref p ∧ H p = some (.lst vs) ∧ DuAll K M vs ds := by
  rcases h with h | ⟨p, vs, es, rfl, e, hb, hp, ha⟩
  · cases h with
    | lst a c => exact ⟨_, _, rfl, k _ _ a, c⟩
  · cases e
    exact ⟨p, vs, rfl, hp, ha⟩
theorem Sh.tuple {v : V} {ds : List PyData} (k : Same M H) (h : Sh K bg M H v (.tuple ds)) : ∃ p vs, v = .ref p ∧ SqT K H p vs ∧ DuAll K M vs ds := by
  rcases h with h | ⟨p, vs, es, rfl, e, hb, hp, ha⟩
  · cases h with
    | tup a c _ => exact ⟨_, _, rfl, TupK.same k _ _ _ a, c⟩
  · cases e
theorem Sh.int {v : V} {i : Int} (h : Sh K bg M H v (.int i)) : v = .int i := by
  rcases h with h | ⟨p, vs, es, rfl, e, hb, hp, ha⟩
  · cases h; rfl
  · cases e
theorem Sh.bool {v : V} {i : Bool} (h : Sh K bg M H v (.bool i)) : v = .bl i := by
  rcases h with h | ⟨p, vs, es, rfl, e, hb, hp, ha⟩
  · cases h; rfl
  · cases e
theorem Sh.str {v : V} {i : Str} (h : Sh K bg M H v (.str i)) : v = .str i := by
  rcases h with h | ⟨p, vs, es, rfl, e, hb, hp, ha⟩
  · cases h; rfl
  · cases e
theorem Sh.none {v : V} (h : Sh K bg M H v .none) : v = .non := by
  rcases h with h | ⟨p, vs, es, rfl, e, hb, hp, ha⟩
  · cases h; rfl
  · cases e
def isNone : PyData → Bool
  | .none => true
  | _ => false
theorem Sh.isNone {v : V} {d : PyData} (h : Sh K bg M H v d) : decide (v = .non) = GL.isNone d := by
  rcases h with h | ⟨p, vs, es, rfl, rfl, hb, hp, ha⟩
  · cases h <;> rfl
  · rfl
/-- a datum that stands by itself -/
def flatD : PyData → Bool
  | .none => true
  | .bool _ => true
  | .int _ => true
  | .str _ => true
  | _ => false
theorem Sh.flat {v : V} {d : PyData} (h : Sh K bg M H v d) : flatV v = flatD d := by
  rcases h with h | ⟨p, vs, es, rfl, rfl, hb, hp, ha⟩
  · cases h <;> rfl
  · rfl
theorem duA_flat : ∀ {ds : List PyData} {vs : List V}, DuAll K M vs ds → vs.all flatV = ds.all flatD
  | [], _, h => by cases h; rfl
  | _ :: _, _, h => by
    cases h with
    | cons a b => rw [List.all_cons, List.all_cons, duA_flat b, Sh.flat (bg := none) (H := M) (.inl a)]
def inD (a : PyData) (ds : List PyData) : Bool := ds.any fun e => e.eqv a
theorem eqV_du {v u : V} {d e : PyData} (h : Du K M v d) (g : Du K M u e) (hf : flatD d = true) (gf : flatD e = true) : eqV v u = d.eqv e := by
  cases h <;> first | (cases hf; done) | (cases g <;> first | (cases gf; done) | simp only [eqV, PyData.eqv])
theorem Sh.du {v : V} {d : PyData} (f : flatD d = true) (h : Sh K bg M H v d) : Du K M v d := by
  rcases h with h | ⟨p, vs, es, rfl, rfl, hb, hp, ha⟩
  · exact h
  · cases f
theorem inV_du {v : V} {d : PyData} (h : Du K M v d) (hf : flatD d = true) : ∀ {ds : List PyData} {vs : List V}, DuAll K M vs ds → ds.all flatD = true → inV v vs = inD d ds
  | [], _, g, _ => by cases g; rfl
  | e :: ds, _, g, f => by
    cases g with
    | cons a b =>
      rw [List.all_cons, Bool.and_eq_true] at f
      have ih := inV_du h hf b f.2
      unfold inV inD at *
      rw [List.any_cons, List.any_cons, ih, eqV_du a h f.1 hf]
end GL

/-! the data layer: names, parts of text -/
namespace GL
open PySem PySem.Spec PyProof.Rows L2
inductive DV where
  | im (d : PyData)
  | ow (ds : List PyData)
  | od (kvs : List (Str × PyData))
  | bag
  /-- a thing of another kind, that is seen and stays -/
  | ob (Φ : Hp → Addr → Prop) (mono : ∀ M M' a, Same M M' → Φ M a → Φ M' a)
def isOwn : DV → Bool
  | .ow _ => true
  | .od _ => true
  | _ => false
/-- a dict's pairs, its keys texts -/
def DuKs (K : PySem.W.Frag) (M : Hp) (ks : List (Key × V)) (kvs : List (Str × PyData)) : Prop :=
  ks.map (·.1) = kvs.map (fun e => Sum.inr e.1) ∧ DuAll K M (ks.map (·.2)) (kvs.map (·.2)) ∧ (kvs.map (·.1)).Nodup
theorem DuKs.same {K : PySem.W.Frag} {M M' : Hp} (k : Same M M') {ks : List (Key × V)} {kvs : List (Str × PyData)} (h : DuKs K M ks kvs) : DuKs K M' ks kvs := ⟨h.1, duA_same k _ _ h.2.1, h.2.2⟩
def dictD (kvs : List (Str × PyData)) : PyData := .dict (kvs.map fun e => (.str e.1, e.2))
abbrev En := List (Option DV)
/-- a call's frame: the bag, what was seen, what stood -/
structure Cb where
  bg : Bg
  M0 : Hp
  H0 : Hp
def Sl (K : PySem.W.Frag) (C : Cb) (M H : Hp) (v : V) : DV → Prop
  | .im d => Du K M v d
  | .ow ds => ∃ p vs, v = .ref p ∧ M p = none ∧ H p = some (.lst vs) ∧ C.H0 p = none ∧ DuAll K M vs ds
  | .od kvs => ∃ p ks, v = .ref p ∧ M p = none ∧ H p = some (.dK ks) ∧ C.H0 p = none ∧ DuKs K M ks kvs
  | .bag => ∃ b c, C.bg = some (b, c) ∧ v = .ref b
  | .ob Φ _ => ∃ a, v = .ref a ∧ Φ M a
structure Ev (K : PySem.W.Frag) (C : Cb) (M H : Hp) (σ : L2.St) (ρ : En) : Prop where
  len : ρ.length = σ.length
  vis : Same M H
  bag : BagOk C.bg M H
  bg0 : ∀ b c, C.bg = some (b, c) → C.H0 b ≠ none ∧ C.H0 c ≠ none
  fr : Fr C.bg C.H0 H
  sm : Same C.M0 M
  hid : ∀ a, C.M0 a = none → C.H0 a ≠ none → M a = none
  live : ∀ a, C.H0 a ≠ none → H a ≠ none
  sl : ∀ (i : Nat) (x : DV), ρ[i]? = some (some x) → ∃ v, σ[i]? = some (some v) ∧ Sl K C M H v x
  apart : ∀ (i j : Nat) (x y : DV) (p : Addr), i ≠ j → ρ[i]? = some (some x) → isOwn x = true → ρ[j]? = some (some y) → isOwn y = true → σ[i]? = some (some (.ref p)) → σ[j]? ≠ some (some (.ref p))
section
variable {K : PySem.W.Frag} {C : Cb} {M M' M1 H H' H1 : Hp} {σ : L2.St} {ρ : En}
theorem notbag (e : ∀ b c, C.bg = some (b, c) → C.H0 b ≠ none ∧ C.H0 c ≠ none) {p : Addr} (h : C.H0 p = none) : ∀ c, C.bg ≠ some (p, c) := fun c z => (e p c z).1 h
theorem Sl.step {v : V} {x : DV} (e0 : ∀ b c, C.bg = some (b, c) → C.H0 b ≠ none ∧ C.H0 c ≠ none) (h : Sl K C M H v x) (s : Stp C.bg M H M' H') : Sl K C M' H' v x := by
  cases x with
  | im d => exact du_same s.sm _ _ h
  | ow ds =>
    obtain ⟨p, vs, e, hm, hp, h0, ha⟩ := h
    exact ⟨p, vs, e, s.hid p hm (by rw [hp]; exact fun z => nomatch z), s.fr _ _ (notbag e0 h0) hp, h0, duA_same s.sm _ _ ha⟩
  | od kvs =>
    obtain ⟨p, vs, e, hm, hp, h0, ha⟩ := h
    exact ⟨p, vs, e, s.hid p hm (by rw [hp]; exact fun z => nomatch z), s.fr _ _ (notbag e0 h0) hp, h0, ha.same s.sm⟩
  | bag => exact h
  | ob Φ mono =>
    obtain ⟨a, e, h⟩ := h
    exact ⟨a, e, mono _ _ a s.sm h⟩
theorem Ev.step (e : Ev K C M H σ ρ) (s : Stp C.bg M H M' H') : Ev K C M' H' σ ρ where
  len := e.len
  vis := s.vis
  bag := s.bag e.bag
  bg0 := e.bg0
  fr := fun q o n h => s.fr q o n (e.fr q o n h)
  sm := e.sm.trans s.sm
  hid := fun a h1 h2 => s.hid a (e.hid a h1 h2) (e.live a h2)
  live := fun a h => s.live a (e.live a h)
  sl := fun i x h => by
    obtain ⟨v, hv, q⟩ := e.sl i x h
    exact ⟨v, hv, q.step e.bg0 s⟩
  apart := e.apart
theorem Ev.fin (e : Ev K C M H σ ρ) : Stp C.bg C.M0 C.H0 M H := ⟨e.sm, e.vis, e.fr, e.hid, fun _ => e.bag, e.live⟩
/-- a name gets a datum -/
theorem Ev.set (e : Ev K C M H σ ρ) {v : V} {d : PyData} (h : Du K M v d) (i : Nat) : Ev K C M H (σ.set i (some v)) (ρ.set i (some (.im d))) where
  len := by rw [List.length_set, List.length_set, e.len]
  vis := e.vis
  bag := e.bag
  bg0 := e.bg0
  fr := e.fr
  sm := e.sm
  hid := e.hid
  live := e.live
  sl := fun j x hx => by
    by_cases z : i = j
    · subst z
      rw [List.getElem?_set] at hx ⊢
      rw [if_pos rfl] at hx ⊢
      rw [← e.len]
      by_cases l : i < ρ.length
      · rw [if_pos l] at hx ⊢
        cases hx
        exact ⟨v, rfl, h⟩
      · rw [if_neg l] at hx
        cases hx
    · rw [List.getElem?_set_ne z] at hx ⊢
      exact e.sl j x hx
  apart := fun j k x y p n h1 o1 h2 o2 h3 h4 => by
    have nj : i ≠ j := fun z => by
      subst z
      rw [List.getElem?_set, if_pos rfl] at h1
      split at h1 <;> cases h1 <;> cases o1
    have nk : i ≠ k := fun z => by
      subst z
      rw [List.getElem?_set, if_pos rfl] at h2
      split at h2 <;> cases h2 <;> cases o2
    rw [List.getElem?_set_ne nj] at h1 h3
    rw [List.getElem?_set_ne nk] at h2 h4
    exact e.apart j k x y p n h1 o1 h2 o2 h3 h4
/-- a name loses what it holds -/
theorem Ev.drop (e : Ev K C M H σ ρ) (i : Nat) : Ev K C M H (σ.set i none) (ρ.set i none) where
  len := by rw [List.length_set, List.length_set, e.len]
  vis := e.vis
  bag := e.bag
  bg0 := e.bg0
  fr := e.fr
  sm := e.sm
  hid := e.hid
  live := e.live
  sl := fun j x hx => by
    by_cases z : i = j
    · subst z
      rw [List.getElem?_set, if_pos rfl] at hx
      split at hx <;> cases hx
    · rw [List.getElem?_set_ne z] at hx ⊢
      exact e.sl j x hx
  apart := fun j k x y p n h1 o1 h2 o2 h3 h4 => by
    have nj : i ≠ j := fun z => by
      subst z
      rw [List.getElem?_set, if_pos rfl] at h1
      split at h1 <;> cases h1 <;> cases o1
    have nk : i ≠ k := fun z => by
      subst z
      rw [List.getElem?_set, if_pos rfl] at h2
      split at h2 <;> cases h2 <;> cases o2
    rw [List.getElem?_set_ne nj] at h1 h3
    rw [List.getElem?_set_ne nk] at h2 h4
    exact e.apart j k x y p n h1 o1 h2 o2 h3 h4
def wipeD (ρ : En) : List Nat → En
  | [] => ρ
  | v :: vs => (wipeD ρ vs).set v none
theorem Ev.wipe (e : Ev K C M H σ ρ) : ∀ vs : List Nat, Ev K C M H (L2.wipe σ vs) (wipeD ρ vs)
  | [] => e
  | v :: vs => (Ev.wipe e vs).drop v
end

/-! ### readings by data -/
abbrev W := En → (PyData → Prop) → Prop
section
variable (K : PySem.W.Frag)
def RE (t : TE) (w : W) : Prop := ∀ C M H σ ρ P Q, Ev K C M H σ ρ → w ρ P → (∀ v d M' H', P d → Stp C.bg M H M' H' → Du K M' v d → Q v H') → t σ H Q
def RB (t : TE) (w : W) : Prop := ∀ C M H σ ρ P Q, Ev K C M H σ ρ → w ρ P → (∀ v d M' H', P d → Stp C.bg M H M' H' → Sh K C.bg M' H' v d → Q v H') → t σ H Q
def RT (t : TT) (w : En → (Bool → Prop) → Prop) : Prop := ∀ C M H σ ρ P Q, Ev K C M H σ ρ → w ρ P → (∀ b M' H', P b → Stp C.bg M H M' H' → Q b H') → t σ H Q
def RD (t : TA) (w : En → (List PyData → Prop) → Prop) : Prop := ∀ C M H σ ρ P Q, Ev K C M H σ ρ → w ρ P → (∀ vs ds M' H', P ds → Stp C.bg M H M' H' → DuAll K M' vs ds → Q vs H') → t σ H Q
inductive Shs (bg : Bg) (M H : Hp) : List V → List PyData → Prop
  | nil : Shs bg M H [] []
  | cons {v : V} {vs : List V} {d : PyData} {ds : List PyData} : Sh K bg M H v d → Shs bg M H vs ds → Shs bg M H (v :: vs) (d :: ds)
def RX (t : TA) (w : En → (List PyData → Prop) → Prop) : Prop := ∀ C M H σ ρ P Q, Ev K C M H σ ρ → w ρ P → (∀ vs ds M' H', P ds → Stp C.bg M H M' H' → Shs K C.bg M' H' vs ds → Q vs H') → t σ H Q
def Ax (bg : Bg) (M : Hp) (v : V) : DV → Prop
  | .im d => Du K M v d
  | .ow _ => False
  | .od _ => False
  | .bag => ∃ b c, bg = some (b, c) ∧ v = .ref b
  | .ob Φ _ => ∃ a, v = .ref a ∧ Φ M a
inductive Axs (bg : Bg) (M : Hp) : List V → List DV → Prop
  | nil : Axs bg M [] []
  | cons {v : V} {vs : List V} {d : DV} {ds : List DV} : Ax K bg M v d → Axs bg M vs ds → Axs bg M (v :: vs) (d :: ds)
def RA (t : TA) (w : En → (List DV → Prop) → Prop) : Prop := ∀ C M H σ ρ P Q, Ev K C M H σ ρ → w ρ P → (∀ vs ds M' H', P ds → Stp C.bg M H M' H' → Axs K C.bg M' vs ds → Q vs H') → t σ H Q
def RO (t : TO) (w : En → (Option Int → Prop) → Prop) : Prop := ∀ C M H σ ρ P Q, Ev K C M H σ ρ → w ρ P → (∀ o M' H', P o → Stp C.bg M H M' H' → Q o H') → t σ H Q
/-- operators, by data -/
def ROp (r : R2) (g : PyData → PyData → (PyData → Prop) → Prop) : Prop := ∀ bg M H x y a b P Q, Same M H → Sh K bg M H x a → Sh K bg M H y b → g a b P → (∀ v d M' H', P d → Stp bg M H M' H' → Du K M' v d → Q v H') → r x y H Q
def RCb (r : List V → Hp → VK → Prop) (g : List PyData → (PyData → Prop) → Prop) : Prop := ∀ bg M H xs ds P Q, Same M H → Shs K bg M H xs ds → g ds P → (∀ v d M' H', P d → Stp bg M H M' H' → Du K M' v d → Q v H') → r xs H Q
def RSl (r : V → Option Int → Option Int → Hp → VK → Prop) (g : PyData → Option Int → Option Int → (PyData → Prop) → Prop) : Prop := ∀ bg M H x lo hi a P Q, Same M H → Sh K bg M H x a → g a lo hi P → (∀ v d M' H', P d → Stp bg M H M' H' → Du K M' v d → Q v H') → r x lo hi H Q
/-- a def's promise, by data -/
def spW (w : List DV → (PyData → Prop) → Prop) : Sp := fun vs H Q _ => ∃ bg M ds P, Same M H ∧ BagOk bg M H ∧ Axs K bg M vs ds ∧ w ds P ∧ ∀ v d M' H', P d → Stp bg M H M' H' → Du K M' v d → Q v H'
end
variable {K : PySem.W.Frag}
theorem RE.b {t : TE} {w : W} (h : RE K t w) : RB K t w := fun C M H σ ρ P Q e hw q => h C M H σ ρ P Q e hw fun v d M' H' p s hd => q v d M' H' p s (.inl hd)
theorem Shs.step {bg : Bg} {M H M' H' : Hp} (s : Stp bg M H M' H') : ∀ {vs : List V} {ds : List PyData}, Shs K bg M H vs ds → Shs K bg M' H' vs ds
  | _, _, .nil => .nil
  | _, _, .cons a b => .cons (a.step s) (Shs.step s b)
theorem Axs.step {bg : Bg} {M H M' H' : Hp} (s : Stp bg M H M' H') : ∀ {vs : List V} {ds : List DV}, Axs K bg M vs ds → Axs K bg M' vs ds
  | _, _, .nil => .nil
  | _, d :: _, .cons a b => by
    refine .cons ?_ (Axs.step s b)
    cases d with
    | im d => exact du_same s.sm _ _ a
    | ow ds => exact a
    | od kvs => exact a
    | bag => exact a
    | ob Φ mono =>
      obtain ⟨b, e, h⟩ := a
      exact ⟨b, e, mono _ _ b s.sm h⟩
theorem Axs.length {bg : Bg} {M : Hp} : ∀ {vs : List V} {ds : List DV}, Axs K bg M vs ds → vs.length = ds.length
  | _, _, .nil => rfl
  | _, _, .cons _ b => by rw [List.length_cons, List.length_cons, Axs.length b]
section
variable {ta tb te : TE} {wa wb we : W} {t : TA}
theorem re_var (i : Nat) : RE K (tVar i) (fun ρ P => ∃ d, ρ[i]? = some (some (.im d)) ∧ P d) := by
  rintro C M H σ ρ P Q e ⟨d, hd, p⟩ q
  obtain ⟨v, hv, s⟩ := e.sl i _ hd
  exact ⟨v, hv, q v d M H p (.refl e.vis) s⟩
theorem rb_own (i : Nat) : RB K (tVar i) (fun ρ P => ∃ ds, ρ[i]? = some (some (.ow ds)) ∧ P (.list ds)) := by
  rintro C M H σ ρ P Q e ⟨ds, hd, p⟩ q
  obtain ⟨v, hv, a, vs, rfl, hm, hp, h0, ha⟩ := e.sl i _ hd
  exact ⟨_, hv, q _ _ M H p (.refl e.vis) (.inr ⟨a, vs, ds, rfl, rfl, notbag e.bg0 h0, hp, ha⟩)⟩
theorem re_int (i : Int) : RE K (tC (.int i)) (fun _ P => P (.int i)) := fun C M H σ ρ P Q e p q => q _ _ M H p (.refl e.vis) (.int i)
theorem re_str (i : Str) : RE K (tC (.str i)) (fun _ P => P (.str i)) := fun C M H σ ρ P Q e p q => q _ _ M H p (.refl e.vis) (.str i)
theorem re_bl (i : Bool) : RE K (tC (.bl i)) (fun _ P => P (.bool i)) := fun C M H σ ρ P Q e p q => q _ _ M H p (.refl e.vis) (.bl i)
theorem re_non : RE K (tC .non) (fun _ P => P .none) := fun C M H σ ρ P Q e p q => q _ _ M H p (.refl e.vis) .non
theorem re_op {r : R2} {g : PyData → PyData → (PyData → Prop) → Prop} (ho : ROp K r g) (ha : RB K ta wa) (hb : RB K tb wb) : RE K (tOp r ta tb) (fun ρ P => wa ρ fun a => wb ρ fun b => g a b P) := by
  intro C M H σ ρ P Q e hw q
  refine ha C M H σ ρ _ _ e hw fun v a M1 H1 p1 s1 d1 => ?_
  have e1 := e.step s1
  refine hb C M1 H1 σ ρ _ _ e1 p1 fun u b M2 H2 p2 s2 d2 => ?_
  exact ho C.bg M2 H2 v u a b P Q s2.vis (d1.step s2) d2 p2 fun z d M3 H3 p3 s3 d3 => q z d M3 H3 p3 ((s1.trans s2).trans s3) d3
theorem rd_nil : RD K tNil (fun _ P => P []) := fun C M H σ ρ P Q e p q => q [] [] M H p (.refl e.vis) .nil
theorem rd_cons {wr : En → (List PyData → Prop) → Prop} (ha : RE K te we) (hr : RD K t wr) : RD K (tCons te t) (fun ρ P => we ρ fun a => wr ρ fun as => P (a :: as)) := by
  intro C M H σ ρ P Q e hw q
  refine ha C M H σ ρ _ _ e hw fun v a M1 H1 p1 s1 d1 => ?_
  exact hr C M1 H1 σ ρ _ _ (e.step s1) p1 fun vs as M2 H2 p2 s2 d2 => q _ _ M2 H2 p2 (s1.trans s2) (.cons (du_same s2.sm _ _ d1) d2)
theorem rx_nil : RX K tNil (fun _ P => P []) := fun C M H σ ρ P Q e p q => q [] [] M H p (.refl e.vis) .nil
theorem rx_cons {wr : En → (List PyData → Prop) → Prop} (ha : RB K te we) (hr : RX K t wr) : RX K (tCons te t) (fun ρ P => we ρ fun a => wr ρ fun as => P (a :: as)) := by
  intro C M H σ ρ P Q e hw q
  refine ha C M H σ ρ _ _ e hw fun v a M1 H1 p1 s1 d1 => ?_
  exact hr C M1 H1 σ ρ _ _ (e.step s1) p1 fun vs as M2 H2 p2 s2 d2 => q _ _ M2 H2 p2 (s1.trans s2) (.cons (d1.step s2) d2)
theorem ra_nil : RA K tNil (fun _ P => P []) := fun C M H σ ρ P Q e p q => q [] [] M H p (.refl e.vis) .nil
theorem ra_cons {wr : En → (List DV → Prop) → Prop} (ha : RE K te we) (hr : RA K t wr) : RA K (tCons te t) (fun ρ P => we ρ fun a => wr ρ fun as => P (.im a :: as)) := by
  intro C M H σ ρ P Q e hw q
  refine ha C M H σ ρ _ _ e hw fun v a M1 H1 p1 s1 d1 => ?_
  exact hr C M1 H1 σ ρ _ _ (e.step s1) p1 fun vs as M2 H2 p2 s2 d2 => q _ _ M2 H2 p2 (s1.trans s2) (.cons (show Ax K C.bg M2 v (.im a) from du_same s2.sm _ _ d1) d2)
theorem ra_bag {wr : En → (List DV → Prop) → Prop} (i : Nat) (hr : RA K t wr) : RA K (tCons (tVar i) t) (fun ρ P => ρ[i]? = some (some .bag) ∧ wr ρ fun as => P (.bag :: as)) := by
  rintro C M H σ ρ P Q e ⟨hb, hw⟩ q
  obtain ⟨v, hv, b, c, eb, rfl⟩ := e.sl i _ hb
  refine ⟨_, hv, ?_⟩
  exact hr C M H σ ρ _ _ e hw fun vs as M2 H2 p2 s2 d2 => q _ _ M2 H2 p2 s2 (.cons (show Ax K C.bg M2 _ .bag from ⟨b, c, eb, rfl⟩) d2)
theorem ra_ob {wr : En → (List DV → Prop) → Prop} (i : Nat) (hr : RA K t wr) : RA K (tCons (tVar i) t) (fun ρ P => ∃ Φ mono, ρ[i]? = some (some (.ob Φ mono)) ∧ wr ρ fun as => P (.ob Φ mono :: as)) := by
  rintro C M H σ ρ P Q e ⟨Φ, mono, hb, hw⟩ q
  obtain ⟨v, hv, a, rfl, h⟩ := e.sl i _ hb
  refine ⟨_, hv, ?_⟩
  exact hr C M H σ ρ _ _ e hw fun vs as M2 H2 p2 s2 d2 => q _ _ M2 H2 p2 s2 (.cons (show Ax K C.bg M2 _ (.ob Φ mono) from ⟨a, rfl, mono _ _ a s2.sm h⟩) d2)
theorem re_call {w : List DV → (PyData → Prop) → Prop} {wr : En → (List DV → Prop) → Prop} {E : XK} (ha : RA K t wr) : RE K (tCall (spW K w) [] E t) (fun ρ P => wr ρ fun ds => w ds P) := by
  intro C M H σ ρ P Q e hw q
  refine ha C M H σ ρ _ _ e hw fun vs ds M1 H1 p1 s1 d1 => ?_
  rw [List.append_nil]
  exact ⟨C.bg, M1, ds, P, s1.vis, s1.bag e.bag, d1, p1, fun v d M' H' p s hd => q v d M' H' p (s1.trans s) hd⟩
theorem re_cb {r : List V → Hp → VK → Prop} {g : List PyData → (PyData → Prop) → Prop} {wr : En → (List PyData → Prop) → Prop} (hr : RCb K r g) (ha : RX K t wr) : RE K (tCB r t) (fun ρ P => wr ρ fun ds => g ds P) := by
  intro C M H σ ρ P Q e hw q
  refine ha C M H σ ρ _ _ e hw fun vs ds M1 H1 p1 s1 d1 => ?_
  exact hr C.bg M1 H1 vs ds P Q s1.vis d1 p1 fun v d M' H' p s hd => q v d M' H' p (s1.trans s) hd
theorem re_lst {wr : En → (List PyData → Prop) → Prop} (ha : RD K t wr) : RE K (tLst t) (fun ρ P => wr ρ fun ds => ds.length ≤ 1000 ∧ P (.list ds)) := by
  intro C M H σ ρ P Q e hw q
  refine ha C M H σ ρ _ _ e hw fun vs ds M1 H1 p1 s1 d1 => ?_
  refine ⟨by rw [d1.length]; exact Nat.le_trans p1.1 (by decide), fun p np => ?_⟩
  have s := Stp.new (bg := C.bg) s1.vis np (.lst vs)
  exact q _ _ _ _ p1.2 (s1.trans s) (.lst upd_same (duA_same s.sm _ _ d1))
theorem re_lstN {wr : En → (List PyData → Prop) → Prop} (ha : RD K t wr) : RE K (fun σ H Q => t σ H fun xs H1 => xs.length ≤ sizeLine ∧ ∀ (p : Addr), H1 p = none → p ≠ sysModules → Q (.ref p) (upd H1 p (.lst xs))) (fun ρ P => wr ρ fun ds => ds.length ≤ 1000 ∧ P (.list ds)) := by
  intro C M H σ ρ P Q e hw q
  refine ha C M H σ ρ _ _ e hw fun vs ds M1 H1 p1 s1 d1 => ?_
  refine ⟨by rw [d1.length]; exact Nat.le_trans p1.1 (by decide), fun p np _ => ?_⟩
  have s := Stp.new (bg := C.bg) s1.vis np (.lst vs)
  exact q _ _ _ _ p1.2 (s1.trans s) (.lst upd_same (duA_same s.sm _ _ d1))
theorem re_tup {wr : En → (List PyData → Prop) → Prop} (ha : RD K t wr) : RE K (tTupF t) (fun ρ P => wr ρ fun ds => ds.length ≤ 1000 ∧ P (.tuple ds)) := by
  intro C M H σ ρ P Q e hw q
  refine ha C M H σ ρ _ _ e hw fun vs ds M1 H1 p1 s1 d1 => ?_
  refine ⟨by rw [d1.length]; exact Nat.le_trans p1.1 (by decide), fun p ob np hd => ?_⟩
  have s := Stp.new (bg := C.bg) s1.vis np (.frz ob (.tup vs))
  exact q _ _ _ _ p1.2 (s1.trans s) (.tup (sqF upd_same) (duA_same s.sm _ _ d1) fun _ => ⟨ob, vs, upd_same, hd⟩)
theorem ro_none : RO K tNoPart (fun _ P => P none) := fun C M H σ ρ P Q e p q => q none M H p (.refl e.vis)
theorem ro_some (ha : RE K te we) : RO K (tPart te) (fun ρ P => we ρ fun d => ∃ i, d = .int i ∧ P (some i)) := by
  intro C M H σ ρ P Q e hw q
  refine ha C M H σ ρ _ _ e hw ?_
  rintro v d M1 H1 ⟨i, rfl, p⟩ s1 d1
  cases d1
  exact ⟨i, rfl, q _ M1 H1 p s1⟩
theorem re_slice {r : V → Option Int → Option Int → Hp → VK → Prop} {g : PyData → Option Int → Option Int → (PyData → Prop) → Prop} {tl th : TO} {wl wh : En → (Option Int → Prop) → Prop}
    (hr : RSl K r g) (ha : RB K te we) (hl : RO K tl wl) (hh : RO K th wh) : RE K (tSl r te tl th) (fun ρ P => we ρ fun a => wl ρ fun lo => wh ρ fun hi => g a lo hi P) := by
  intro C M H σ ρ P Q e hw q
  refine ha C M H σ ρ _ _ e hw fun v a M1 H1 p1 s1 d1 => ?_
  refine hl C M1 H1 σ ρ _ _ (e.step s1) p1 fun lo M2 H2 p2 s2 => ?_
  refine hh C M2 H2 σ ρ _ _ ((e.step s1).step s2) p2 fun hi M3 H3 p3 s3 => ?_
  exact hr C.bg M3 H3 v lo hi a P Q s3.vis ((d1.step s2).step s3) p3 fun v d M' H' p s hd => q v d M' H' p (((s1.trans s2).trans s3).trans s) hd
theorem rt_test (ha : RE K te we) : RT K (tTest te) (fun ρ P => we ρ fun d => ∃ k, d = .bool k ∧ P k) := by
  intro C M H σ ρ P Q e hw q
  refine ha C M H σ ρ _ _ e hw ?_
  rintro v d M1 H1 ⟨i, rfl, p⟩ s1 d1
  cases d1
  exact ⟨i, rfl, q _ M1 H1 p s1⟩
theorem rt_val (ha : RE K te we) : RT K (tB te) (fun ρ P => we ρ fun d => ∃ k, d = .bool k ∧ P k) := rt_test ha
variable {tc td : TT} {wc wd : En → (Bool → Prop) → Prop}
theorem rt_not (h : RT K tc wc) : RT K (tNot tc) (fun ρ P => wc ρ fun b => P (!b)) := fun C M H σ ρ P Q e hw q => h C M H σ ρ _ _ e hw fun b M' H' p s => q _ M' H' p s
theorem rt_and (h : RT K tc wc) (g : RT K td wd) : RT K (tAnd tc td) (fun ρ P => wc ρ fun b => if b = true then wd ρ P else P false) := by
  intro C M H σ ρ P Q e hw q
  refine h C M H σ ρ _ _ e hw fun b M1 H1 p1 s1 => ?_
  cases b with
  | true => exact g C M1 H1 σ ρ _ _ (e.step s1) p1 fun b M' H' p s => q b M' H' p (s1.trans s)
  | false => exact q _ _ _ p1 s1
theorem rt_or (h : RT K tc wc) (g : RT K td wd) : RT K (tOr tc td) (fun ρ P => wc ρ fun b => if b = true then P true else wd ρ P) := by
  intro C M H σ ρ P Q e hw q
  refine h C M H σ ρ _ _ e hw fun b M1 H1 p1 s1 => ?_
  cases b with
  | true => exact q _ _ _ p1 s1
  | false => exact g C M1 H1 σ ρ _ _ (e.step s1) p1 fun b M' H' p s => q b M' H' p (s1.trans s)
theorem re_if (h : RT K tc wc) (ha : RE K ta wa) (hb : RE K tb wb) : RE K (tIf tc ta tb) (fun ρ P => wc ρ fun b => if b = true then wa ρ P else wb ρ P) := by
  intro C M H σ ρ P Q e hw q
  refine h C M H σ ρ _ _ e hw fun b M1 H1 p1 s1 => ?_
  cases b with
  | true => exact ha C M1 H1 σ ρ _ _ (e.step s1) p1 fun v d M' H' p s hd => q v d M' H' p (s1.trans s) hd
  | false => exact hb C M1 H1 σ ρ _ _ (e.step s1) p1 fun v d M' H' p s hd => q v d M' H' p (s1.trans s) hd
theorem re_and (ha : RE K ta wa) (hb : RE K tb wb) : RE K (tAndV ta tb) (fun ρ P => wa ρ fun d => ∃ c, d = .bool c ∧ if c = true then wb ρ P else P (.bool false)) := by
  intro C M H σ ρ P Q e hw q
  refine ha C M H σ ρ _ _ e hw ?_
  rintro v d M1 H1 ⟨c, rfl, p1⟩ s1 d1
  cases d1
  refine ⟨c, rfl, ?_⟩
  cases c with
  | true => exact hb C M1 H1 σ ρ _ _ (e.step s1) p1 fun v d M' H' p s hd => q v d M' H' p (s1.trans s) hd
  | false => exact q _ _ _ _ p1 s1 (.bl _)
theorem re_or (ha : RE K ta wa) (hb : RE K tb wb) : RE K (tOrV ta tb) (fun ρ P => wa ρ fun d => ∃ c, d = .bool c ∧ if c = true then P (.bool true) else wb ρ P) := by
  intro C M H σ ρ P Q e hw q
  refine ha C M H σ ρ _ _ e hw ?_
  rintro v d M1 H1 ⟨c, rfl, p1⟩ s1 d1
  cases d1
  refine ⟨c, rfl, ?_⟩
  cases c with
  | true => exact q _ _ _ _ p1 s1 (.bl _)
  | false => exact hb C M1 H1 σ ρ _ _ (e.step s1) p1 fun v d M' H' p s hd => q v d M' H' p (s1.trans s) hd
theorem re_not (ha : RE K ta wa) : RE K (tNotV ta) (fun ρ P => wa ρ fun d => ∃ c, d = .bool c ∧ P (.bool !c)) := by
  intro C M H σ ρ P Q e hw q
  refine ha C M H σ ρ _ _ e hw ?_
  rintro v d M1 H1 ⟨c, rfl, p1⟩ s1 d1
  cases d1
  exact ⟨c, rfl, q _ _ _ _ p1 s1 (.bl _)⟩
end

/-! ### operators -/
def rInts (g : Int → Int → PyData) : PyData → PyData → (PyData → Prop) → Prop := fun a b P => ∃ i j, a = .int i ∧ b = .int j ∧ P (g i j)
theorem ro_add : ROp K (rI0 fun i j => .int (i + j)) (rInts fun i j => .int (i + j)) := by
  rintro bg M H x y a b P Q k hx hy ⟨i, j, rfl, rfl, p⟩ q
  exact ⟨i, j, hx.int, hy.int, q _ _ M H p (.refl k) (.int _)⟩
theorem ro_sub : ROp K (rI0 fun i j => .int (i - j)) (rInts fun i j => .int (i - j)) := by
  rintro bg M H x y a b P Q k hx hy ⟨i, j, rfl, rfl, p⟩ q
  exact ⟨i, j, hx.int, hy.int, q _ _ M H p (.refl k) (.int _)⟩
theorem ro_cmp {f : Int → Int → Bool} : ROp K (rI0 fun i j => .bl (f i j)) (rInts fun i j => .bool (f i j)) := by
  rintro bg M H x y a b P Q k hx hy ⟨i, j, rfl, rfl, p⟩ q
  exact ⟨i, j, hx.int, hy.int, q _ _ M H p (.refl k) (.bl _)⟩
theorem ro_isN : ROp K (fun x y H Q => y = .non ∧ Q (.bl (decide (x = .non))) H) (fun a b P => b = .none ∧ P (.bool (isNone a))) := by
  rintro bg M H x y a b P Q k hx hy ⟨rfl, p⟩ q
  exact ⟨hy.none, by rw [hx.isNone]; exact q _ _ M H p (.refl k) (.bl _)⟩
theorem ro_notN : ROp K (fun x y H Q => y = .non ∧ Q (.bl (!decide (x = .non))) H) (fun a b P => b = .none ∧ P (.bool (!isNone a))) := by
  rintro bg M H x y a b P Q k hx hy ⟨rfl, p⟩ q
  exact ⟨hy.none, by rw [hx.isNone]; exact q _ _ M H p (.refl k) (.bl _)⟩
/-- what a sequence holds -/
def itemsD : PyData → Option (List PyData)
  | .list ds => some ds
  | .tuple ds => some ds
  | _ => none
theorem Sh.seq {bg : Bg} {M H : Hp} {v : V} {d : PyData} {ds : List PyData} (k : Same M H) (h : Sh K bg M H v d) (e : itemsD d = some ds) : ∃ p vs, v = .ref p ∧ (SqL K H p vs ∨ SqT K H p vs) ∧ DuAll K M vs ds := by
  cases d with
  | list es =>
    cases e
    obtain ⟨p, vs, e1, e2, e3⟩ := h.list k
    exact ⟨p, vs, e1, .inl (SqL.of e2), e3⟩
  | tuple es =>
    cases e
    obtain ⟨p, vs, e1, e2, e3⟩ := h.tuple k
    exact ⟨p, vs, e1, .inr e2, e3⟩
  | _ => cases e
theorem ro_in {neg : Bool} : ROp K (rIn K neg) (fun a b P => ∃ ds, itemsD b = some ds ∧ flatD a = true ∧ ds.all flatD = true ∧ P (.bool (if neg = true then !inD a ds else inD a ds))) := by
  rintro bg M H x y a b P Q k hx hy ⟨ds, e, fa, fs, p⟩ q
  obtain ⟨t, vs, rfl, hs, ha⟩ := hy.seq k e
  refine ⟨t, vs, rfl, hs, by rw [hx.flat]; exact fa, by rw [duA_flat ha]; exact fs, ?_⟩
  rw [inV_du (hx.du fa) fa ha fs]
  exact q _ _ M H p (.refl k) (.bl _)
theorem atI_du {M : Hp} {vs : List V} {ds : List PyData} {i : Int} {d : PyData} (h : DuAll K M vs ds) (e : atI ds i = some d) : ∃ v, atI vs i = some v ∧ Du K M v d := by
  unfold atI at *
  rw [h.length]
  cases z : ixN ds.length i with
  | none => rw [z] at e; cases e
  | some j =>
    rw [z] at e
    exact h.get e
theorem ro_ix : ROp K (rIx K) (fun a b P => ∃ ds i d, itemsD a = some ds ∧ b = .int i ∧ atI ds i = some d ∧ P d) := by
  rintro bg M H x y a b P Q k hx hy ⟨ds, i, d, e, rfl, ei, p⟩ q
  obtain ⟨t, vs, rfl, hs, ha⟩ := hx.seq k e
  obtain ⟨v, hv, hd⟩ := atI_du ha ei
  cases hy.int
  rcases hs with hs | hs
  · exact .inl ⟨t, vs, i, v, rfl, rfl, hs, hv, q _ _ M H p (.refl k) hd⟩
  · exact .inr (.inl ⟨t, vs, i, v, rfl, rfl, hs, hv, q _ _ M H p (.refl k) hd⟩)
theorem ro_cat : ROp K rCat (fun a b P => ∃ ds es, a = .list ds ∧ b = .list es ∧ ds.length + es.length ≤ 1000 ∧ P (.list (ds ++ es))) := by
  rintro bg M H x y a b P Q k hx hy ⟨ds, es, rfl, rfl, l, p⟩ q
  obtain ⟨t, vs, rfl, hs, ha⟩ := hx.list k
  obtain ⟨u, us, rfl, gs, ga⟩ := hy.list k
  refine ⟨t, u, vs, us, rfl, rfl, hs, gs, by rw [ha.length, ga.length]; exact Nat.le_trans l (by decide), fun z nz => ?_⟩
  have s := Stp.new (bg := bg) k nz (.lst (vs ++ us))
  exact q _ _ _ _ p s (.lst upd_same (duA_same s.sm _ _ (ha.append ga)))
theorem ro_str : ROp K (fun x y H Q => ∃ i j, x = .str i ∧ y = .str j ∧ i.length + j.length ≤ sizeLine ∧ Q (.str (i ++ j)) H) (fun a b P => ∃ i j, a = .str i ∧ b = .str j ∧ i.length + j.length ≤ 1000 ∧ P (.str (i ++ j))) := by
  rintro bg M H x y a b P Q k hx hy ⟨i, j, rfl, rfl, l, p⟩ q
  exact ⟨i, j, hx.str, hy.str, Nat.le_trans l (by decide), q _ _ M H p (.refl k) (.str _)⟩
theorem ro_eqD : ROp K (rEqD K) (fun a b P => a.hasDict = false ∧ b.hasDict = false ∧ SeqAt.shaped a = true ∧ SeqAt.shaped b = true ∧ P (.bool (a.eqv b))) := by
  rintro bg M H x y a b P Q k hx hy ⟨na, nb, sa, sb, p⟩ q
  exact ⟨a, b, hx.dp k na, hy.dp k nb, sa, sb, q _ _ M H p (.refl k) (.bl _)⟩
theorem ro_neD : ROp K (rNeD K) (fun a b P => a.hasDict = false ∧ b.hasDict = false ∧ SeqAt.shaped a = true ∧ SeqAt.shaped b = true ∧ P (.bool (!a.eqv b))) := by
  rintro bg M H x y a b P Q k hx hy ⟨na, nb, sa, sb, p⟩ q
  exact ⟨a, b, hx.dp k na, hy.dp k nb, sa, sb, q _ _ M H p (.refl k) (.bl _)⟩
/-- == and != of things that stand by themselves, of one kind -/
def scalD : PyData → PyData → Bool
  | .int _, .int _ => true
  | .str _, .str _ => true
  | .bool _, .bool _ => true
  | _, _ => false
theorem dec_beq {α : Type} [BEq α] [LawfulBEq α] [DecidableEq α] (x y : α) : decide (x = y) = (x == y) := by
  rw [Bool.eq_iff_iff]
  simp
theorem ro_eq : ROp K rEq (fun a b P => scalD a b = true ∧ P (.bool (a.eqv b))) := by
  rintro bg M H x y a b P Q k hx hy ⟨sc, p⟩ q
  have f1 : flatD a = true := by cases a <;> first | rfl | cases sc
  have f2 : flatD b = true := by cases a <;> cases b <;> first | rfl | cases sc
  have e := q _ _ M H p (.refl k) (.bl _)
  have hx' := hx.du f1
  have hy' := hy.du f2
  cases hx' <;> first | (cases sc; done) | (cases hy' <;> first | (cases sc; done) | skip)
  all_goals
    refine ⟨rfl, ?_⟩
    simp only [PyData.eqv, V.bl.injEq, V.int.injEq, V.str.injEq] at e ⊢
    first | rwa [dec_beq] | exact e
/-! ### slices, tuple(), list(), len -/
theorem rs_list : RSl K (rSlL K) (fun a lo hi P => ∃ ds, a = .list ds ∧ P (.list (cutD ds lo hi))) := by
  rintro bg M H x lo hi a P Q k hx ⟨ds, rfl, p⟩ q
  obtain ⟨t, vs, rfl, hs, ha⟩ := hx.list k
  refine ⟨t, vs, rfl, SqL.of hs, fun z nz => ?_⟩
  have s := Stp.new (bg := bg) k nz (.lst (cutV vs lo hi))
  exact q _ _ _ _ p s (.lst upd_same (duA_same s.sm _ _ (ha.cut lo hi)))
theorem rc_len : RCb K (rLen2 K) (fun ds P => ∃ a es, ds = [a] ∧ itemsD a = some es ∧ P (.int es.length)) := by
  rintro bg M H xs ds P Q k hx ⟨a, es, rfl, e, p⟩ q
  cases hx with
  | cons h t =>
    cases t
    obtain ⟨t, vs, rfl, hs, ha⟩ := h.seq k e
    refine ⟨t, vs, rfl, hs, ?_⟩
    rw [ha.length]
    exact q _ _ M H p (.refl k) (.int _)
theorem rc_list : RCb K (fun xs H Q => ∃ p ys, xs = [.ref p] ∧ (SqL K H p ys ∨ SqT K H p ys) ∧ ∀ (l : Addr), H l = none → Q (.ref l) (upd H l (.lst ys))) (fun ds P => ∃ a es, ds = [a] ∧ itemsD a = some es ∧ P (.list es)) := by
  rintro bg M H xs ds P Q k hx ⟨a, es, rfl, e, p⟩ q
  cases hx with
  | cons h t =>
    cases t
    obtain ⟨t, vs, rfl, hs, ha⟩ := h.seq k e
    refine ⟨t, vs, rfl, hs, fun z nz => ?_⟩
    have s := Stp.new (bg := bg) k nz (.lst vs)
    exact q _ _ _ _ p s (.lst upd_same (duA_same s.sm _ _ ha))
theorem rc_repr : RCb K (rRepr K) (fun ds P => ∃ a, ds = [a] ∧ Shows a ∧ itemsD a ≠ none ∧ P (.str a.shown)) := by
  rintro bg M H xs ds P Q k hx ⟨a, rfl, sh, it, p⟩ q
  cases hx with
  | cons h t =>
    cases t
    refine ⟨_, a, rfl, h.dp k sh.2.1, sh, ?_, q _ _ M H p (.refl k) (.str _)⟩
    cases e : itemsD a with
    | none => exact absurd e it
    | some es =>
      obtain ⟨t, vs, rfl, _⟩ := h.seq k e
      exact ⟨t, rfl⟩
end GL

/-! the data layer: statements, walks, comprehensions, defs -/
namespace GL
open PySem PySem.Spec PyProof.Rows L2
structure Nd where
  nx : En → Prop
  rt : PyData → Prop
  bk : En → Prop := fun _ => False
  ct : En → Prop := fun _ => False
section
variable (K : PySem.W.Frag)
def RG (g : TG) (S : List Nat) (wg : PyData → En → (En → Prop) → Prop) : Prop := ∀ C M H σ ρ v d N Q, Ev K C M H σ ρ → Du K M v d → wg d ρ N →
  (∀ σ' ρ', N ρ' → Ev K C M H σ' ρ' → (∀ vs : List Nat, (∀ i ∈ S, i ∈ vs) → L2.wipe σ' vs = L2.wipe σ vs) → Q σ' H) → g v σ H Q
def RGs (g : TGs) (S : List Nat) (wg : List PyData → En → (En → Prop) → Prop) : Prop := ∀ C M H σ ρ v d N Q, Ev K C M H σ ρ → DuAll K M v d → wg d ρ N →
  (∀ σ' ρ', N ρ' → Ev K C M H σ' ρ' → (∀ vs : List Nat, (∀ i ∈ S, i ∈ vs) → L2.wipe σ' vs = L2.wipe σ vs) → Q σ' H) → g v σ H Q
def RS (t : TS) (w : Nd → En → Prop) : Prop := ∀ C M H σ ρ (N : Nd) (D : Ends), Ev K C M H σ ρ → w N ρ →
  (∀ ρ' M' H' σ', N.nx ρ' → Same M M' → Ev K C M' H' σ' ρ' → D.nx σ' H') → (∀ v d M' H', N.rt d → Stp C.bg C.M0 C.H0 M' H' → Du K M' v d → D.rt v H') →
  (∀ ρ' M' H' σ', N.bk ρ' → Same M M' → Ev K C M' H' σ' ρ' → D.bk σ' H') → (∀ ρ' M' H' σ', N.ct ρ' → Same M M' → Ev K C M' H' σ' ρ' → D.ct σ' H') → t D σ H
/-- what a walk gives -/
def Gives (M1 : Hp) (J : It) (ds : List PyData) : Prop := ∃ (G : Hp → Prop) (Y : Nat → Hp → V → Hp → Prop), Walk J ds.length G Y ∧ (∀ M' H', Same M1 M' → Same M' H' → G H') ∧
  ∀ i M' H' x H'', i < ds.length → Same M1 M' → Same M' H' → Y i H' x H'' → ∃ M'' d, (∀ bg, Stp bg M' H' M'' H'') ∧ ds[i]? = some d ∧ Du K M'' x d
def RI (t : L2.TI) (w : En → (List PyData → Prop) → Prop) : Prop := ∀ C M H σ ρ P R, Ev K C M H σ ρ → w ρ P → (∀ ds J M1 H1, P ds → Stp C.bg M H M1 H1 → Gives K M1 J ds → R J H1) → t σ H R
end
variable {K : PySem.W.Frag}
/-! ### forgetting, freezing -/
def Le (ρ ρ' : En) : Prop := ρ'.length = ρ.length ∧ ∀ (i : Nat) (x : DV), ρ'[i]? = some (some x) → ρ[i]? = some (some x) ∨ (∃ ds, ρ[i]? = some (some (.ow ds)) ∧ x = .im (.list ds)) ∨ ∃ kvs, ρ[i]? = some (some (.od kvs)) ∧ x = .im (dictD kvs)
theorem Le.rf (ρ : En) : Le ρ ρ := ⟨rfl, fun _ _ h => .inl h⟩
def Cl (F : En → Prop) (ρ : En) : Prop := ∃ ρ', Le ρ ρ' ∧ F ρ'
theorem Cl.here {F : En → Prop} {ρ : En} (h : F ρ) : Cl F ρ := ⟨ρ, .rf ρ, h⟩
theorem DuKs.kv {ks : List (Key × V)} {kvs : List (Str × PyData)} {M : Hp} (h : DuKs K M ks kvs) : (ks.map (·.1)).Nodup ∧ DuKv K M ks (kvs.map fun e => (.str e.1, e.2)) := by
  obtain ⟨h1, h2, h3⟩ := h
  constructor
  · rw [h1]
    have : (kvs.map fun e => (Sum.inr e.1 : Key)) = (kvs.map (·.1)).map Sum.inr := by rw [List.map_map]; rfl
    rw [this]
    exact List.Pairwise.map _ (fun a b n z => n (by cases z; rfl)) h3
  · clear h3
    induction kvs generalizing ks with
    | nil =>
      cases ks with
      | nil => exact .nil
      | cons a r => cases h1
    | cons e kvs ih =>
      cases ks with
      | nil => cases h1
      | cons a r =>
        obtain ⟨k, v⟩ := a
        rw [List.map_cons, List.map_cons] at h1 h2
        injection h1 with e1 e2
        cases h2 with
        | cons hd tl =>
          refine .cons ?_ hd (ih e2 tl)
          have e1 : k = .inr e.1 := e1
          rw [e1]
theorem du_dict {a : Addr} {ks : List (Key × V)} {kvs : List (Str × PyData)} {M : Hp} (h : M a = some (.dK ks)) (d : DuKs K M ks kvs) : Du K M (.ref a) (dictD kvs) := .dk h d.kv.1 d.kv.2
theorem Ev.le {C : Cb} {M H : Hp} {σ : L2.St} {ρ ρ' : En} (e : Ev K C M H σ ρ) (l : Le ρ ρ') : ∃ M', Same M M' ∧ Ev K C M' H σ ρ' := by
  classical
  let F : Addr → Prop := fun a => ∃ (i : Nat) (x : DV) (d : PyData), ρ[i]? = some (some x) ∧ isOwn x = true ∧ ρ'[i]? = some (some (.im d)) ∧ σ[i]? = some (some (.ref a))
  have own : ∀ {i : Nat} {x : DV} {a : Addr}, ρ[i]? = some (some x) → isOwn x = true → σ[i]? = some (some (.ref a)) → M a = none ∧ C.H0 a = none := by
    intro i x a h1 o1 h2
    obtain ⟨v, hv, s⟩ := e.sl i _ h1
    cases x with
    | ow ds =>
      obtain ⟨p, vs, rfl, hm, hp, h0, ha⟩ := s
      rw [h2] at hv
      cases hv
      exact ⟨hm, h0⟩
    | od kvs =>
      obtain ⟨p, vs, rfl, hm, hp, h0, ha⟩ := s
      rw [h2] at hv
      cases hv
      exact ⟨hm, h0⟩
    | im d => cases o1
    | bag => cases o1
    | ob _ _ => cases o1
  let M' : Hp := fun a => if F a then H a else M a
  have at1 : ∀ {a}, F a → M' a = H a := fun h => if_pos h
  have at2 : ∀ {a}, ¬ F a → M' a = M a := fun h => if_neg h
  have sm : Same M M' := fun a o h => by
    have : ¬ F a := by
      rintro ⟨i, x, d, h1, o1, _, h3⟩
      rw [(own h1 o1 h3).1] at h
      cases h
    rw [at2 this]
    exact h
  have keep : ∀ {i : Nat} {x : DV} {p : Addr}, ρ'[i]? = some (some x) → isOwn x = true → ρ[i]? = some (some x) → σ[i]? = some (some (.ref p)) → ¬ F p := fun {i x p} hx ox h hv => by
    rintro ⟨j, y, d, g1, o1, g2, g3⟩
    by_cases z : i = j
    · rw [← z, hx] at g2
      cases g2
      cases ox
    · exact e.apart i j _ _ p z h ox g1 o1 hv g3
  refine ⟨M', sm, ⟨l.1.trans e.len, fun a o h => ?_, fun b c hb => ?_, e.bg0, e.fr, e.sm.trans sm, fun a h1 h2 => ?_, e.live, fun i x hx => ?_, fun i j x y p n h1 o1 h2 o2 h3 => ?_⟩⟩
  · by_cases z : F a
    · rwa [at1 z] at h
    · rw [at2 z] at h
      exact e.vis _ _ h
  · obtain ⟨h1, h2⟩ := e.bag b c hb
    refine ⟨h1, ?_⟩
    have : ¬ F b := by
      rintro ⟨i, x, d, g1, o1, _, g3⟩
      exact (e.bg0 b c hb).1 (own g1 o1 g3).2
    rw [at2 this]
    exact h2
  · have : ¬ F a := by
      rintro ⟨i, x, d, g1, o1, _, g3⟩
      exact h2 (own g1 o1 g3).2
    rw [at2 this]
    exact e.hid a h1 h2
  · rcases l.2 i x hx with h | ⟨ds, h, rfl⟩ | ⟨kvs, h, rfl⟩
    · obtain ⟨v, hv, s⟩ := e.sl i x h
      refine ⟨v, hv, ?_⟩
      cases x with
      | im d => exact du_same sm _ _ s
      | bag => exact s
      | ob _ mono =>
        obtain ⟨b, e2, h2⟩ := s
        exact ⟨b, e2, mono _ _ b sm h2⟩
      | ow ds =>
        obtain ⟨p, vs, rfl, hm, hp, h0, ha⟩ := s
        exact ⟨p, vs, rfl, by rw [at2 (keep hx rfl h hv)]; exact hm, hp, h0, duA_same sm _ _ ha⟩
      | od kvs =>
        obtain ⟨p, vs, rfl, hm, hp, h0, ha⟩ := s
        exact ⟨p, vs, rfl, by rw [at2 (keep hx rfl h hv)]; exact hm, hp, h0, ha.same sm⟩
    · obtain ⟨v, hv, p, vs, rfl, hm, hp, h0, ha⟩ := e.sl i _ h
      refine ⟨_, hv, .lst (xs := vs) ?_ (duA_same sm _ _ ha)⟩
      rw [at1 ⟨i, _, _, h, rfl, hx, hv⟩]
      exact hp
    · obtain ⟨v, hv, p, vs, rfl, hm, hp, h0, ha⟩ := e.sl i _ h
      refine ⟨_, hv, du_dict (ks := vs) ?_ (ha.same sm)⟩
      rw [at1 ⟨i, _, _, h, rfl, hx, hv⟩]
      exact hp
  · have back : ∀ {k : Nat} {z : DV}, ρ'[k]? = some (some z) → isOwn z = true → ρ[k]? = some (some z) := fun h o => by
      rcases l.2 _ _ h with g | ⟨_, _, rfl⟩ | ⟨_, _, rfl⟩
      · exact g
      · cases o
      · cases o
    exact e.apart i j x y p n (back h1 o1) o1 (back h2 o2) o2 h3
/-! ### lists of one's own -/
section
variable {C : Cb} {M M' H H' : Hp} {σ : L2.St} {ρ : En}
theorem get_set {α : Type} {l : List (Option α)} {i j : Nat} {x : α} {y : α} (h : (l.set i (some x))[j]? = some (some y)) : (i = j ∧ x = y ∧ i < l.length) ∨ (i ≠ j ∧ l[j]? = some (some y)) := by
  by_cases z : i = j
  · subst z
    rw [List.getElem?_set, if_pos rfl] at h
    split at h
    · cases h
      exact .inl ⟨rfl, rfl, by assumption⟩
    · cases h
  · rw [List.getElem?_set_ne z] at h
    exact .inr ⟨z, h⟩
theorem Ev.off (e : Ev K C M H σ ρ) {p : Addr} (np : H p = none) : C.H0 p = none := by
  cases z : C.H0 p with
  | none => rfl
  | some o => exact absurd np (e.live p (by rw [z]; exact fun z => nomatch z))
theorem Sl.at_ {v : V} {x : DV} (o : isOwn x = true) (h : Sl K C M H v x) : ∃ p, v = .ref p ∧ H p ≠ none := by
  cases x with
  | ow ds =>
    obtain ⟨p, vs, rfl, hm, hp, _⟩ := h
    exact ⟨p, rfl, by rw [hp]; exact fun z => nomatch z⟩
  | od ds =>
    obtain ⟨p, vs, rfl, hm, hp, _⟩ := h
    exact ⟨p, rfl, by rw [hp]; exact fun z => nomatch z⟩
  | im d => cases o
  | bag => cases o
  | ob _ _ => cases o
theorem Ev.ownG (e : Ev K C M H σ ρ) {p : Addr} {x : DV} (np : H p = none) (s : Stp C.bg M H M' H') (hx0 : Sl K C M' H' (.ref p) x) (i : Nat) :
    Ev K C M' H' (σ.set i (some (.ref p))) (ρ.set i (some x)) := by
  have e' := e.step s
  have other : ∀ {k : Nat} {y : DV}, ρ[k]? = some (some y) → isOwn y = true → σ[k]? ≠ some (some (.ref p)) := fun {k y} h1 o1 h2 => by
    obtain ⟨v, hv, sl⟩ := e.sl k _ h1
    obtain ⟨q, rfl, hq⟩ := sl.at_ o1
    rw [h2] at hv
    cases hv
    exact hq np
  refine ⟨by rw [List.length_set, List.length_set, e.len], e'.vis, e'.bag, e'.bg0, e'.fr, e'.sm, e'.hid, e'.live, fun j y hy => ?_, fun j k a b q n h1 o1 h2 o2 h3 h4 => ?_⟩
  · rcases get_set hy with ⟨rfl, rfl, l⟩ | ⟨n, h⟩
    · refine ⟨.ref p, ?_, hx0⟩
      rw [List.getElem?_set, if_pos rfl, if_pos (by rw [← e.len]; exact l)]
    · rw [List.getElem?_set_ne n]
      exact e'.sl j y h
  · rcases get_set h1 with ⟨rfl, _, l⟩ | ⟨n1, g1⟩
    · rcases get_set h2 with ⟨z, _⟩ | ⟨n2, g2⟩
      · exact n z
      · rw [List.getElem?_set_ne n2] at h4
        rw [List.getElem?_set, if_pos rfl, if_pos (by rw [← e.len]; exact l)] at h3
        cases h3
        exact other g2 o2 h4
    · rw [List.getElem?_set_ne n1] at h3
      rcases get_set h2 with ⟨rfl, _, l⟩ | ⟨n2, g2⟩
      · rw [List.getElem?_set, if_pos rfl, if_pos (by rw [← e.len]; exact l)] at h4
        cases h4
        exact other g1 o1 h3
      · rw [List.getElem?_set_ne n2] at h4
        exact e.apart j k _ _ q n g1 o1 g2 o2 h3 h4
theorem Ev.own (e : Ev K C M H σ ρ) {p : Addr} {vs : List V} {ds : List PyData} (np : H p = none) (s : Stp C.bg M H M' H') (hp : H' p = some (.lst vs)) (hm : M' p = none) (ha : DuAll K M' vs ds) (i : Nat) :
    Ev K C M' H' (σ.set i (some (.ref p))) (ρ.set i (some (.ow ds))) := e.ownG (x := .ow ds) np s ⟨p, vs, rfl, hm, hp, e.off np, ha⟩ i
theorem Ev.pokeG (e : Ev K C M H σ ρ) {i : Nat} {p : Addr} {x y : DV} {o : HO} (hi : ρ[i]? = some (some x)) (ox : isOwn x = true) (oy : isOwn y = true) (hs : σ[i]? = some (some (.ref p))) (hy : M p = none → C.H0 p = none → Sl K C M (upd H p o) (.ref p) y) :
    Ev K C M (upd H p o) σ (ρ.set i (some y)) := by
  obtain ⟨hm, h0⟩ : M p = none ∧ C.H0 p = none := by
    obtain ⟨v, hv, sl⟩ := e.sl i _ hi
    rw [hs] at hv
    cases hv
    cases x with
    | ow ds =>
      obtain ⟨q, ws, e1, hm, hq, h0, _⟩ := sl
      cases e1
      exact ⟨hm, h0⟩
    | od ds =>
      obtain ⟨q, ws, e1, hm, hq, h0, _⟩ := sl
      cases e1
      exact ⟨hm, h0⟩
    | im d => cases ox
    | bag => cases ox
    | ob _ _ => cases ox
  have nm : ∀ a o, M a = some o → a ≠ p := fun a o h z => by rw [z, hm] at h; cases h
  have n0 : ∀ a, C.H0 a ≠ none → a ≠ p := fun a h z => h (by rw [z]; exact h0)
  refine ⟨by rw [List.length_set]; exact e.len, fun a o h => ?_, fun b c hb => ?_, e.bg0, fun a o n h => ?_, e.sm, e.hid, fun a h => ?_, fun j z hz => ?_, fun j k a b r n h1 o1 h2 o2 h3 => ?_⟩
  · rw [upd_ne (nm a o h)]
    exact e.vis _ _ h
  · obtain ⟨h1, h2⟩ := e.bag b c hb
    obtain ⟨g1, g2⟩ := e.bg0 b c hb
    exact ⟨h1.other (n0 b g1).symm (n0 c g2).symm, h2⟩
  · rw [upd_ne (n0 a (by rw [h]; exact fun z => nomatch z))]
    exact e.fr a o n h
  · rw [upd_ne (n0 a h)]
    exact e.live a h
  · rcases get_set hz with ⟨rfl, rfl, l⟩ | ⟨n, h⟩
    · exact ⟨_, hs, hy hm h0⟩
    · obtain ⟨v, hv, s⟩ := e.sl j z h
      refine ⟨v, hv, ?_⟩
      cases z with
      | im d => exact s
      | bag => exact s
      | ob _ _ => exact s
      | ow zs =>
        obtain ⟨a, us, rfl, g1, g2, g3, g4⟩ := s
        exact ⟨a, us, rfl, g1, by rw [upd_ne (fun z => e.apart i j _ _ p n hi ox h rfl hs (by rw [hv, z]))]; exact g2, g3, g4⟩
      | od zs =>
        obtain ⟨a, us, rfl, g1, g2, g3, g4⟩ := s
        exact ⟨a, us, rfl, g1, by rw [upd_ne (fun z => e.apart i j _ _ p n hi ox h rfl hs (by rw [hv, z]))]; exact g2, g3, g4⟩
  · have back : ∀ {k : Nat} {z : DV}, (ρ.set i (some y))[k]? = some (some z) → isOwn z = true → ∃ z, isOwn z = true ∧ ρ[k]? = some (some z) := fun h oz => by
      rcases get_set h with ⟨rfl, _⟩ | ⟨_, g⟩
      · exact ⟨_, ox, hi⟩
      · exact ⟨_, oz, g⟩
    obtain ⟨_, o3, g1⟩ := back h1 o1
    obtain ⟨_, o4, g2⟩ := back h2 o2
    exact e.apart j k _ _ r n g1 o3 g2 o4 h3
theorem Ev.poke (e : Ev K C M H σ ρ) {i : Nat} {p : Addr} {vs : List V} {ds es : List PyData} (hi : ρ[i]? = some (some (.ow ds))) (hs : σ[i]? = some (some (.ref p))) (ha : DuAll K M vs es) :
    Ev K C M (upd H p (.lst vs)) σ (ρ.set i (some (.ow es))) := e.pokeG (x := .ow ds) (y := .ow es) hi rfl rfl hs fun hm h0 => ⟨p, vs, rfl, hm, upd_same, h0, ha⟩
end
/-! ### targets -/
theorem wipe_get (σ : L2.St) : ∀ (vs : List Nat) (j : Nat), (L2.wipe σ vs)[j]? = if j ∈ vs then (σ[j]?).map (fun _ => none) else σ[j]?
  | [], j => by simp [L2.wipe]
  | v :: vs, j => by
    have ih := wipe_get σ vs j
    have hl := L2.wipe_length σ vs
    unfold L2.wipe
    rw [List.getElem?_set, hl]
    by_cases z : v = j
    · subst z
      rw [if_pos rfl, if_pos (List.mem_cons_self)]
      by_cases l : v < σ.length
      · rw [if_pos l, List.getElem?_eq_getElem l]
        rfl
      · rw [if_neg l, List.getElem?_eq_none (Nat.le_of_not_lt l)]
        rfl
    · rw [if_neg z, ih]
      have : (j ∈ v :: vs) = (j ∈ vs) := by
        rw [List.mem_cons]
        exact propext ⟨fun h => h.resolve_left (fun e => z e.symm), .inr⟩
      simp only [this]
theorem wipe_set (σ : L2.St) {vs : List Nat} {i : Nat} (x : Option V) (h : i ∈ vs) : L2.wipe (σ.set i x) vs = L2.wipe σ vs := by
  refine List.ext_getElem? fun j => ?_
  rw [wipe_get, wipe_get]
  by_cases z : i = j
  · subst z
    rw [if_pos h, if_pos h, List.getElem?_set, if_pos rfl]
    by_cases l : i < σ.length
    · rw [if_pos l, List.getElem?_eq_getElem l]
      rfl
    · rw [if_neg l, List.getElem?_eq_none (Nat.le_of_not_lt l)]
  · rw [List.getElem?_set_ne z]
theorem wipe_wipe (σ : L2.St) (vs : List Nat) : L2.wipe (L2.wipe σ vs) vs = L2.wipe σ vs := by
  refine List.ext_getElem? fun j => ?_
  rw [wipe_get, wipe_get]
  by_cases h : j ∈ vs
  · rw [if_pos h, if_pos h]
    cases σ[j]? <;> rfl
  · rw [if_neg h, if_neg h]
theorem rg_name (i : Nat) : RG K (gName i) [i] (fun d ρ N => N (ρ.set i (some (.im d)))) := fun C M H σ ρ v d N Q e hd p q =>
  q _ _ p (e.set hd i) fun vs hv => wipe_set σ _ (hv i (by simp))
theorem rg_nil : RGs K gNil [] (fun ds ρ N => ds = [] ∧ N ρ) := by
  rintro C M H σ ρ v d N Q e hd ⟨rfl, p⟩ q
  cases hd
  exact ⟨rfl, q σ ρ p e fun _ _ => rfl⟩
theorem rg_cons {g : TG} {gs : TGs} {S T : List Nat} {wg : PyData → En → (En → Prop) → Prop} {ws : List PyData → En → (En → Prop) → Prop} (h : RG K g S wg) (t : RGs K gs T ws) :
    RGs K (gCons g gs) (S ++ T) (fun ds ρ N => ∃ d r, ds = d :: r ∧ wg d ρ fun ρ' => ws r ρ' N) := by
  rintro C M H σ ρ v ds N Q e hd ⟨d, r, rfl, p⟩ q
  cases hd with
  | cons hd ht =>
    refine ⟨_, _, rfl, h C M H σ ρ _ d _ _ e hd p fun σ' ρ' p' e' w' => ?_⟩
    exact t C M H σ' ρ' _ r N Q e' ht p' fun σ2 ρ2 p2 e2 w2 => q σ2 ρ2 p2 e2 fun vs hv => by
      rw [w2 vs fun i hi => hv i (List.mem_append_right _ hi), w' vs fun i hi => hv i (List.mem_append_left _ hi)]
theorem rg_tup {gs : TGs} {T : List Nat} {ws : List PyData → En → (En → Prop) → Prop} (n : Nat) (t : RGs K gs T ws) : RG K (gTup K n gs) T (fun d ρ N => ∃ ds, d = .tuple ds ∧ ds.length = n ∧ ws ds ρ N) := by
  rintro C M H σ ρ v d N Q e hd ⟨ds, rfl, l, p⟩ q
  cases hd with
  | tup hs ha _ => exact ⟨_, _, rfl, TupK.same e.vis _ _ _ hs, by rw [ha.length]; exact l, t C M H σ ρ _ ds N Q e ha p q⟩
/-! ### walks -/
section
variable {te : TE} {we : W} {ta : TA} {wa : En → (List PyData → Prop) → Prop}
theorem gives_list {M1 : Hp} {a : Addr} {vs : List V} {ds : List PyData} (h : M1 a = some (.lst vs)) (ha : DuAll K M1 vs ds) : Gives K M1 (Itl K a) ds := by
  refine ⟨fun H => SqL K H a vs, YAt vs, by rw [← ha.length]; exact walk_list, fun M' H' k1 k2 => SqL.of (k2 _ _ (k1 _ _ h)), ?_⟩
  rintro i M' H' x H'' _ k1 k2 ⟨rfl, hx⟩
  obtain ⟨d, hd, hu⟩ := ha.get' hx
  exact ⟨M', d, fun _ => .refl k2, hd, du_same k1 _ _ hu⟩
theorem ri_list (ha : RE K te we) : RI K (iList K te) (fun ρ P => we ρ fun d => ∃ ds, d = .list ds ∧ P ds) := by
  intro C M H σ ρ P R e hw q
  refine ha C M H σ ρ _ _ e hw ?_
  rintro v d M1 H1 ⟨ds, rfl, p⟩ s hd
  cases hd with
  | lst hs ha => exact ⟨_, rfl, ⟨_, SqL.of (s.vis _ _ hs)⟩, q ds _ M1 H1 p s (gives_list hs ha)⟩
theorem gives_tup {M1 : Hp} {a : Addr} {vs : List V} {ds : List PyData} (h : SqT K M1 a vs) (ha : DuAll K M1 vs ds) : Gives K M1 (Itt K a) ds := by
  refine ⟨fun H => SqT K H a vs, YAt vs, by rw [← ha.length]; exact walk_tup, fun M' H' k1 k2 => TupK.same k2 _ _ _ (TupK.same k1 _ _ _ h), ?_⟩
  rintro i M' H' x H'' _ k1 k2 ⟨rfl, hx⟩
  obtain ⟨d, hd, hu⟩ := ha.get' hx
  exact ⟨M', d, fun _ => .refl k2, hd, du_same k1 _ _ hu⟩
theorem ri_tup (ha : RE K te we) : RI K (iTup K te) (fun ρ P => we ρ fun d => ∃ ds, d = .tuple ds ∧ P ds) := by
  intro C M H σ ρ P R e hw q
  refine ha C M H σ ρ _ _ e hw ?_
  rintro v d M1 H1 ⟨ds, rfl, p⟩ s hd
  cases hd with
  | tup hs ha _ => exact ⟨_, rfl, ⟨_, TupK.same s.vis _ _ _ hs⟩, q ds _ M1 H1 p s (gives_tup hs ha)⟩
def rangeD (lo : Int) (n : Nat) : List PyData := (List.range n).map fun (i : Nat) => .int (lo + i)
theorem rangeD_len (lo : Int) (n : Nat) : (rangeD lo n).length = n := by unfold rangeD; rw [List.length_map, List.length_range]
theorem rangeD_get {lo : Int} {n i : Nat} (h : i < n) : (rangeD lo n)[i]? = some (.int (lo + i)) := by
  unfold rangeD
  rw [List.getElem?_map, List.getElem?_range h]
  rfl
theorem gives_range {M1 : Hp} {lo : Int} {n : Nat} : Gives K M1 (Itr lo n) (rangeD lo n) := by
  refine ⟨fun _ => True, YFn fun i => .int (lo + i), by rw [rangeD_len]; exact walk_range, fun _ _ _ _ => trivial, ?_⟩
  rintro i M' H' x H'' hi k1 k2 ⟨rfl, rfl⟩
  rw [rangeD_len] at hi
  exact ⟨M', _, fun _ => .refl k2, rangeD_get hi, .int _⟩
theorem ri_rng1 (ha : RX K ta wa) : RI K (iRng1 ta) (fun ρ P => wa ρ fun ds => ∃ j, ds = [.int j] ∧ -(2 ^ 62) ≤ j ∧ j < 2 ^ 62 ∧ P (rangeD 0 j.toNat)) := by
  intro C M H σ ρ P R e hw q
  refine ha C M H σ ρ _ _ e hw ?_
  rintro vs ds M1 H1 ⟨j, rfl, h1, h2, p⟩ s hd
  cases hd with
  | cons h t =>
    cases t
    cases h.int
    exact ⟨j, rfl, h1, h2, q _ _ M1 H1 p s gives_range⟩
theorem ri_rng2 (ha : RX K ta wa) : RI K (iRng2 ta) (fun ρ P => wa ρ fun ds => ∃ i j, ds = [.int i, .int j] ∧ (-(2 ^ 62) ≤ i ∧ i < 2 ^ 62 ∧ -(2 ^ 62) ≤ j ∧ j < 2 ^ 62) ∧ P (rangeD i (j - i).toNat)) := by
  intro C M H σ ρ P R e hw q
  refine ha C M H σ ρ _ _ e hw ?_
  rintro vs ds M1 H1 ⟨i, j, rfl, h1, p⟩ s hd
  cases hd with
  | cons h t =>
    cases t with
    | cons h2 t =>
      cases t
      cases h.int
      cases h2.int
      exact ⟨i, j, rfl, h1, q _ _ M1 H1 p s gives_range⟩
def enumD (ds : List PyData) : List PyData := ds.mapIdx fun i d => .tuple [.int (i : Nat), d]
theorem enumD_get {ds : List PyData} {i : Nat} {d : PyData} (h : ds[i]? = some d) : (enumD ds)[i]? = some (.tuple [.int (i : Nat), d]) := by
  unfold enumD
  rw [List.getElem?_mapIdx, h]
  rfl
theorem enumD_len (ds : List PyData) : (enumD ds).length = ds.length := by unfold enumD; rw [List.length_mapIdx]
/-- a pair, new -/
theorem pair_new {M' H' : Hp} (k : Same M' H') {p : Addr} (np : H' p = none) {v u : V} {d e : PyData} (h : Du K M' v d) (g : Du K M' u e) (no : ixT [d, e] = false) :
    ∃ M'', (∀ bg, Stp bg M' H' M'' (upd H' p (.tup [v, u]))) ∧ Du K M'' (.ref p) (.tuple [d, e]) := by
  have s : ∀ bg, Stp bg M' H' (upd M' p (.tup [v, u])) (upd H' p (.tup [v, u])) := fun bg => Stp.new k np _
  exact ⟨_, s, .tup (SqT.of upd_same) (.cons (du_same (s none).sm _ _ h) (.cons (du_same (s none).sm _ _ g) .nil)) fun z => by rw [no] at z; cases z⟩
theorem ri_enumT (ha : RX K ta wa) : RI K (iEnumT K ta) (fun ρ P => wa ρ fun ds => ∃ es, ds = [.tuple es] ∧ P (enumD es)) := by
  intro C M H σ ρ P R e hw q
  refine ha C M H σ ρ _ _ e hw ?_
  rintro vs ds M1 H1 ⟨es, rfl, p⟩ s hd
  cases hd with
  | cons h t =>
    cases t
    rcases h with h | ⟨_, _, _, _, z, _⟩
    · cases h with
      | @tup a xs _ hs ha _ =>
        refine ⟨a, xs, rfl, TupK.same s.vis _ _ _ hs, q _ _ M1 H1 p s ⟨fun H => SqT K H a xs, _, by rw [enumD_len, ← ha.length]; exact walk_enumT, fun M' H' k1 k2 => TupK.same k2 _ _ _ (TupK.same k1 _ _ _ hs), ?_⟩⟩
        rintro i M' H' x H'' _ k1 k2 ⟨T, v, u, rfl, hT, rfl, hv, hu⟩
        cases hv
        obtain ⟨d, hd, hu'⟩ := ha.get' hu
        obtain ⟨M'', s', hp⟩ := pair_new (K := K) k2 hT (.int (i : Nat)) (du_same k1 _ _ hu') rfl
        exact ⟨M'', _, s', enumD_get hd, hp⟩
    · cases z
theorem ri_enum (ha : RD K ta wa) : RI K (iEnum K ta) (fun ρ P => wa ρ fun ds => ∃ es, ds = [.list es] ∧ P (enumD es)) := by
  intro C M H σ ρ P R e hw q
  refine ha C M H σ ρ _ _ e hw ?_
  rintro vs ds M1 H1 ⟨es, rfl, p⟩ s hd
  cases hd with
  | cons h t =>
    cases t
    cases h with
    | @lst a xs _ hs ha =>
      refine ⟨a, xs, rfl, SqL.of (s.vis _ _ hs), q _ _ M1 H1 p s ⟨fun H => SqL K H a xs, _, by rw [enumD_len, ← ha.length]; exact walk_enum, fun M' H' k1 k2 => SqL.of (k2 _ _ (k1 _ _ hs)), ?_⟩⟩
      rintro i M' H' x H'' _ k1 k2 ⟨T, v, u, rfl, hT, rfl, hv, hu⟩
      cases hv
      obtain ⟨d, hd, hu'⟩ := ha.get' hu
      obtain ⟨M'', s', hp⟩ := pair_new (K := K) k2 hT (.int (i : Nat)) (du_same k1 _ _ hu') rfl
      exact ⟨M'', _, s', enumD_get hd, hp⟩
def zipD (as bs : List PyData) : List PyData := List.zipWith (fun a b => .tuple [a, b]) as bs
theorem ri_zip (ha : RD K ta wa) : RI K (iZip K ta) (fun ρ P => wa ρ fun ds => ∃ es fs, ds = [.list es, .list fs] ∧ (∀ (i : Nat) (a b : PyData), es[i]? = some a → fs[i]? = some b → ixT [a, b] = false) ∧ P (zipD es fs)) := by
  intro C M H σ ρ P R e hw q
  refine ha C M H σ ρ _ _ e hw ?_
  rintro vs ds M1 H1 ⟨es, fs, rfl, no, p⟩ s hd
  cases hd with
  | cons h t =>
    cases t with
    | cons h2 t =>
      cases t
      cases h with
      | @lst a xs _ hs ha =>
        cases h2 with
        | @lst b ys _ gs ga =>
          refine ⟨a, b, xs, ys, rfl, SqL.of (s.vis _ _ hs), SqL.of (s.vis _ _ gs), q _ _ M1 H1 p s ⟨fun H => SqL K H a xs ∧ SqL K H b ys, _, walk_zip (by unfold zipD; rw [List.length_zipWith, ha.length, ga.length]), fun M' H' k1 k2 => ⟨SqL.of (k2 _ _ (k1 _ _ hs)), SqL.of (k2 _ _ (k1 _ _ gs))⟩, ?_⟩⟩
          rintro i M' H' x H'' _ k1 k2 ⟨T, v, u, rfl, hT, rfl, hv, hu⟩
          obtain ⟨d, hd, hv'⟩ := ha.get' hv
          obtain ⟨d2, hd2, hu'⟩ := ga.get' hu
          obtain ⟨M'', s', hp⟩ := pair_new (K := K) k2 hT (du_same k1 _ _ hv') (du_same k1 _ _ hu') (no i d d2 hd hd2)
          refine ⟨M'', _, s', ?_, hp⟩
          unfold zipD
          rw [List.getElem?_zipWith, hd, hd2]
end
/-! ### comprehensions -/
section
variable {wi : L2.TI} {g : TG} {tt : TT} {te : TE} {vs : List Nat} {S : List Nat} {wwi : En → (List PyData → Prop) → Prop} {wg : PyData → En → (En → Prop) → Prop} {wt : En → (Bool → Prop) → Prop} {we : W}
theorem rt_yes : RT K tYes (fun _ P => P true) := fun C M H σ ρ P Q e p q => q true M H p (.refl e.vis)
def wLc (wwi : En → (List PyData → Prop) → Prop) (wg : PyData → En → (En → Prop) → Prop) (wt : En → (Bool → Prop) → Prop) (we : W) (vs : List Nat) (ρ : En) (P : List PyData → Prop) : Prop :=
  wwi ρ fun ds => ds.length ≤ 1000 ∧ ∃ I : Nat → List PyData → Prop, I 0 [] ∧
    (∀ i d acc, ds[i]? = some d → I i acc → wg d (wipeD ρ vs) fun ρ' => wt ρ' fun b => if b = true then we ρ' fun y => I (i + 1) (acc ++ [y]) else I (i + 1) acc) ∧ ∀ acc, I ds.length acc → P acc
theorem Stp.poke {bg : Bg} {M1 H1 M H : Hp} (s : Stp bg M1 H1 M H) (g : BagOk bg M1 H1) {D : Addr} (h : H1 D = none) (m : M D = none) (o : HO) : Stp bg M1 H1 M (upd H D o) := by
  refine ⟨s.sm, fun q u e => ?_, fun q u n e => ?_, s.hid, fun g b c e => ?_, fun q n => ?_⟩
  · rw [upd_ne (fun z => by rw [z, m] at e; cases e)]
    exact s.vis _ _ e
  · rw [upd_ne (ne_of_none e h)]
    exact s.fr q u n e
  · obtain ⟨h1, h2⟩ := s.bag g b c e
    obtain ⟨g1, _⟩ := g b c e
    obtain ⟨_, e1⟩ := g1.lst
    obtain ⟨_, _, e2⟩ := g1.cell
    exact ⟨h1.other (ne_of_none e1 h).symm (ne_of_none e2 h).symm, h2⟩
  · by_cases z : q = D
    · rw [z, upd_same]
      exact fun z => nomatch z
    · rw [upd_ne z]
      exact s.live q n
theorem Stp.reveal {bg : Bg} {M1 H1 M H : Hp} (k1 : Same M1 H1) (s : Stp bg M1 H1 M H) {D : Addr} (h : H1 D = none) (m : M D = none) {o : HO} (ho : H D = some o) : Stp bg M1 H1 (upd M D o) H := by
  refine ⟨fun q u e => ?_, fun q u e => ?_, s.fr, fun q e n => ?_, fun g b c e => ?_, s.live⟩
  · rw [upd_ne (ne_of_none (k1 _ _ e) h)]
    exact s.sm _ _ e
  · by_cases z : q = D
    · rw [z, upd_same] at e
      cases e
      rw [z]
      exact ho
    · rw [upd_ne z] at e
      exact s.vis _ _ e
  · have : q ≠ D := fun z => n (by rw [z]; exact h)
    rw [upd_ne this]
    exact s.hid q e n
  · obtain ⟨h1, h2⟩ := s.bag g b c e
    obtain ⟨g1, _⟩ := g b c e
    obtain ⟨_, e1⟩ := g1.lst
    exact ⟨h1, by rw [upd_ne (ne_of_none e1 h)]; exact h2⟩
theorem lc_core' (hi : RI K wi wwi) (hg : RG K g S wg) (hS : ∀ i ∈ S, i ∈ vs) (ht : RT K tt wt) (he : RE K te we) {C : Cb} {M H : Hp} {σ : L2.St} {ρ : En} {P : List PyData → Prop} {Q : VK} (e : Ev K C M H σ ρ) (hw : wLc wwi wg wt we vs ρ P)
    (q : ∀ (D : Addr) xs ds M' H', P ds → Stp C.bg M H M' H' → H D = none → M' D = none → H' D = some (.lst xs) → DuAll K M' xs ds → Q (.ref D) H') : tLc wi g tt te vs σ H Q := by
  refine hi C M H σ ρ _ _ e hw ?_
  rintro ds J M1 H1 ⟨hl, I, I0, IS, IE⟩ s1 ⟨G, Y, wk, hG, hY⟩ D nD
  have e1 := e.step s1
  have nM : M1 D = none := none_of_vis s1.vis nD
  refine lc_it wk (fun i Hx => ∃ Mx xs acc, I i acc ∧ acc.length ≤ i ∧ Stp C.bg M1 H1 Mx Hx ∧ Mx D = none ∧ Hx D = some (.lst xs) ∧ DuAll K Mx xs acc) ?_ ?_ ?_ ?_
  · exact ⟨M1, [], [], I0, Nat.le_refl _, Stp.hidden s1.vis nD _, nM, upd_same, .nil⟩
  · rintro i Hx _ ⟨Mx, xs, acc, _, _, sx, _⟩
    exact hG Mx Hx sx.sm sx.vis
  · rintro i x Hx Hy hi' ⟨Mx, xs, acc, ia, la, sx, mD, hD, ha⟩ y
    obtain ⟨My, d, sy, hd, hu⟩ := hY i Mx Hx x Hy hi' sx.sm sx.vis y
    have s2 := sx.trans (sy C.bg)
    have mD2 : My D = none := (sy C.bg).hid D mD (by rw [hD]; exact fun z => nomatch z)
    have nb : ∀ c, C.bg ≠ some (D, c) := fun c z => by
      obtain ⟨g1, _⟩ := e1.bag D c z
      obtain ⟨_, e2⟩ := g1.lst
      rw [nD] at e2
      cases e2
    have hD2 := (sy C.bg).fr D _ nb hD
    have ha2 := duA_same (sy C.bg).sm _ _ ha
    have e2 := (e1.step s2).wipe vs
    refine hg C My Hy _ _ x d _ _ e2 hu (IS i d acc hd ia) fun σ' ρ' p' e' w' => ⟨?_, ?_⟩
    · rw [w' vs hS, wipe_wipe]
    · refine ht C My Hy σ' ρ' _ _ e' p' fun b M3 H3 p3 s3 => ?_
      have s13 := s2.trans s3
      have mD3 := s3.hid D mD2 (by rw [hD2]; exact fun z => nomatch z)
      have hD3 := s3.fr D _ nb hD2
      have ha3 := duA_same s3.sm _ _ ha2
      cases b with
      | false => exact ⟨M3, xs, acc, p3, by omega, s13, mD3, hD3, ha3⟩
      | true =>
        refine he C M3 H3 σ' ρ' _ _ (e'.step s3) p3 fun y d4 M4 H4 p4 s4 hd4 => ?_
        have mD4 := s4.hid D mD3 (by rw [hD3]; exact fun z => nomatch z)
        have hD4 := s4.fr D _ nb hD3
        have ha4 := duA_same s4.sm _ _ ha3
        refine ⟨xs, hD4, small1000 (by rw [ha4.length]; omega), M4, xs ++ [y], acc ++ [d4], p4, by rw [List.length_append, List.length_singleton]; omega, Stp.poke (s13.trans s4) e1.bag nD mD4 _, mD4, upd_same, ha4.append (.cons hd4 .nil)⟩
  · rintro Hx ⟨Mx, xs, acc, ia, la, sx, mD, hD, ha⟩
    have nDH : H D = none := by
      cases z : H D with
      | none => rfl
      | some o => exact absurd nD (s1.live D (by rw [z]; exact fun z => nomatch z))
    exact q D xs acc Mx Hx (IE acc ia) (s1.trans sx) nDH mD hD ha
theorem re_lc (hi : RI K wi wwi) (hg : RG K g S wg) (hS : ∀ i ∈ S, i ∈ vs) (ht : RT K tt wt) (he : RE K te we) : RE K (tLc wi g tt te vs) (fun ρ P => wLc wwi wg wt we vs ρ fun ds => P (.list ds)) := by
  intro C M H σ ρ P Q e hw q
  refine lc_core' hi hg hS ht he e hw fun D xs ds M' H' p s nD mD hD ha => ?_
  have s' := Stp.reveal e.vis s nD mD hD
  refine q _ _ _ _ p s' (.lst upd_same (duA_same (fun a o h => ?_) _ _ ha))
  rw [upd_ne (fun z => by rw [z, mD] at h; cases h)]
  exact h
end
/-! ### statements -/
section
variable {t u : TS} {wt wu : Nd → En → Prop} {te : TE} {we : W} {ta : TA} {wa : En → (List PyData → Prop) → Prop} {tc : TT} {wc : En → (Bool → Prop) → Prop}
theorem rs_seq (h : RS K t wt) (g : RS K u wu) : RS K (tSeq t u) (fun N ρ => wt { N with nx := wu N } ρ) := by
  intro C M H σ ρ N D e hw q1 q2 q3 q4
  refine h C M H σ ρ _ _ e hw (fun ρ' M' H' σ' p k e' => ?_) q2 q3 q4
  exact g C M' H' σ' ρ' N D e' p (fun ρ2 M2 H2 σ2 p2 k2 e2 => q1 ρ2 M2 H2 σ2 p2 (k.trans k2) e2) q2 (fun ρ2 M2 H2 σ2 p2 k2 e2 => q3 ρ2 M2 H2 σ2 p2 (k.trans k2) e2) (fun ρ2 M2 H2 σ2 p2 k2 e2 => q4 ρ2 M2 H2 σ2 p2 (k.trans k2) e2)
/-- with something forgotten or frozen between -/
theorem rs_weak (h : RS K t wt) : RS K t (fun N ρ => Cl (wt N) ρ) := by
  rintro C M H σ ρ N D e ⟨ρ', l, hw⟩ q1 q2 q3 q4
  obtain ⟨M', k, e'⟩ := e.le l
  exact h C M' H σ ρ' N D e' hw (fun ρ2 M2 H2 σ2 p2 k2 e2 => q1 ρ2 M2 H2 σ2 p2 (k.trans k2) e2) q2 (fun ρ2 M2 H2 σ2 p2 k2 e2 => q3 ρ2 M2 H2 σ2 p2 (k.trans k2) e2) (fun ρ2 M2 H2 σ2 p2 k2 e2 => q4 ρ2 M2 H2 σ2 p2 (k.trans k2) e2)
theorem rs_asg {g : TG} {S : List Nat} {wg : PyData → En → (En → Prop) → Prop} (h : RE K te we) (hg : RG K g S wg) : RS K (tAsg te g) (fun N ρ => we ρ fun d => wg d ρ N.nx) := by
  intro C M H σ ρ N D e hw q1 q2 q3 q4
  refine h C M H σ ρ _ _ e hw fun v d M1 H1 p1 s1 d1 => ?_
  exact hg C M1 H1 σ ρ v d N.nx _ (e.step s1) d1 p1 fun σ' ρ' p' e' _ => q1 ρ' M1 H1 σ' p' s1.sm e'
theorem rs_set (i : Nat) (h : RE K te we) : RS K (tAsg te (gName i)) (fun N ρ => we ρ fun d => N.nx (ρ.set i (some (.im d)))) := rs_asg h (rg_name i)
theorem rs_par (i j : Nat) (h : RD K ta wa) : RS K (tPar i j ta) (fun N ρ => wa ρ fun ds => ∃ a b, ds = [a, b] ∧ N.nx ((ρ.set i (some (.im a))).set j (some (.im b)))) := by
  intro C M H σ ρ N D e hw q1 q2 q3 q4
  refine h C M H σ ρ _ _ e hw ?_
  rintro vs ds M1 H1 ⟨a, b, rfl, p1⟩ s1 d1
  cases d1 with
  | cons h1 t =>
    cases t with
    | cons h2 t =>
      cases t
      exact ⟨_, _, rfl, q1 _ M1 H1 _ p1 s1.sm (((e.step s1).set h1 i).set h2 j)⟩
/-- a, b = .., []: the second is one's own -/
theorem rs_parO (i j : Nat) (h : RE K te we) : RS K (tPar i j (tCons te (tCons (tLst tNil) tNil))) (fun N ρ => we ρ fun a => N.nx ((ρ.set i (some (.im a))).set j (some (.ow [])))) := by
  intro C M H σ ρ N D e hw q1 q2 q3 q4
  refine h C M H σ ρ _ _ e hw fun v d M1 H1 p1 s1 d1 => ?_
  refine ⟨Nat.zero_le _, fun p np => ⟨_, _, rfl, ?_⟩⟩
  have e1 := (e.step s1).set d1 i
  exact q1 _ M1 _ _ p1 s1.sm (e1.own np (Stp.hidden s1.vis np (.lst [])) upd_same (none_of_vis s1.vis np) .nil j)
theorem rs_ret (h : RE K te we) : RS K (tRet te) (fun N ρ => we ρ N.rt) := by
  intro C M H σ ρ N D e hw q1 q2 q3 q4
  refine h C M H σ ρ _ _ e hw fun v d M1 H1 p1 s1 d1 => q2 v d M1 H1 p1 (e.step s1).fin d1
theorem rs_retO (i : Nat) : RS K (tRet (tVar i)) (fun N ρ => ∃ ds, ρ[i]? = some (some (.ow ds)) ∧ N.rt (.list ds)) := by
  rintro C M H σ ρ N D e ⟨ds, hi, p⟩ q1 q2 q3 q4
  have lt : i < ρ.length := (List.getElem?_eq_some_iff.mp hi).1
  have l : Le ρ (ρ.set i (some (.im (.list ds)))) := ⟨List.length_set .., fun j x hx => by
    rcases get_set hx with ⟨rfl, rfl, _⟩ | ⟨_, h⟩
    · exact .inr (.inl ⟨ds, hi, rfl⟩)
    · exact .inl h⟩
  obtain ⟨M', k, e'⟩ := e.le l
  obtain ⟨v, hv, s⟩ := e'.sl i (.im (.list ds)) (by rw [List.getElem?_set, if_pos rfl, if_pos lt])
  exact ⟨v, hv, q2 v _ M' H p e'.fin s⟩
theorem rs_expr (h : RE K te we) : RS K (tDrop te) (fun N ρ => we ρ fun _ => N.nx ρ) := by
  intro C M H σ ρ N D e hw q1 q2 q3 q4
  refine h C M H σ ρ _ _ e hw fun v d M1 H1 p1 s1 d1 => q1 ρ M1 H1 σ p1 s1.sm (e.step s1)
theorem rs_if (h : RT K tc wc) (ha : RS K t wt) (hb : RS K u wu) : RS K (tIfS tc t u) (fun N ρ => wc ρ fun b => if b = true then wt N ρ else wu N ρ) := by
  intro C M H σ ρ N D e hw q1 q2 q3 q4
  refine h C M H σ ρ _ _ e hw fun b M1 H1 p1 s1 => ?_
  cases b with
  | true => exact ha C M1 H1 σ ρ N D (e.step s1) p1 (fun ρ2 M2 H2 σ2 p2 k2 e2 => q1 ρ2 M2 H2 σ2 p2 (s1.sm.trans k2) e2) q2 (fun ρ2 M2 H2 σ2 p2 k2 e2 => q3 ρ2 M2 H2 σ2 p2 (s1.sm.trans k2) e2) (fun ρ2 M2 H2 σ2 p2 k2 e2 => q4 ρ2 M2 H2 σ2 p2 (s1.sm.trans k2) e2)
  | false => exact hb C M1 H1 σ ρ N D (e.step s1) p1 (fun ρ2 M2 H2 σ2 p2 k2 e2 => q1 ρ2 M2 H2 σ2 p2 (s1.sm.trans k2) e2) q2 (fun ρ2 M2 H2 σ2 p2 k2 e2 => q3 ρ2 M2 H2 σ2 p2 (s1.sm.trans k2) e2) (fun ρ2 M2 H2 σ2 p2 k2 e2 => q4 ρ2 M2 H2 σ2 p2 (s1.sm.trans k2) e2)
theorem rs_next : RS K tNext (fun N ρ => N.nx ρ) := fun C M H σ ρ N D e hw q1 q2 q3 q4 => q1 ρ M H σ hw (Same.rf M) e
theorem rs_for {wi : L2.TI} {g : TG} {S : List Nat} {wwi : En → (List PyData → Prop) → Prop} {wg : PyData → En → (En → Prop) → Prop} (hi : RI K wi wwi) (hg : RG K g S wg) (hb : RS K t wt) :
    RS K (tFor wi g t) (fun N ρ => wwi ρ fun ds => ∃ I : Nat → En → Prop, Cl (I 0) ρ ∧ (∀ i d ρ', ds[i]? = some d → I i ρ' → wg d ρ' fun ρ2 => wt ⟨Cl (I (i + 1)), N.rt, N.nx, Cl (I (i + 1))⟩ ρ2) ∧ ∀ ρ', I ds.length ρ' → N.nx ρ') := by
  intro C M H σ ρ N D e hw q1 q2 q3 q4
  refine hi C M H σ ρ _ _ e hw ?_
  rintro ds J M1 H1 ⟨I, I0, IS, IE⟩ s1 ⟨G, Y, wk, hG, hY⟩
  have e1 := e.step s1
  refine for_it wk (fun i σx Hx => ∃ ρx Mx, I i ρx ∧ Same M1 Mx ∧ Ev K C Mx Hx σx ρx) ?_ ?_ ?_ ?_
  · obtain ⟨ρ0, l0, i0⟩ := I0
    obtain ⟨M0, k0, e0⟩ := e1.le l0
    exact ⟨ρ0, M0, i0, k0, e0⟩
  · rintro i σx Hx _ ⟨ρx, Mx, _, kx, ex⟩
    exact hG Mx Hx kx ex.vis
  · rintro i x σx Hx Hy hi' ⟨ρx, Mx, ix, kx, ex⟩ y
    obtain ⟨My, d, sy, hd, hu⟩ := hY i Mx Hx x Hy hi' kx ex.vis y
    have ey := ex.step (sy C.bg)
    have cl : ∀ ρ' M' H' σ', Cl (I (i + 1)) ρ' → Same My M' → Ev K C M' H' σ' ρ' → ∃ ρx Mx, I (i + 1) ρx ∧ Same M1 Mx ∧ Ev K C Mx H' σ' ρx := by
      rintro ρ' M' H' σ' ⟨ρ2, l2, i2⟩ k' e'
      obtain ⟨M2, k2, e2⟩ := e'.le l2
      exact ⟨ρ2, M2, i2, ((kx.trans (sy C.bg).sm).trans k').trans k2, e2⟩
    refine hg C My Hy σx ρx x d _ _ ey hu (IS i d ρx hd ix) fun σ2 ρ2 p2 e2 _ => ?_
    exact hb C My Hy σ2 ρ2 _ _ e2 p2 cl q2 (fun ρ' M' H' σ' p k' e' => q1 ρ' M' H' σ' p (((s1.sm.trans kx).trans (sy C.bg).sm).trans k') e') cl
  · rintro σx Hx ⟨ρx, Mx, ix, kx, ex⟩
    exact q1 ρx Mx Hx σx (IE ρx ix) (s1.sm.trans kx) ex
theorem rs_while (h : RT K tc wc) (hb : RS K t wt) :
    RS K (tWhile tc t) (fun N ρ => ∃ (I : En → Prop) (μ : En → Nat), Cl I ρ ∧ ∀ ρ', I ρ' → wc ρ' fun b => if b = true then wt ⟨Cl fun ρ2 => I ρ2 ∧ μ ρ2 < μ ρ', N.rt, N.nx, Cl fun ρ2 => I ρ2 ∧ μ ρ2 < μ ρ'⟩ ρ' else N.nx ρ') := by
  rintro C M H σ ρ N D e ⟨I, μ, I0, IS⟩ q1 q2 q3 q4
  refine ⟨fun m σx Hx => ∃ ρx Mx, I ρx ∧ m = μ ρx ∧ Same M Mx ∧ Ev K C Mx Hx σx ρx, ?_, ?_⟩
  · obtain ⟨ρ0, l0, i0⟩ := I0
    obtain ⟨M0, k0, e0⟩ := e.le l0
    exact ⟨_, ρ0, M0, i0, rfl, k0, e0⟩
  · rintro m σx Hx ⟨ρx, Mx, ix, rfl, kx, ex⟩
    refine h C Mx Hx σx ρx _ _ ex (IS ρx ix) fun b M1 H1 p1 s1 => ?_
    have e1 := ex.step s1
    cases b with
    | false => exact q1 ρx M1 H1 σx p1 (kx.trans s1.sm) e1
    | true =>
      have cl : ∀ ρ' M' H' σ', Cl (fun ρ2 => I ρ2 ∧ μ ρ2 < μ ρx) ρ' → Same M1 M' → Ev K C M' H' σ' ρ' → ∃ m', m' < μ ρx ∧ ∃ ρx Mx, I ρx ∧ m' = μ ρx ∧ Same M Mx ∧ Ev K C Mx H' σ' ρx := by
        rintro ρ' M' H' σ' ⟨ρ2, l2, i2, lt⟩ k' e'
        obtain ⟨M2, k2, e2⟩ := e'.le l2
        exact ⟨_, lt, ρ2, M2, i2, rfl, ((kx.trans s1.sm).trans k').trans k2, e2⟩
      refine ⟨fun σ' H' => ∃ m', m' < μ ρx ∧ ∃ ρx Mx, I ρx ∧ m' = μ ρx ∧ Same M Mx ∧ Ev K C Mx H' σ' ρx, fun _ _ h => h, ?_⟩
      exact hb C M1 H1 σx ρx _ _ e1 p1 cl q2 (fun ρ' M' H' σ' p k' e' => q1 ρ' M' H' σ' p ((kx.trans s1.sm).trans k') e') cl
/-- x = [..], one's own -/
theorem rs_own (i : Nat) (h : RD K ta wa) : RS K (tAsg (tLst ta) (gName i)) (fun N ρ => wa ρ fun ds => ds.length ≤ 1000 ∧ N.nx (ρ.set i (some (.ow ds)))) := by
  intro C M H σ ρ N D e hw q1 q2 q3 q4
  refine h C M H σ ρ _ _ e hw fun vs ds M1 H1 p1 s1 d1 => ?_
  refine ⟨by rw [d1.length]; exact Nat.le_trans p1.1 (by decide), fun p np => ?_⟩
  exact q1 _ M1 _ _ p1.2 s1.sm ((e.step s1).own np (Stp.hidden s1.vis np (.lst vs)) upd_same (none_of_vis s1.vis np) d1 i)
theorem rs_ownLc (i : Nat) {wi : L2.TI} {g : TG} {tt : TT} {vs S : List Nat} {wwi : En → (List PyData → Prop) → Prop} {wg : PyData → En → (En → Prop) → Prop} {w2 : En → (Bool → Prop) → Prop}
    (hi : RI K wi wwi) (hg : RG K g S wg) (hS : ∀ i ∈ S, i ∈ vs) (ht : RT K tt w2) (he : RE K te we) : RS K (tAsg (tLc wi g tt te vs) (gName i)) (fun N ρ => wLc wwi wg w2 we vs ρ fun ds => N.nx (ρ.set i (some (.ow ds)))) := by
  intro C M H σ ρ N D e hw q1 q2 q3 q4
  refine lc_core' hi hg hS ht he e hw fun p xs ds M' H' p' s np mp hp ha => ?_
  exact q1 _ M' H' _ p' s.sm (e.own np s hp mp ha i)
theorem tyV_lst {H : Hp} {p : Addr} {xs : List V} (h : H p = some (.lst xs)) : tyV K "list" (.ref p) H := .inl ⟨rfl, xs, SqL.of h⟩
theorem rs_append (i : Nat) (h : RE K te we) : RS K (tDrop (tBM K "list" rAppend (tVar i) (tCons te tNil))) (fun N ρ => ∃ ds, ρ[i]? = some (some (.ow ds)) ∧ ds.length < 1000 ∧ we ρ fun d => N.nx (ρ.set i (some (.ow (ds ++ [d]))))) := by
  rintro C M H σ ρ N D e ⟨ds, hi, l, hw⟩ q1 q2 q3 q4
  obtain ⟨v, hv, p, vs, rfl, hm, hp, h0, ha⟩ := e.sl i _ hi
  refine ⟨_, hv, tyV_lst hp, h C M H σ ρ _ _ e hw fun v d M1 H1 p1 s1 d1 => ?_⟩
  have e1 := e.step s1
  refine ⟨p, vs, v, rfl, rfl, s1.fr p _ (notbag e.bg0 h0) hp, small1000 (by rw [ha.length]; omega), ?_⟩
  exact q1 _ M1 _ σ p1 s1.sm (e1.poke hi hv ((duA_same s1.sm _ _ ha).append (.cons d1 .nil)))
theorem rs_extend (i : Nat) (h : RB K te we) : RS K (tDrop (tBM K "list" rExtend (tVar i) (tCons te tNil))) (fun N ρ => ∃ ds, ρ[i]? = some (some (.ow ds)) ∧ we ρ fun d => ∃ es, d = .list es ∧ ds.length + es.length ≤ 1000 ∧ N.nx (ρ.set i (some (.ow (ds ++ es))))) := by
  rintro C M H σ ρ N D e ⟨ds, hi, hw⟩ q1 q2 q3 q4
  obtain ⟨v, hv, p, vs, rfl, hm, hp, h0, ha⟩ := e.sl i _ hi
  refine ⟨_, hv, tyV_lst hp, h C M H σ ρ _ _ e hw ?_⟩
  rintro v d M1 H1 ⟨es, rfl, l, p1⟩ s1 d1
  have e1 := e.step s1
  obtain ⟨b, us, rfl, hb, ga⟩ := d1.list s1.vis
  refine ⟨p, b, vs, us, rfl, rfl, s1.fr p _ (notbag e.bg0 h0) hp, hb, by rw [ha.length, ga.length]; exact Nat.le_trans l (by decide), ?_⟩
  exact q1 _ M1 _ σ p1 s1.sm (e1.poke hi hv ((duA_same s1.sm _ _ ha).append ga))
end
/-! ### defs -/
def argD (ds : List DV) : En := ds.map some
theorem start_get {N : List Str} {vs : List V} {i : Nat} {v : V} (h : vs[i]? = some v) : (L2.start N vs)[i]? = some (some v) := by
  unfold L2.start
  have l : i < (vs.map some).length := by rw [List.length_map]; exact (List.getElem?_eq_some_iff.mp h).1
  rw [List.getElem?_append_left l, List.getElem?_map, h]
  rfl
theorem Axs.get {bg : Bg} {M : Hp} : ∀ {vs : List V} {ds : List DV} {i : Nat} {x : DV}, Axs K bg M vs ds → ds[i]? = some x → ∃ v, vs[i]? = some v ∧ Ax K bg M v x
  | _, _, 0, _, .cons a b, e => by
    cases e
    exact ⟨_, rfl, a⟩
  | _, _, i + 1, _, .cons a b, e => by
    rw [List.getElem?_cons_succ] at e
    obtain ⟨v, hv, q⟩ := Axs.get b e
    exact ⟨v, by rw [List.getElem?_cons_succ]; exact hv, q⟩
  | _, _, i, _, .nil, e => by simp at e
def startD (n : Nat) (ds : List DV) : En := ds.map some ++ List.replicate (n - ds.length) none
theorem startD_get {n : Nat} {ds : List DV} {i : Nat} {x : DV} (h : (startD n ds)[i]? = some (some x)) : ds[i]? = some x := by
  unfold startD at h
  by_cases l : i < ds.length
  · rw [List.getElem?_append_left (by rw [List.length_map]; exact l), List.getElem?_map] at h
    cases e : ds[i]? with
    | none => rw [e] at h; cases h
    | some y =>
      rw [e] at h
      cases h
      rfl
  · rw [List.getElem?_append_right (by rw [List.length_map]; omega), List.getElem?_replicate] at h
    split at h <;> cases h
theorem ev_start {bg : Bg} {M H : Hp} {vs : List V} {ds : List DV} {N : List Str} (k : Same M H) (g : BagOk bg M H) (a : Axs K bg M vs ds) : Ev K ⟨bg, M, H⟩ M H (L2.start N vs) (startD N.length ds) where
  len := by
    unfold startD L2.start
    rw [List.length_append, List.length_append, List.length_map, List.length_map, List.length_replicate, List.length_replicate, a.length]
  vis := k
  bag := g
  bg0 := fun b c e => by
    obtain ⟨h1, _⟩ := g b c e
    obtain ⟨_, e1⟩ := h1.lst
    obtain ⟨_, _, e2⟩ := h1.cell
    exact ⟨by show H b ≠ none; rw [e1]; exact fun z => (nomatch z), by show H c ≠ none; rw [e2]; exact fun z => (nomatch z)⟩
  fr := fun _ _ _ e => e
  sm := Same.rf M
  hid := fun _ e _ => e
  live := fun _ e => e
  sl := fun i x hx => by
    obtain ⟨v, hv, q⟩ := a.get (startD_get hx)
    refine ⟨v, start_get hv, ?_⟩
    cases x with
    | im d => exact q
    | ow ds => exact q.elim
    | od ds => exact q.elim
    | bag => exact q
    | ob _ _ => exact q
  apart := fun i j x y p n h1 o1 h2 => by
    obtain ⟨v, _, q⟩ := a.get (startD_get h1)
    cases x with
    | ow ds => exact q.elim
    | od ds => exact q.elim
    | im d => cases o1
    | bag => cases o1
    | ob _ _ => cases o1
theorem w_use {t : TS} {ws : Nd → En → Prop} (R : RS K t ws) {N : List Str} {vs : List V} {H : Hp} {Q : VK} {bg : Bg} {M : Hp} {ds : List DV} {P : PyData → Prop} (k : Same M H) (g : BagOk bg M H) (a : Axs K bg M vs ds)
    (q : ∀ v d M' H', P d → Stp bg M H M' H' → Du K M' v d → Q v H') (hw : ws ⟨fun _ => P .none, P, fun _ => False, fun _ => False⟩ (startD N.length ds)) :
    t { nx := fun _ H' => Q .non H', rt := Q } (L2.start N vs) H := by
  refine R ⟨bg, M, H⟩ M H _ _ _ _ (ev_start k g a) hw (fun ρ' M' H' σ' p _ e' => q _ _ M' H' p e'.fin .non) q (fun _ _ _ _ z => z.elim) (fun _ _ _ _ z => z.elim)
theorem sp_len {w : List DV → (PyData → Prop) → Prop} {n : Nat} (h : ∀ ds P, w ds P → ds.length = n) {vs : List V} {H : Hp} {Q : VK} {E : XK} (s : spW K w vs H Q E) : vs.length = n := by
  obtain ⟨bg, M, ds, P, _, _, a, hw, _⟩ := s
  rw [a.length]
  exact h _ _ hw
/-! ### the draws -/
section
variable {P : Program} {w : World} {mg : Str → Option Value} {base : Heap} {k : Nat} {x : Str} {sp sp' : Sp}
theorem cal_to (c : Cal P w K mg base k x sp) (f : ∀ vs H Q E, sp' vs H Q E → sp vs H Q E) : Cal P w K mg base k x sp' := by
  obtain ⟨a, fd, ps, F, r⟩ := c.ex
  exact ⟨a, fd, ps, ⟨fun vs H Q E h => F.len vs H Q E (f _ _ _ _ h), fun A outer s H args us vs Q E hG hr he hb hv hs => F.go A outer s H args us vs Q E hG hr he hb hv (f _ _ _ _ hs)⟩, r⟩
def wTake : List DV → (PyData → Prop) → Prop := fun ds P => ∃ many : Int, ds = [.bag, .im (.int many)] ∧ 0 < many ∧ many < 1073741824 ∧ ∀ r : Int, 0 ≤ r → r < many → P (.int r)
theorem take_w (c : Cal P w K mg base k x spTake) : Cal P w K mg base k x (spW K wTake) := by
  refine cal_to c ?_
  rintro vs H Q E ⟨bg, M, ds, P, km, g, a, ⟨many, rfl, h1, h2, p⟩, q⟩
  cases a with
  | cons a1 a2 =>
    cases a2 with
    | cons a2 a3 =>
      cases a3
      obtain ⟨b, c, rfl, rfl⟩ := a1
      cases (show Du K M _ (.int many) from a2)
      obtain ⟨hb, hm⟩ := g b c rfl
      exact ⟨b, c, many, rfl, hb, h1, h2, fun r H' kp hb' r0 r1 => q _ _ M H' (p r r0 r1) (Stp.kp km hm kp hb') (.int r)⟩
def wSome : List DV → (PyData → Prop) → Prop := fun ds P => ∃ a xs, ds = [.bag, .im a] ∧ itemsD a = some xs ∧ xs ≠ [] ∧ xs.length < 1000000 ∧ ∀ d ∈ xs, P d
theorem DuAll.mem {M : Hp} : ∀ {ds : List PyData} {vs : List V} {v : V}, DuAll K M vs ds → v ∈ vs → ∃ d ∈ ds, Du K M v d
  | _, _, _, .cons a b, h => by
    rcases List.mem_cons.mp h with rfl | h
    · exact ⟨_, List.mem_cons_self, a⟩
    · obtain ⟨d, hd, q⟩ := DuAll.mem b h
      exact ⟨d, List.mem_cons_of_mem _ hd, q⟩
theorem some_w (c : Cal P w K mg base k x (spSome K)) : Cal P w K mg base k x (spW K wSome) := by
  refine cal_to c ?_
  rintro vs H Q E ⟨bg, M, ds, P, km, g, a, ⟨d, xs, rfl, it, n, l, p⟩, q⟩
  cases a with
  | cons a1 a2 =>
    cases a2 with
    | cons a2 a3 =>
      cases a3
      obtain ⟨b, c, rfl, rfl⟩ := a1
      obtain ⟨hb, hm⟩ := g b c rfl
      have fin : ∀ {us : List V}, DuAll K M us xs → us ≠ [] ∧ us.length < 1000000 ∧ ∀ x H', x ∈ us → Kp b H H' → Bag H' b c → Q x H' := fun ha => by
        refine ⟨fun z => n (List.eq_nil_of_length_eq_zero (by rw [← ha.length, z]; rfl)), by rw [ha.length]; exact l, fun x H' hx kp hb' => ?_⟩
        obtain ⟨d, hd, hu⟩ := ha.mem hx
        exact q _ _ M H' (p d hd) (Stp.kp km hm kp hb') hu
      cases d with
      | list es =>
        cases it
        cases (show Du K M _ (.list xs) from a2) with
        | @lst t us _ hs ha => exact ⟨b, c, t, us, rfl, hb, .inl ⟨SqL.of (km _ _ hs), fun z => by rw [z, hm] at hs; cases hs⟩, fin ha⟩
      | tuple es =>
        cases it
        cases (show Du K M _ (.tuple xs) from a2) with
        | @tup t us _ hs ha _ => exact ⟨b, c, t, us, rfl, hb, .inr (TupK.same km _ _ _ hs), fin ha⟩
      | _ => cases it
theorem DuAll.perm {M : Hp} {vs us : List V} (h : us.Perm vs) : ∀ {ds : List PyData}, DuAll K M vs ds → ∃ es, es.Perm ds ∧ DuAll K M us es := by
  have g := h.symm
  clear h
  induction g with
  | nil => exact fun a => ⟨_, .refl _, a⟩
  | cons v _ ih =>
    intro ds a
    cases a with
    | cons a b =>
      obtain ⟨es, p, q⟩ := ih b
      exact ⟨_ :: es, p.cons _, .cons a q⟩
  | swap v u l =>
    intro ds a
    cases a with
    | cons a b =>
      cases b with
      | cons b c => exact ⟨_ :: _ :: _, .swap _ _ _, .cons b (.cons a c)⟩
  | trans _ _ i1 i2 =>
    intro ds a
    obtain ⟨es, p, q⟩ := i1 a
    obtain ⟨fs, p2, q2⟩ := i2 q
    exact ⟨fs, p2.trans p, q2⟩
def wMixed : List DV → (PyData → Prop) → Prop := fun ds P => ∃ xs, ds = [.bag, .im (.list xs)] ∧ xs.length ≤ 1000 ∧ ∀ ys, ys.Perm xs → P (.list ys)
theorem mixed_w (c : Cal P w K mg base k x (spMixed K)) : Cal P w K mg base k x (spW K wMixed) := by
  refine cal_to c ?_
  rintro vs H Q E ⟨bg, M, ds, P, km, g, a, ⟨xs, rfl, l, p⟩, q⟩
  cases a with
  | cons a1 a2 =>
    cases a2 with
    | cons a2 a3 =>
      cases a3
      obtain ⟨b, c, rfl, rfl⟩ := a1
      obtain ⟨hb, hm⟩ := g b c rfl
      cases (show Du K M _ (.list xs) from a2) with
      | @lst t us _ hs ha =>
        refine ⟨b, c, t, us, rfl, hb, SqL.of (km _ _ hs), fun z => (by rw [z, hm] at hs; cases hs), by rw [ha.length]; exact l, fun z ys H' pm kp hb' nz hz => ?_⟩
        obtain ⟨es, pe, ga⟩ := ha.perm pm
        have s := Stp.kp km hm kp hb'
        have s' := Stp.reveal km s nz (none_of_vis km nz) hz
        exact q _ _ _ _ (p es pe) s' (.lst upd_same (duA_same s'.sm _ _ ga))
def wAlike : List DV → (PyData → Prop) → Prop := fun ds P => ∃ d, ds = [.im d, .im d] ∧ itemsD d ≠ none ∧ SeqAt.shaped d = true ∧ Shows d ∧ P (.bool true)
theorem alike_w (c : Cal P w K mg base k x (spAlike K)) : Cal P w K mg base k x (spW K wAlike) := by
  refine cal_to c ?_
  rintro vs H Q E ⟨bg, M, ds, P, km, g, a, ⟨d, rfl, it, sh, so, p⟩, q⟩
  cases a with
  | cons a1 a2 =>
    cases a2 with
    | cons a2 a3 =>
      cases a3
      have isr : ∀ {v : V}, Du K M v d → ∃ a, v = .ref a := fun h => by
        cases h <;> first | exact ⟨_, rfl⟩ | exact absurd rfl it
      obtain ⟨x1, rfl⟩ := isr a1
      obtain ⟨x2, rfl⟩ := isr a2
      exact ⟨x1, x2, d, rfl, du_dp km _ _ so.2.1 a1, du_dp km _ _ so.2.1 a2, sh, so, q _ _ M H p (.refl km) (.bl _)⟩
end
end GL

/-! data of all kinds, dicts among them: == and repr of the same data -/
namespace PySem.SeqAt
open AutoSeq1 (wpAny_loadPart')
open MeetsSeq MeetsSeq2 MeetsSeq3 SeqRoads2
section
variable {prog : Program} {w : World}
theorem gv_tup_eq (l b : Addr) (us vs : Array Value) (n n2 : Nat) (dd dd2 : Option Addr) (sl sl2 : Array (Option Value)) (hsz : us.size = vs.size) :
    MeetsIn prog w (Builtin.«tuple.__eq__» ⟨[.ref l, .ref b], []⟩)
      (fun A R s => s.heap.get? l = some { cls := .type "tuple", dict := dd, data := .seq us n, slots := sl } ∧
        s.heap.get? b = some { cls := .type "tuple", dict := dd2, data := .seq vs n2, slots := sl2 } ∧
        (∀ j (h1 : j < us.size) (h2 : j < vs.size), EqP prog w A.in1 s us[j] vs[j] true) ∧ R (.ok (.ret (.bool true))) s) := by
  intro A R s h
  obtain ⟨hp, g, d, tk, os⟩ := s
  obtain ⟨hl, hb, he, h⟩ := h
  have f2 := AutoSeq1.sub_tuple_tuple
  have hZ : (us.toList.zip vs.toList).length = us.size := by simp [hsz]
  wp_walk using wpAny_loadPart' hl, wpAny_loadPart' hb, wpAny_forIn_list _ (fun rest c s' => c.1 = none ∧ s' = ⟨hp, g, d, tk, os⟩ ∧ ∃ i, rest = (us.toList.zip vs.toList).drop i) _
  case turn =>
    rintro ⟨y, x⟩ rest c s' ⟨hc, rfl, i, hz⟩
    have hlt : i < (us.toList.zip vs.toList).length := by
      rcases Nat.lt_or_ge i (us.toList.zip vs.toList).length with q | q
      · exact q
      · rw [List.drop_of_length_le q] at hz
        cases hz
    have h1 : i < us.size := hZ ▸ hlt
    have h2 : i < vs.size := hsz ▸ h1
    rw [List.drop_eq_getElem_cons hlt] at hz
    injection hz with e1 e2
    have ey : y = us[i] := by simpa using congrArg Prod.fst e1
    have ex : x = vs[i] := by simpa using congrArg Prod.snd e1
    subst ey
    subst ex
    refine wpAny_bind (he i h1 h2 _ _ ?_)
    wp_walk
    exact ⟨rfl, rfl, i + 1, e2⟩
  case fin =>
    rintro ⟨b1, b2⟩ s' ⟨hc, rfl, i, hz⟩
    simp only at hc
    subst hc
    wp_walk
    simpa [Builtin.Tuple.tupleCompareSizes, hsz] using h
  case h => exact ⟨rfl, rfl, 0, rfl⟩
theorem gv_rc_tup {A : Around} {s : Shared} {l b : Addr} {us vs : Array Value} (hl : s.heap.IsTuple l us) (hb : s.heap.IsTuple b vs) (hsz : us.size = vs.size) (hu : A.units < cLine)
    (he : ∀ j (h1 : j < us.size) (h2 : j < vs.size), EqP prog w A.in1 s us[j] vs[j] true) (E Q : Value → Shared → Prop) (q : Q (.bool true) s) :
    wpAny (model prog w) A (richCompare .Eq (.ref l) (.ref b)) Q E s := by
  obtain ⟨⟨c1, d1, x1, k1⟩, ho, hc, n, hd⟩ := id hl
  obtain ⟨⟨c2, d2, x2, k2⟩, ho2, hc2, n2, hd2⟩ := id hb
  simp only at hc hd hc2 hd2
  subst hc
  subst hd
  subst hc2
  subst hd2
  have ta : s.TypeIs (.ref l) "tuple" := ⟨_, ho, rfl⟩
  have tb : s.TypeIs (.ref b) "tuple" := ⟨_, ho2, rfl⟩
  exact wpAny_richCompare_same_room (op := .Eq) ta tb F.slot_tuple_eq (call_meetsIn F.slot_tuple_eq ta F.entry_tuple_eq (F.args_tuple_eq_2 _ _) (gv_tup_eq l b us vs n n2 d1 d2 k1 k2 hsz)
    ⟨ho, ho2, he, show Value.bool true ≠ Value.notImplemented ∧ Q (.bool true) s from ⟨(fun x => nomatch x), q⟩⟩) hu
end
end PySem.SeqAt
namespace GL
open PySem PySem.Spec PyProof.Rows L2
/-- a key as a datum -/
def kD : Key → PyData
  | .inl i => .int i
  | .inr x => .str x
mutual
/-- a value's datum; lists stand off sys.modules -/
inductive Dv (K : PySem.W.Frag) (H : Hp) : V → PyData → Prop
  | non : Dv K H .non .none
  | bl (b : Bool) : Dv K H (.bl b) (.bool b)
  | int (i : Int) : Dv K H (.int i) (.int i)
  | str (x : Str) : Dv K H (.str x) (.str x)
  | lst {a : Addr} {xs : List V} {ds : List PyData} : H a = some (.lst xs) → a ≠ sysModules → DvAll K H xs ds → Dv K H (.ref a) (.list ds)
  | tup {a : Addr} {xs : List V} {ds : List PyData} : SqT K H a xs → DvAll K H xs ds → Dv K H (.ref a) (.tuple ds)
  | dk {a : Addr} {kvs : List (Key × V)} {ds : List (PyData × PyData)} : H a = some (.dK kvs) → (kvs.map (·.1)).Nodup → DvKv K H kvs ds → Dv K H (.ref a) (.dict ds)
inductive DvAll (K : PySem.W.Frag) (H : Hp) : List V → List PyData → Prop
  | nil : DvAll K H [] []
  | cons {v : V} {vs : List V} {d : PyData} {ds : List PyData} : Dv K H v d → DvAll K H vs ds → DvAll K H (v :: vs) (d :: ds)
inductive DvKv (K : PySem.W.Frag) (H : Hp) : List (Key × V) → List (PyData × PyData) → Prop
  | nil : DvKv K H [] []
  | cons {k : Key} {v : V} {kvs : List (Key × V)} {d : PyData} {ds : List (PyData × PyData)} : Dv K H v d → DvKv K H kvs ds → DvKv K H ((k, v) :: kvs) ((kD k, d) :: ds)
end
section
variable {X : Cx} {pins : List (Addr × Obj)} {σ : L2.St} {H : Hp} {s : Shared}
theorem key_reads {P : Program} {w : World} {h : Heap} {k : Key} {u : Value} (e : (mixKind P w).is k u = true) : Reads h u (kD k) [] := by
  have e' : keyIs k u = true := e
  cases k with
  | inl i =>
    rcases keyIs_shape e' with ⟨j, t, e1, rfl⟩ | ⟨x, t, e1, rfl⟩
    · cases e1
      exact .int _ _
    · cases e1
  | inr x =>
    rcases keyIs_shape e' with ⟨j, t, e1, rfl⟩ | ⟨y, t, e1, rfl⟩
    · cases e1
    · cases e1
      exact .str _ _
end
end GL
namespace GL
open PySem PySem.Spec PyProof.Rows L2
section
variable {X : Cx} {pins : List (Addr × Obj)} {σ : L2.St} {H : Hp} {s : Shared}
mutual
theorem Dv.reads (I : Inv X pins σ H s) : ∀ (d : PyData) (v : V) (u : Value), Dv X.K H v d → RelV v u → ∃ as, Reads s.heap u d as ∧ sysModules ∉ as
  | .none, _, _, h, r => by
    cases h
    cases r
    exact ⟨_, .none, List.not_mem_nil⟩
  | .bool b, _, _, h, r => by
    cases h
    cases r
    exact ⟨_, .bool b, List.not_mem_nil⟩
  | .int i, _, _, h, r => by
    cases h
    obtain ⟨t, rfl⟩ := r
    exact ⟨_, .int i t, List.not_mem_nil⟩
  | .str x, _, _, h, r => by
    cases h
    obtain ⟨t, rfl⟩ := r
    exact ⟨_, .str x t, List.not_mem_nil⟩
  | .list ds, _, _, h, r => by
    cases h with
    | lst hs ne ha =>
      cases r
      obtain ⟨its, rv, ⟨o, n, ho, hc, _, hd⟩, _⟩ := I.list (SqL.of hs)
      obtain ⟨as, hr, hn⟩ := Dv.readsAll I ds _ its ha rv
      refine ⟨_, .list ho hc hd hr, fun z => ?_⟩
      rcases List.mem_cons.mp z with e | z
      · exact ne e.symm
      · exact hn z
  | .tuple ds, _, _, h, r => by
    cases h with
    | tup hs ha =>
      cases r
      obtain ⟨its, rv, ⟨o, ho, hc, n, hd⟩, _⟩ := I.tuple hs
      obtain ⟨as, hr, hn⟩ := Dv.readsAll I ds _ its ha rv
      exact ⟨_, .tuple ho hc hd hr, hn⟩
  | .dict ds, _, _, h, r => by
    cases h with
    | dk hs nd ha =>
      cases r
      obtain ⟨_, ya, vs, rv, o, es, ep, ho, hc, hd, _, hp, _⟩ := dk_of I.hok hs
      obtain ⟨as, bs, h1, h2, n1, n2⟩ := Dv.readsKv I ds _ vs es.toList ha rv hp
      refine ⟨_, .dict ho hc.1 hd h1 h2, fun z => ?_⟩
      rcases List.mem_append.mp z with z | z
      · rcases List.mem_cons.mp z with e | z
        · exact beq_eq_false_iff_ne.mp ya e.symm
        · exact n1 z
      · exact n2 z
theorem Dv.readsAll (I : Inv X pins σ H s) : ∀ (ds : List PyData) (vs : List V) (us : List Value), DvAll X.K H vs ds → Vals vs us → ∃ as, ReadsAll s.heap us ds as ∧ sysModules ∉ as
  | [], _, _, h, r => by
    cases h
    cases r
    exact ⟨_, .nil, List.not_mem_nil⟩
  | d :: ds, _, _, h, r => by
    cases h with
    | cons h1 h2 =>
      cases r with
      | cons r1 r2 =>
        obtain ⟨as, q1, n1⟩ := Dv.reads I d _ _ h1 r1
        obtain ⟨bs, q2, n2⟩ := Dv.readsAll I ds _ _ h2 r2
        refine ⟨_, .cons q1 q2, fun z => ?_⟩
        rcases List.mem_append.mp z with z | z
        · exact n1 z
        · exact n2 z
theorem Dv.readsKv (I : Inv X pins σ H s) : ∀ (ds : List (PyData × PyData)) (kvs : List (Key × V)) (vs : List (Key × Value)) (es : List DictEntry), DvKv X.K H kvs ds → KV kvs vs →
    Pairs (mixKind X.prog X.w) es vs → ∃ as bs, ReadsAll s.heap (es.map (·.key)) (ds.map (·.1)) as ∧ ReadsAll s.heap (es.map (·.val)) (ds.map (·.2)) bs ∧ sysModules ∉ as ∧ sysModules ∉ bs
  | [], _, _, _, h, r, p => by
    cases h
    cases r
    cases p
    exact ⟨_, _, .nil, .nil, List.not_mem_nil, List.not_mem_nil⟩
  | (_, d) :: ds, _, _, _, h, r, p => by
    cases h with
    | cons h1 h2 =>
      cases r with
      | @cons _ q _ qs r1 r2 =>
        cases p with
        | cons p1 p2 p3 =>
          obtain ⟨e1, rv⟩ := r1
          obtain ⟨as, bs, q1, q2, n1, n2⟩ := Dv.readsKv I ds _ _ _ h2 r2 p3
          obtain ⟨cs, q3, n3⟩ := Dv.reads I d _ _ h1 rv
          rw [← p2] at q3
          have q4 := key_reads (h := s.heap) p1
          rw [← e1] at q4
          refine ⟨_, _, .cons q4 q1, .cons q3 q2, n1, fun z => ?_⟩
          rcases List.mem_append.mp z with z | z
          · exact n3 z
          · exact n2 z
end
end
end GL
namespace GL
open PySem PySem.Spec PyProof.Rows L2
open PySem.Calls
theorem kD_inj {k l : Key} (h : kD k = kD l) : k = l := by
  cases k <;> cases l <;> cases h <;> rfl
/-- the same datum, of small depth -/
def Twin (K : PySem.W.Frag) (H : Hp) (n : Nat) (x y : V) : Prop := ∃ d, d.depth < n ∧ Dv K H x d ∧ Dv K H y d
theorem twins {K : PySem.W.Frag} {H : Hp} {n : Nat} : ∀ {ds : List PyData} {xs ys : List V}, DvAll K H xs ds → DvAll K H ys ds → PyData.depthAll ds < n → Paired (Twin K H n) xs ys
  | [], _, _, h1, h2, _ => by
    cases h1
    cases h2
    exact .nil
  | d :: ds, _, _, h1, h2, hn => by
    cases h1 with
    | cons a1 b1 =>
      cases h2 with
      | cons a2 b2 =>
        rw [PyData.depthAll] at hn
        exact .cons ⟨d, Nat.lt_of_le_of_lt (Nat.le_max_left _ _) hn, a1, a2⟩ (twins b1 b2 (Nat.lt_of_le_of_lt (Nat.le_max_right _ _) hn))
theorem twinKv {K : PySem.W.Frag} {H : Hp} {n : Nat} : ∀ {ds : List (PyData × PyData)} {ks ls : List (Key × V)}, DvKv K H ks ds → DvKv K H ls ds → PyData.depthKv ds < n →
    ks.length = ls.length ∧ ∀ p ∈ ks, ∃ u, (p.1, u) ∈ ls ∧ Twin K H n p.2 u
  | [], _, _, h1, h2, _ => by
    cases h1
    cases h2
    exact ⟨rfl, fun p hp => nomatch hp⟩
  | (kd, d) :: ds, _, _, h1, h2, hn => by
    rw [PyData.depthKv] at hn
    have hd : d.depth < n := by omega
    have hr : PyData.depthKv ds < n := by omega
    generalize e : (kd, d) :: ds = l at h1 h2
    cases h1 with
    | nil => cases e
    | @cons k v kvs d1 ds1 a1 b1 =>
      generalize e2 : (kD k, d1) :: ds1 = m at h2
      cases h2 with
      | nil => cases e2
      | @cons k2 v2 kvs2 d2 ds2 a2 b2 =>
        obtain ⟨e3, e4⟩ := List.cons.inj e
        obtain ⟨e5, e6⟩ := List.cons.inj e2
        obtain ⟨_, rfl⟩ := Prod.mk.inj e3
        obtain ⟨e7, rfl⟩ := Prod.mk.inj e5
        subst e4
        subst e6
        have ek := kD_inj e7
        subst ek
        obtain ⟨q1, q2⟩ := twinKv b1 b2 hr
        refine ⟨by rw [List.length_cons, List.length_cons, q1], fun p hp => ?_⟩
        rcases List.mem_cons.mp hp with rfl | hp
        · exact ⟨v2, List.mem_cons_self, d, hd, a1, a2⟩
        · obtain ⟨u, hu, t⟩ := q2 p hp
          exact ⟨u, List.mem_cons_of_mem _ hu, t⟩
section
variable {X : Cx} {pins : List (Addr × Obj)} {σ : L2.St} {H : Hp} {s : Shared}
theorem twin_rc (I : Inv X pins σ H s) {n : Nat} {A : Around} (hu : A.units < cLine) (ih : ∀ x y v u, Twin X.K H n x y → RelV x v → RelV y u → SeqAt.EqP X.prog X.w A.in1 s v u true)
    {x y : V} {v u : Value} (h : Twin X.K H (n + 1) x y) (rx : RelV x v) (ry : RelV y u) (E Q : Value → Shared → Prop) (q : Q (.bool true) s) :
    wpAny (model X.prog X.w) A (richCompare .Eq v u) Q E s := by
  obtain ⟨d, hd, h1, h2⟩ := h
  cases d with
  | none =>
    cases h1
    cases h2
    cases rx
    cases ry
    exact SeqAt.RcAt.none_none _ _ E Q q
  | bool b =>
    cases h1
    cases h2
    cases rx
    cases ry
    exact SeqAt.RcAt.bool_bool b b _ _ E Q (by rw [beq_self_eq_true]; exact q)
  | int i =>
    cases h1
    cases h2
    obtain ⟨t, rfl⟩ := rx
    obtain ⟨t2, rfl⟩ := ry
    exact SeqAt.RcAt.int_int i t i t2 _ _ E Q (by rw [beq_self_eq_true]; exact q)
  | str z =>
    cases h1
    cases h2
    obtain ⟨t, rfl⟩ := rx
    obtain ⟨t2, rfl⟩ := ry
    exact SeqAt.RcAt.str_str z t z t2 _ _ E Q (by rw [beq_self_eq_true]; exact q)
  | list ds =>
    rw [PyData.depth] at hd
    cases h1 with
    | lst e1 m1 a1 =>
      cases h2 with
      | lst e2 m2 a2 =>
        cases rx
        cases ry
        obtain ⟨us, r1, p1, _⟩ := I.list (SqL.of e1)
        obtain ⟨ws, r2, p2, _⟩ := I.list (SqL.of e2)
        have pr := twins (n := n) a1 a2 (by omega)
        have hsz : us.toArray.size = ws.toArray.size := by
          rw [List.size_toArray, List.size_toArray, ← r1.length, ← r2.length]
          exact Paired.length pr
        refine SeqAt.rcP_lists (e := fun _ => true) p1.isList p2.isList hsz hu (fun j h1 h2 => ?_) E Q ?_
        · have k := items_run ih pr r1 r2 j (by simpa using h1) (by simpa using h2)
          simpa using k
        · rw [show ((List.range us.toArray.size).all fun _ => true) = true from List.all_eq_true.mpr fun _ _ => rfl]
          exact q
  | tuple ds =>
    rw [PyData.depth] at hd
    cases h1 with
    | tup e1 a1 =>
      cases h2 with
      | tup e2 a2 =>
        cases rx
        cases ry
        obtain ⟨us, r1, p1, _⟩ := I.tuple e1
        obtain ⟨ws, r2, p2, _⟩ := I.tuple e2
        have pr := twins (n := n) a1 a2 (by omega)
        have hsz : us.toArray.size = ws.toArray.size := by
          rw [List.size_toArray, List.size_toArray, ← r1.length, ← r2.length]
          exact Paired.length pr
        refine SeqAt.gv_rc_tup p1 p2 hsz hu (fun j h1 h2 => ?_) E Q q
        have k := items_run ih pr r1 r2 j (by simpa using h1) (by simpa using h2)
        simpa using k
  | dict ds =>
    rw [PyData.depth] at hd
    cases h1 with
    | dk e1 nd1 a1 =>
      cases h2 with
      | dk e2 nd2 a2 =>
        cases rx
        cases ry
        obtain ⟨_, ya, va, ra, da⟩ := dk_of I.hok e1
        obtain ⟨_, yb, vb, rb, db⟩ := dk_of I.hok e2
        obtain ⟨hl, hp⟩ := twinKv (n := n) a1 a2 (by omega)
        refine PySem.W.rcP_dicts (knd := mixKind X.prog X.w) (r := true) ya yb da db hu (fun _ => hits_run ih rb ra fun p hm => ?_) E Q ?_
        · obtain ⟨u, hu', t⟩ := hp p hm
          exact ⟨u, val_nodup nd2 _ hu', t⟩
        · have e : va.length = vb.length := by rw [← ra.length, ← rb.length]; exact hl
          rw [show (va.length == vb.length && true) = true from by rw [e]; simp]
          exact q
theorem twin_eq (I : Inv X pins σ H s) : ∀ (n : Nat) (A : Around), A.units + n < cLine → ∀ (x y : V) (v u : Value), Twin X.K H n x y → RelV x v → RelV y u → SeqAt.EqP X.prog X.w A s v u true
  | 0, _, _, _, _, _, _, ⟨_, h, _⟩, _, _ => absurd h (Nat.not_lt_zero _)
  | n + 1, A, hu, x, y, v, u, h, rx, ry => by
    have step := twin_rc I (A := A) (by omega) (twin_eq I n A.in1 (by show A.units + 1 + n < cLine; omega)) h rx ry
    obtain ⟨d, hd, h1, h2⟩ := h
    by_cases isr : ∃ a b, x = .ref a ∧ y = .ref b
    · obtain ⟨a, b, rfl, rfl⟩ := isr
      cases (show v = Value.ref a from rx)
      cases (show u = Value.ref b from ry)
      by_cases e : a = b
      · subst e
        exact (SeqAt.EqAt.same _).eqP
      · exact SeqAt.eqP_refs e step
    · have flat : x = y ∧ flatB x = true := by
        cases h1 <;> cases h2 <;> first | exact ⟨rfl, rfl⟩ | exact absurd ⟨_, _, rfl, rfl⟩ isr
      obtain ⟨rfl, f⟩ := flat
      exact (eqAt_same rx ry f).eqP
end
section
variable {X : Cx}
/-- x == y, the same datum -/
def rEqW (K : PySem.W.Frag) : R2 := fun x y H Q => ∃ d, d.depth ≤ 60 ∧ Dv K H x d ∧ Dv K H y d ∧ Q (.bl true) H
theorem op_eqW (hu : X.A.units + 64 < cLine) : OpR X (compareOp .Eq) (rEqW X.K) := by
  intro pins s σ H x y v u Q I rx ry h
  obtain ⟨d, hd, h1, h2, q⟩ := h
  exact twin_rc I (n := 61) (A := X.A) (by omega) (twin_eq I 61 X.A.in1 (by show X.A.units + 1 + 61 < cLine; omega)) ⟨d, by omega, h1, h2⟩ rx ry _ _ ⟨.bl true, H, I, rfl, q⟩
/-- the text of a datum fits -/
def ShowsW (d : PyData) : Prop := d.showable = true ∧ d.depth ≤ 60 ∧ d.shown.length ≤ sizeLine
def rReprW (K : PySem.W.Frag) : List V → Hp → VK → Prop := fun xs H Q => ∃ x d, xs = [x] ∧ Dv K H x d ∧ ShowsW d ∧ Q (.str d.shown) H
theorem call_reprW {X : Cx} (hG : X.A.guards = some []) (hu : X.A.units + 64 < cLine) : CallR X (.builtin "repr") (rReprW X.K) := by
  intro pins s σ H xs us Q I r h
  obtain ⟨x, d, rfl, hd, ⟨h1, h3, h4⟩, q⟩ := h
  cases r with
  | cons rx rn =>
    cases rn
    by_cases isr : ∃ a, x = .ref a
    · obtain ⟨a, rfl⟩ := isr
      cases rx
      obtain ⟨as, hr, hn⟩ := Dv.reads I d _ _ hd rfl
      refine repr_of_reads' hr h1 (fun _ => hn) hG (by omega) (fun _ _ e => e) (fun h' u tk hk => ?_) h4
      exact ⟨.str d.shown, H, I.kept hk, ⟨_, rfl⟩, q⟩
    · cases hd with
      | non =>
        cases rx
        refine PySem.P.repr_of_none ⟨.str "None", H, I.tok _, ⟨_, rfl⟩, ?_⟩
        simpa [PyData.shown] using q
      | bl b =>
        cases rx
        refine PySem.P.repr_of_bool ⟨.str (if b then "True" else "False"), H, I.tok _, ⟨_, rfl⟩, ?_⟩
        simpa [PyData.shown] using q
      | int i =>
        obtain ⟨t, rfl⟩ := rx
        refine PySem.P.repr_of_int (by simpa [PyData.showable] using h1) ⟨.str (Str.ofString (toString i)), H, I.tok _, ⟨_, rfl⟩, ?_⟩
        simpa [PyData.shown] using q
      | str z =>
        obtain ⟨t, rfl⟩ := rx
        refine PySem.P.repr_of_str ⟨.str (PySem.reprText z), H, I.tok _, ⟨_, rfl⟩, ?_⟩ (by simpa [PyData.shown] using h4)
        simpa [PyData.shown] using q
      | lst => exact absurd ⟨_, rfl⟩ isr
      | tup => exact absurd ⟨_, rfl⟩ isr
      | dk => exact absurd ⟨_, rfl⟩ isr
end
end GL
namespace GL
open PySem PySem.Spec PyProof.Rows L2
section
variable {X : Cx}
/-- [a, b, ..], with where it does not stand -/
def tLstN (t : TA) : TE := fun σ H Q => t σ H fun xs H1 => xs.length ≤ sizeLine ∧ ∀ p, H1 p = none → p ≠ sysModules → Q (.ref p) (upd H1 p (.lst xs))
theorem pe_lstN {es : List Expr} {pos : Pos} {t : TA} (h : PA X es t) : PE X (.List es pos) (tLstN t) := by
  refine ⟨fun pins s σ H Q I hq => ?_⟩
  refine wpAny_List_spliced (thn (h.run pos pins s σ H _ I hq) fun us s1 ⟨xs, H1, I1, r, z, q⟩ => ⟨by rw [← r.length]; exact z, ?_⟩)
  refine ⟨.ref s1.heap.objs.size, upd H1 s1.heap.objs.size (.lst xs), I1.laid (t' := s1.toks) (fun b u e => Heap.get?_push_of_some _ e) (Nat.le_refl _) ⟨z, us, 0, r, Heap.get?_push_size _ rfl⟩, rfl, ?_⟩
  exact q _ (I1.hok.fresh (Nat.le_refl _)) (Nat.ne_of_gt I1.big)
end
theorem DvAll.mono' {K : PySem.W.Frag} {H H' : Hp} (f : ∀ v d, Dv K H v d → Dv K H' v d) : ∀ {vs : List V} {ds : List PyData}, DvAll K H vs ds → DvAll K H' vs ds
  | [], _, h => by
    cases h
    exact .nil
  | _ :: _, _, h => by
    cases h with
    | cons a b => exact .cons (f _ _ a) (DvAll.mono' f b)
mutual
/-- what stands stays -/
theorem Dv.same {K : PySem.W.Frag} {H H' : Hp} (k : Same H H') : ∀ (d : PyData) (v : V), Dv K H v d → Dv K H' v d
  | .none, _, h => by
    cases h
    exact .non
  | .bool _, _, h => by
    cases h
    exact .bl _
  | .int _, _, h => by
    cases h
    exact .int _
  | .str _, _, h => by
    cases h
    exact .str _
  | .list ds, _, h => by
    cases h with
    | lst a b c => exact .lst (k _ _ a) b (DvAll.same k ds _ c)
  | .tuple ds, _, h => by
    cases h with
    | tup a c => exact .tup (TupK.same k _ _ _ a) (DvAll.same k ds _ c)
  | .dict ds, _, h => by
    cases h with
    | dk a b c => exact .dk (k _ _ a) b (DvKv.same k ds _ c)
theorem DvAll.same {K : PySem.W.Frag} {H H' : Hp} (k : Same H H') : ∀ (ds : List PyData) (vs : List V), DvAll K H vs ds → DvAll K H' vs ds
  | [], _, h => by
    cases h
    exact .nil
  | d :: ds, _, h => by
    cases h with
    | cons a b => exact .cons (Dv.same k d _ a) (DvAll.same k ds _ b)
theorem DvKv.same {K : PySem.W.Frag} {H H' : Hp} (k : Same H H') : ∀ (ds : List (PyData × PyData)) (vs : List (Key × V)), DvKv K H vs ds → DvKv K H' vs ds
  | [], _, h => by
    cases h
    exact .nil
  | (_, d) :: ds, _, h => by
    cases h with
    | cons a b => exact .cons (Dv.same k d _ a) (DvKv.same k ds _ b)
end
def spAlikeW (K : PySem.W.Frag) : Sp := fun vs H Q _ => ∃ (x y : V) (d : PyData), vs = [x, y] ∧ Dv K H x d ∧ Dv K H y d ∧ ShowsW d ∧ Q (.bl true) H
end GL
namespace GL
open PySem PySem.Spec PyProof.Rows L2
theorem dv_ints {K : PySem.W.Frag} {H : Hp} : ∀ l : List Int, DvAll K H (l.map V.int) (l.map PyData.int)
  | [] => .nil
  | i :: l => .cons (.int i) (dv_ints l)
theorem TI.dv {K : PySem.W.Frag} {H : Hp} {v : V} {r : List Int} (h : TI K H v r) : Dv K H v (encR r) := by
  obtain ⟨t, rfl, h⟩ := h
  exact .tup h (dv_ints r)
theorem dv_rows {K : PySem.W.Frag} {H : Hp} : ∀ {bs : List (V × List Int)}, (∀ b ∈ bs, TI K H b.1 b.2) → DvAll K H (bs.map (·.1)) (bs.map fun b => encR b.2)
  | [], _ => .nil
  | b :: bs, h => .cons (h b List.mem_cons_self).dv (dv_rows fun c hc => h c (List.mem_cons_of_mem _ hc))
theorem RowsAt.dv {K : PySem.W.Frag} {H : Hp} {a : Addr} {bs : List (V × List Int)} (h : RowsAt K H a bs) : Dv K H (.ref a) (encRs (bs.map (·.2))) := by
  refine .tup h.1 ?_
  rw [List.map_map]
  exact dv_rows h.2
theorem TabAt.dv {K : PySem.W.Frag} {H : Hp} {t a : Addr} {many : Int} {bs : List (V × List Int)} (h : TabAt K H t many a bs) : Dv K H (.ref t) (encT many (bs.map (·.2))) :=
  .tup h.1 (.cons (.int _) (.cons h.2.dv .nil))

/-! ### tables by their names -/
abbrev Tab := Int × List (List Int)
/-- a table stands at v -/
def TabV (K : PySem.W.Frag) (H : Hp) (v : V) (T : Tab) : Prop := ∃ t a bs, v = .ref t ∧ TabAt K H t T.1 a bs ∧ bs.map (·.2) = T.2
theorem TabV.mono {K : PySem.W.Frag} {H H' : Hp} {v : V} {T : Tab} (k : TupK H H') (h : TabV K H v T) : TabV K H' v T := by
  obtain ⟨t, a, bs, e, h, q⟩ := h
  exact ⟨t, a, bs, e, h.mono k, q⟩
theorem TabV.dv {K : PySem.W.Frag} {H : Hp} {v : V} {T : Tab} (h : TabV K H v T) : Dv K H v (encT T.1 T.2) := by
  obtain ⟨t, a, bs, rfl, h, q⟩ := h
  rw [← q]
  exact h.dv
/-- a dict's entries: names and tables -/
def TabsKv (K : PySem.W.Frag) (H : Hp) (kvs : List (Key × V)) (ts : List (Str × Tab)) : Prop := PySem.W.EachIs (fun p q => p.1 = .inr q.1 ∧ TabV K H p.2 q.2) kvs ts
def TabsAt (K : PySem.W.Frag) (H : Hp) (d : Addr) (ts : List (Str × Tab)) : Prop := ∃ kvs, H d = some (.dK kvs) ∧ TabsKv K H kvs ts
theorem TabsKv.mono {K : PySem.W.Frag} {H H' : Hp} {kvs : List (Key × V)} {ts : List (Str × Tab)} (k : TupK H H') (h : TabsKv K H kvs ts) : TabsKv K H' kvs ts :=
  each_mono (fun _ _ h => ⟨h.1, h.2.mono k⟩) h
abbrev encKv (ts : List (Str × Tab)) : List (PyData × PyData) := ts.map fun q => (.str q.1, encT q.2.1 q.2.2)
theorem TabsKv.dv {K : PySem.W.Frag} {H : Hp} : ∀ {kvs : List (Key × V)} {ts : List (Str × Tab)}, TabsKv K H kvs ts → DvKv K H kvs (encKv ts)
  | _, _, .nil => .nil
  | (k, v) :: _, q :: _, .cons ⟨e, h⟩ t => by
    cases (show k = .inr q.1 from e)
    exact .cons h.dv (TabsKv.dv t)
theorem TabsKv.keys {K : PySem.W.Frag} {H : Hp} : ∀ {kvs : List (Key × V)} {ts : List (Str × Tab)}, TabsKv K H kvs ts → kvs.map (·.1) = ts.map fun q => .inr q.1
  | _, _, .nil => rfl
  | (k, v) :: _, q :: _, .cons ⟨e, h⟩ t => by
    cases (show k = .inr q.1 from e)
    rw [List.map_cons, List.map_cons, TabsKv.keys t]
theorem nodup_inr {l : List Str} : l.Nodup → (l.map fun x => (Sum.inr x : Key)).Nodup := fun h => List.Pairwise.map _ (fun _ _ n e => n (Sum.inr.inj e)) h
theorem TabsKv.nodup {K : PySem.W.Frag} {H : Hp} {kvs : List (Key × V)} {ts : List (Str × Tab)} (h : TabsKv K H kvs ts) (n : (ts.map (·.1)).Nodup) : (kvs.map (·.1)).Nodup := by
  rw [h.keys]
  have := nodup_inr n
  rw [List.map_map] at this
  exact this
theorem TabsAt.dv {K : PySem.W.Frag} {H : Hp} {d : Addr} {ts : List (Str × Tab)} (h : TabsAt K H d ts) (n : (ts.map (·.1)).Nodup) : Dv K H (.ref d) (.dict (encKv ts)) := by
  obtain ⟨kvs, h1, h2⟩ := h
  exact .dk h1 (h2.nodup n) h2.dv
theorem putK_new {kvs : List (Key × V)} {k : Key} {v : V} (h : k ∉ kvs.map (·.1)) : putK kvs k v = kvs ++ [(k, v)] := by
  unfold putK
  rw [if_neg]
  intro z
  obtain ⟨p, hp, e⟩ := List.any_eq_true.mp z
  exact h (List.mem_map.mpr ⟨p, hp, of_decide_eq_true e⟩)
theorem mergeK_nodup : ∀ {more kvs : List (Key × V)}, ((kvs ++ more).map (·.1)).Nodup → mergeK kvs more = kvs ++ more
  | [], kvs, _ => by
    unfold mergeK
    simp
  | (k, v) :: more, kvs, h => by
    have hk : k ∉ kvs.map (·.1) := by
      rw [List.map_append, List.nodup_append] at h
      exact fun z => h.2.2 k z k (by simp) rfl
    have e : mergeK kvs ((k, v) :: more) = mergeK (putK kvs k v) more := rfl
    rw [e, putK_new hk, mergeK_nodup (by rw [List.append_assoc]; exact h), List.append_assoc]
    rfl
end GL

/-! comprehensions whose turns draw, with what is known of the turn's own item -/
namespace GL
open PySem PySem.Spec PyProof.Rows L2
open PySem.W (EachIs)
open PySem.Calls
section
variable {K : PySem.W.Frag} {g : TG} {tt : TT} {te : TE} {vs : List Nat} {σ : L2.St} {H1 : Hp} {D : Addr} {Qd : Hp → Prop} {Rel : Hp → Hp → Prop} {G : Hp → Prop} {β : Type}
def TurnX (g : TG) (tt : TT) (te : TE) (vs : List Nat) (σ : L2.St) (Rel : Hp → Hp → Prop) (G : Hp → Prop) (Y : Hp → V → β → Prop) (Z : β → Prop) (x : V) (H : Hp) : Prop :=
  ∀ (Qe : VK) (Qn : Hp → Prop), (∀ y H4 b, Rel H H4 → G H4 → Y H4 y b → Z b → Qe y H4) →
    g x (wipe σ vs) H fun σ2 H2 => wipe σ2 vs = wipe σ vs ∧ tt σ2 H2 fun b H3 => if b = true then te σ2 H3 Qe else Qn H3
def LpX (H1 : Hp) (D : Addr) (Rel : Hp → Hp → Prop) (G : Hp → Prop) (Y : Hp → V → β → Prop) (Z : Nat → β → Prop) (i : Nat) (H : Hp) : Prop :=
  ∃ (acc : List V) (bs : List β), Rel H1 H ∧ G H ∧ H D = some (.lst acc) ∧ EachIs (Y H) acc bs ∧ bs.length = i ∧ ∀ j b, bs[j]? = some b → Z j b
variable {Y : Hp → V → β → Prop} {Z : Nat → β → Prop}
theorem LpX.turn (L : LcG H1 D Rel G) (mono : ∀ H H' v b, TupK H H' → Y H v b → Y H' v b) {i : Nat} {x : V} {H : Hp} (hi : i < 1000) (hp : LpX H1 D Rel G Y Z i H)
    (step : Rel H1 H → G H → TurnX g tt te vs σ Rel G Y (Z i) x H) :
    g x (wipe σ vs) H fun σ2 H2 => wipe σ2 vs = wipe σ vs ∧ tt σ2 H2 fun b H3 =>
      if b = true then te σ2 H3 fun y H4 => ∃ acc, H4 D = some (.lst acc) ∧ acc.length < sizeLine ∧ LpX H1 D Rel G Y Z (i + 1) (upd H4 D (.lst (acc ++ [y])))
      else LpX H1 D Rel G Y Z (i + 1) H3 := by
  obtain ⟨acc, bs, r1, g1, hD, ea, rfl, hz⟩ := hp
  refine step r1 g1 _ _ fun y H4 b r4 g4 hy z4 => ?_
  have hD4 := L.keepD r4 hD
  have t4 := (L.tk2 g1 r4).trans (TupK.upd (o := .lst (acc ++ [y])) hD4)
  refine ⟨acc, hD4, small1000 (by have := ea.length; omega), acc ++ [y], bs ++ [b], L.upd (L.trans r1 r4) hD4, L.gU g4 hD4, upd_same,
    each_snoc (mono _ _ _ _ (TupK.upd hD4) hy) (each_mono (fun v b => mono _ _ _ _ t4) ea), by rw [List.length_append]; rfl, fun j c e => ?_⟩
  by_cases h : j < bs.length
  · rw [List.getElem?_append_left h] at e
    exact hz j c e
  · rw [List.getElem?_append_right (by omega)] at e
    have h0 : j - bs.length = 0 := by
      rcases Nat.eq_zero_or_pos (j - bs.length) with q | q
      · exact q
      · rw [List.getElem?_eq_none (show [b].length ≤ j - bs.length from q)] at e
        cases e
    rw [h0] at e
    cases e
    have : j = bs.length := by omega
    rw [this]
    exact z4
theorem lcx_list {a : Addr} {xs : List V} (L : LcG H1 D Rel G) (mono : ∀ H H' v b, TupK H H' → Y H v b → Y H' v b) (src : ∀ H, Rel H1 H → SqL K H a xs) (hl : xs.length ≤ 1000)
    (step : ∀ (i : Nat) (x : V) (H : Hp), xs[i]? = some x → Rel H1 H → G H → TurnX g tt te vs σ Rel G Y (Z i) x H)
    (fin : ∀ H acc bs, Rel H1 H → G H → H D = some (.lst acc) → EachIs (Y H) acc bs → bs.length = xs.length → (∀ j b, bs[j]? = some b → Z j b) → Qd H) :
    ∃ W : Nat → Nat → Hp → Prop, (∃ m, W 0 m (upd H1 D (.lst []))) ∧ ∀ i m H, W i m H →
      ((Itl K a).stop i H ∧ Qd H) ∨ ((Itl K a).go i H ∧ ∃ Nx : Hp → Prop, (∀ H', Nx H' → ∃ m', m' < m ∧ W (i + 1) m' H') ∧ ∀ x H', (Itl K a).yld i H x H' → g x (wipe σ vs) H' fun σ2 H2 =>
        wipe σ2 vs = wipe σ vs ∧ tt σ2 H2 fun b H3 => if b = true then te σ2 H3 fun y H4 => ∃ acc, H4 D = some (.lst acc) ∧ acc.length < sizeLine ∧ Nx (upd H4 D (.lst (acc ++ [y]))) else Nx H3) := by
  refine lc_list (K := K) (a := a) (xs := xs) (LpX H1 D Rel G Y Z) ⟨[], [], L.new, L.g0, upd_same, .nil, rfl, fun j b e => by simp at e⟩ (fun i H _ hp => ?_) (fun i x H hx hp => ?_) (fun H hp => ?_)
  · obtain ⟨_, _, r1, _⟩ := hp
    exact src H r1
  · have hi : i < xs.length := (List.getElem?_eq_some_iff.mp hx).1
    exact LpX.turn L mono (by omega) hp fun r g => step i x H hx r g
  · obtain ⟨acc, bs, r1, g1, hD, ea, e, hz⟩ := hp
    exact fin H acc bs r1 g1 hD ea e hz
end
/-- pairs of a name and a table -/
def PairV (K : PySem.W.Frag) (H : Hp) (v : V) (q : Str × Tab) : Prop := ∃ p w, v = .ref p ∧ SqT K H p [.str q.1, w] ∧ TabV K H w q.2
theorem PairV.mono {K : PySem.W.Frag} : ∀ H H' v q, TupK H H' → PairV K H v q → PairV K H' v q := fun _ _ _ _ k ⟨p, w, e, h, t⟩ => ⟨p, w, e, k _ _ _ h, t.mono k⟩
theorem pairs_kv {K : PySem.W.Frag} {H : Hp} : ∀ {acc : List V} {ts : List (Str × Tab)}, EachIs (PairV K H) acc ts → ∃ (ps : List Addr) (kvs : List (Key × V)), acc = ps.map V.ref ∧
    Paired (fun p kv => SqT K H p [kV kv.1, kv.2]) ps kvs ∧ TabsKv K H kvs ts
  | _, _, .nil => ⟨[], [], rfl, .nil, .nil⟩
  | _, q :: _, .cons ⟨p, w, e, h, t⟩ r => by
    obtain ⟨ps, kvs, e1, h1, h2⟩ := pairs_kv r
    subst e
    exact ⟨p :: ps, (.inr q.1, w) :: kvs, by rw [e1]; rfl, .cons h h1, .cons ⟨rfl, t⟩ h2⟩
end GL
namespace GL
open PySem PySem.Spec PyProof.Rows L2
open PySem.W (EachIs)
section
variable {K : PySem.W.Frag} {g : TG} {tt : TT} {te : TE} {vs : List Nat} {σ : L2.St} {H1 : Hp} {D : Addr} {Qd : Hp → Prop} {Rel : Hp → Hp → Prop} {G : Hp → Prop} {β : Type} {Y : Hp → V → β → Prop} {out : Nat → Option β}
theorem lcg_str {z : Str} (L : LcG H1 D Rel G) (mono : ∀ H H' v b, TupK H H' → Y H v b → Y H' v b) (hl : z.cps.size ≤ 1000)
    (step : ∀ (i c : Nat) (H : Hp), z.cps[i]? = some c → Rel H1 H → G H → Turn g tt te vs σ Rel G Y (.str ⟨#[c]⟩) (out i) H)
    (fin : ∀ H acc bs, Rel H1 H → G H → H D = some (.lst acc) → EachIs (Y H) acc bs → bs = (List.range z.cps.size).filterMap out → Qd H) :
    ∃ W : Nat → Nat → Hp → Prop, (∃ m, W 0 m (upd H1 D (.lst []))) ∧ ∀ i m H, W i m H →
      ((Its z).stop i H ∧ Qd H) ∨ ((Its z).go i H ∧ ∃ Nx : Hp → Prop, (∀ H', Nx H' → ∃ m', m' < m ∧ W (i + 1) m' H') ∧ ∀ x H', (Its z).yld i H x H' → g x (wipe σ vs) H' fun σ2 H2 =>
        wipe σ2 vs = wipe σ vs ∧ tt σ2 H2 fun b H3 => if b = true then te σ2 H3 fun y H4 => ∃ acc, H4 D = some (.lst acc) ∧ acc.length < sizeLine ∧ Nx (upd H4 D (.lst (acc ++ [y]))) else Nx H3) := by
  refine lc_it walk_str (Lp H1 D Rel G Y out) (Lp.zero L) (fun _ _ _ _ => trivial) (fun i x H H' hi hp hy => ?_) (fun H hp => ?_)
  · obtain ⟨e, c, hc, rfl⟩ := hy
    subst e
    exact Lp.turn L mono (by omega) hp fun r g => step i c _ hc r g
  · obtain ⟨acc, bs, r1, g1, hD, ea, e⟩ := hp
    exact fin H acc bs r1 g1 hD ea e
end
end GL
namespace GL
open PySem PySem.Spec PyProof.Rows L2
theorem dc_listU {K : PySem.W.Frag} {a : Addr} {xs : List V} {g : TG} {tt : TT} {tk tv : TE} {vs : List Nat} {σ : L2.St} {H1 : Hp} {D : Addr} {Qd : Hp → Prop} (Pv : Nat → Hp → Prop) (h0 : Pv 0 (upd H1 D (.dK []))) (hl : ∀ i H, i ≤ xs.length → Pv i H → SqL K H a xs)
    (hs : ∀ i x H, xs[i]? = some x → Pv i H → g x (wipe σ vs) H fun σ2 H2 => wipe σ2 vs = wipe σ vs ∧ tt σ2 H2 fun b H3 =>
      if b = true then tk σ2 H3 fun y H4 => tv σ2 H4 fun z H5 => ∃ kvs k, y = kV k ∧ H5 D = some (.dK kvs) ∧ kvs.length < sizeLine ∧ Pv (i + 1) (upd H5 D (.dK (putK kvs k z))) else Pv (i + 1) H3) (hd : ∀ H, Pv xs.length H → Qd H) :
    ∃ W : Nat → Nat → Hp → Prop, (∃ m, W 0 m (upd H1 D (.dK []))) ∧ ∀ i m H, W i m H →
      ((Itl K a).stop i H ∧ Qd H) ∨ ((Itl K a).go i H ∧ ∃ Nx : Hp → Prop, (∀ H', Nx H' → ∃ m', m' < m ∧ W (i + 1) m' H') ∧ ∀ x H', (Itl K a).yld i H x H' → g x (wipe σ vs) H' fun σ2 H2 => wipe σ2 vs = wipe σ vs ∧ tt σ2 H2 fun b H3 =>
        if b = true then tk σ2 H3 fun y H4 => tv σ2 H4 fun z H5 => ∃ kvs k, y = kV k ∧ H5 D = some (.dK kvs) ∧ kvs.length < sizeLine ∧ Nx (upd H5 D (.dK (putK kvs k z))) else Nx H3) := by
  refine ⟨fun i m H => m = xs.length - i ∧ i ≤ xs.length ∧ Pv i H, ⟨xs.length, by simp, Nat.zero_le _, h0⟩, ?_⟩
  rintro i m H ⟨rfl, hi, p⟩
  have q := hl i H hi p
  by_cases hlt : i < xs.length
  · refine .inr ⟨⟨xs, xs[i], q, by simp [hlt]⟩, Pv (i + 1), fun H' p' => ⟨xs.length - (i + 1), by omega, rfl, hlt, p'⟩, fun x H' y => ?_⟩
    obtain ⟨e, y⟩ := y
    subst e
    exact hs i x _ (y xs q) p
  · have e : i = xs.length := by omega
    subst e
    exact .inl ⟨⟨xs, q, Nat.le_refl _⟩, hd H p⟩
end GL

/-! small data, texts and dicts among them -/
namespace GL
open PySem PySem.Spec PyProof.Rows L2
structure OkW (w dp : Nat) (d : PyData) : Prop where
  sh : d.showable = true
  sm : d.leavesShort 13 = true
  dep : d.depth ≤ dp
  wt : d.weight ≤ w
structure OkWAll (w dp : Nat) (ds : List PyData) : Prop where
  sh : PyData.showableAll ds = true
  sm : PyData.leavesShortAll 13 ds = true
  dep : PyData.depthAll ds ≤ dp
  wt : PyData.weightAll ds ≤ w
structure OkWKv (w dp : Nat) (ds : List (PyData × PyData)) : Prop where
  sh : PyData.showableKv ds = true
  sm : PyData.leavesShortKv 13 ds = true
  dep : PyData.depthKv ds ≤ dp
  wt : PyData.weightKv ds ≤ w
theorem OkW.mono {w w' dp dp' : Nat} {d : PyData} (h : OkW w dp d) (a : w ≤ w') (b : dp ≤ dp') : OkW w' dp' d := ⟨h.sh, h.sm, Nat.le_trans h.dep b, Nat.le_trans h.wt a⟩
theorem OkWAll.mono {w w' dp dp' : Nat} {d : List PyData} (h : OkWAll w dp d) (a : w ≤ w') (b : dp ≤ dp') : OkWAll w' dp' d := ⟨h.sh, h.sm, Nat.le_trans h.dep b, Nat.le_trans h.wt a⟩
theorem OkWKv.mono {w w' dp dp' : Nat} {d : List (PyData × PyData)} (h : OkWKv w dp d) (a : w ≤ w') (b : dp ≤ dp') : OkWKv w' dp' d := ⟨h.sh, h.sm, Nat.le_trans h.dep b, Nat.le_trans h.wt a⟩
theorem Ok.w {w dp : Nat} {d : PyData} (h : Ok w dp d) : OkW w dp d := ⟨h.sh, h.sm, h.dep, h.wt⟩
theorem OkW.none : OkW 0 0 .none := Ok.none.w
theorem OkW.bool (b : Bool) : OkW 0 0 (.bool b) := (Ok.bool b).w
theorem OkW.int {i : Int} (h : i.natAbs < 10 ^ 12) : OkW 41 0 (.int i) := (Ok.int h).w
theorem OkW.str {x : Str} {n : Nat} (hx : ∀ c ∈ x.cps.toList, c < 16 ^ 8) (hn : x.cps.toList.length ≤ n) : OkW n 0 (.str x) := by
  refine ⟨by simp [PyData.showable], ?_, by simp [PyData.depth], ?_⟩
  · simp only [PyData.leavesShort, List.all_eq_true, decide_eq_true_eq]
    exact hx
  · simp only [PyData.weight]
    simpa using hn
theorem OkWAll.nil (dp : Nat) : OkWAll 0 dp [] := ⟨by simp [PyData.showableAll], by simp [PyData.leavesShortAll], by simp [PyData.depthAll], by simp [PyData.weightAll]⟩
theorem OkW.cons' {w1 w2 dp : Nat} {d : PyData} {ds : List PyData} (h : OkW w1 dp d) (t : OkWAll w2 dp ds) : OkWAll (w1 + 1 + w2) dp (d :: ds) :=
  ⟨by simp [PyData.showableAll, h.sh, t.sh], by simp [PyData.leavesShortAll, h.sm, t.sm], by simp only [PyData.depthAll]; exact Nat.max_le.mpr ⟨h.dep, t.dep⟩, by simp only [PyData.weightAll]; have := h.wt; have := t.wt; omega⟩
theorem OkWKv.nil (dp : Nat) : OkWKv 0 dp [] := ⟨by simp [PyData.showableKv], by simp [PyData.leavesShortKv], by simp [PyData.depthKv], by simp [PyData.weightKv]⟩
theorem OkWKv.cons {w1 w2 w3 dp : Nat} {k d : PyData} {ds : List (PyData × PyData)} (g : OkW w1 dp k) (h : OkW w2 dp d) (t : OkWKv w3 dp ds) : OkWKv (w1 + w2 + 2 + w3) dp ((k, d) :: ds) :=
  ⟨by simp [PyData.showableKv, g.sh, h.sh, t.sh], by simp [PyData.leavesShortKv, g.sm, h.sm, t.sm], by simp only [PyData.depthKv]; exact Nat.max_le.mpr ⟨Nat.max_le.mpr ⟨g.dep, h.dep⟩, t.dep⟩,
    by simp only [PyData.weightKv]; have := g.wt; have := h.wt; have := t.wt; omega⟩
theorem OkWKv.map {α : Type} {w dp : Nat} {f : α → PyData × PyData} : ∀ {l : List α}, (∀ a ∈ l, OkW w dp (f a).1 ∧ OkW w dp (f a).2) → OkWKv (l.length * (2 * w + 2)) dp (l.map f)
  | [], _ => (OkWKv.nil dp).mono (Nat.zero_le _) (Nat.le_refl _)
  | a :: l, h => by
    have t := OkWKv.map (l := l) fun b hb => h b (List.mem_cons_of_mem _ hb)
    obtain ⟨h1, h2⟩ := h a List.mem_cons_self
    refine (OkWKv.cons h1 h2 t).mono ?_ (Nat.le_refl _)
    have e : (l.length + 1) * (2 * w + 2) = l.length * (2 * w + 2) + (2 * w + 2) := Nat.succ_mul _ _
    rw [List.length_cons, e]
    generalize l.length * (2 * w + 2) = m
    omega
theorem OkW.tuple {w dp : Nat} {ds : List PyData} (h : OkWAll w dp ds) : OkW w (dp + 1) (.tuple ds) :=
  ⟨by simp [PyData.showable, h.sh], by simp [PyData.leavesShort, h.sm], by simp only [PyData.depth]; have := h.dep; omega, by simp only [PyData.weight]; exact h.wt⟩
theorem OkW.list {w dp : Nat} {ds : List PyData} (h : OkWAll w dp ds) : OkW w (dp + 1) (.list ds) :=
  ⟨by simp [PyData.showable, h.sh], by simp [PyData.leavesShort, h.sm], by simp only [PyData.depth]; have := h.dep; omega, by simp only [PyData.weight]; exact h.wt⟩
theorem OkW.dict {w dp : Nat} {ds : List (PyData × PyData)} (h : OkWKv w dp ds) : OkW w (dp + 1) (.dict ds) :=
  ⟨by simp [PyData.showable, h.sh], by simp [PyData.leavesShort, h.sm], by simp only [PyData.depth]; have := h.dep; omega, by simp only [PyData.weight]; exact h.wt⟩
theorem OkW.shows {w dp : Nat} {d : PyData} (h : OkW w dp d) (a : w ≤ 1000000) (b : dp ≤ 60) : ShowsW d := by
  refine ⟨h.sh, Nat.le_trans h.dep b, ?_⟩
  have := PyData.shown_le 13 (by decide) d h.sm
  have := h.wt
  rw [sizeLine_eq]
  omega
end GL

/-! the data layer: readings that compute -/
namespace GL
open PySem PySem.Spec PyProof.Rows L2
variable {K : PySem.W.Frag}
theorem RE.imp {t : TE} {w w' : W} (h : RE K t w) (f : ∀ ρ P, w' ρ P → w ρ P) : RE K t w' := fun C M H σ ρ P Q e hw q => h C M H σ ρ P Q e (f ρ P hw) q
theorem RB.imp {t : TE} {w w' : W} (h : RB K t w) (f : ∀ ρ P, w' ρ P → w ρ P) : RB K t w' := fun C M H σ ρ P Q e hw q => h C M H σ ρ P Q e (f ρ P hw) q
theorem RT.imp {t : TT} {w w' : En → (Bool → Prop) → Prop} (h : RT K t w) (f : ∀ ρ P, w' ρ P → w ρ P) : RT K t w' := fun C M H σ ρ P Q e hw q => h C M H σ ρ P Q e (f ρ P hw) q
theorem RO.imp {t : TO} {w w' : En → (Option Int → Prop) → Prop} (h : RO K t w) (f : ∀ ρ P, w' ρ P → w ρ P) : RO K t w' := fun C M H σ ρ P Q e hw q => h C M H σ ρ P Q e (f ρ P hw) q
theorem RI.imp {t : L2.TI} {w w' : En → (List PyData → Prop) → Prop} (h : RI K t w) (f : ∀ ρ P, w' ρ P → w ρ P) : RI K t w' := fun C M H σ ρ P R e hw q => h C M H σ ρ P R e (f ρ P hw) q
theorem RS.imp {t : TS} {w w' : Nd → En → Prop} (h : RS K t w) (f : ∀ N ρ, w' N ρ → w N ρ) : RS K t w' := fun C M H σ ρ N D e hw q1 q2 q3 q4 => h C M H σ ρ N D e (f N ρ hw) q1 q2 q3 q4
theorem RG.imp {t : TG} {S : List Nat} {w w' : PyData → En → (En → Prop) → Prop} (h : RG K t S w) (f : ∀ d ρ N, w' d ρ N → w d ρ N) : RG K t S w' := fun C M H σ ρ v d N Q e hd hw q => h C M H σ ρ v d N Q e hd (f d ρ N hw) q
theorem ROp.imp {r : R2} {g g' : PyData → PyData → (PyData → Prop) → Prop} (h : ROp K r g) (f : ∀ a b P, g' a b P → g a b P) : ROp K r g' := fun bg M H x y a b P Q k hx hy hg q => h bg M H x y a b P Q k hx hy (f a b P hg) q
theorem RCb.imp {r : List V → Hp → VK → Prop} {g g' : List PyData → (PyData → Prop) → Prop} (h : RCb K r g) (f : ∀ ds P, g' ds P → g ds P) : RCb K r g' := fun bg M H xs ds P Q k hx hg q => h bg M H xs ds P Q k hx (f ds P hg) q
theorem RSl.imp {r : V → Option Int → Option Int → Hp → VK → Prop} {g g' : PyData → Option Int → Option Int → (PyData → Prop) → Prop} (h : RSl K r g) (f : ∀ a lo hi P, g' a lo hi P → g a lo hi P) : RSl K r g' := fun bg M H x lo hi a P Q k hx hg q => h bg M H x lo hi a P Q k hx (f a lo hi P hg) q
/-! ### what is there -/
def gv (ρ : En) (i : Nat) (P : PyData → Prop) : Prop := match ρ[i]? with | some (some (.im d)) => P d | _ => False
def gw (ρ : En) (i : Nat) (P : List PyData → Prop) : Prop := match ρ[i]? with | some (some (.ow d)) => P d | _ => False
def gb (ρ : En) (i : Nat) (P : Prop) : Prop := match ρ[i]? with | some (some .bag) => P | _ => False
def asB (d : PyData) (P : Bool → Prop) : Prop := match d with | .bool b => P b | _ => False
def asI (d : PyData) (P : Int → Prop) : Prop := match d with | .int b => P b | _ => False
def asL (d : PyData) (P : List PyData → Prop) : Prop := match d with | .list b => P b | _ => False
def asT (d : PyData) (P : List PyData → Prop) : Prop := match d with | .tuple b => P b | _ => False
def asQ (d : PyData) (P : List PyData → Prop) : Prop := match d with | .list b => P b | .tuple b => P b | _ => False
def as1 (ds : List PyData) (P : PyData → Prop) : Prop := match ds with | [a] => P a | _ => False
def as2 (ds : List PyData) (P : PyData → PyData → Prop) : Prop := match ds with | [a, b] => P a b | _ => False
def as3 (ds : List PyData) (P : PyData → PyData → PyData → Prop) : Prop := match ds with | [a, b, c] => P a b c | _ => False
def asT2 (d : PyData) (P : PyData → PyData → Prop) : Prop := match d with | .tuple [a, b] => P a b | _ => False
def asT3 (d : PyData) (P : PyData → PyData → PyData → Prop) : Prop := match d with | .tuple [a, b, c] => P a b c | _ => False
theorem gv_of {ρ : En} {i : Nat} {P : PyData → Prop} (h : gv ρ i P) : ∃ d, ρ[i]? = some (some (.im d)) ∧ P d := by
  unfold gv at h
  split at h
  · exact ⟨_, by assumption, h⟩
  · exact h.elim
theorem gw_of {ρ : En} {i : Nat} {P : List PyData → Prop} (h : gw ρ i P) : ∃ d, ρ[i]? = some (some (.ow d)) ∧ P d := by
  unfold gw at h
  split at h
  · exact ⟨_, by assumption, h⟩
  · exact h.elim
theorem gb_of {ρ : En} {i : Nat} {P : Prop} (h : gb ρ i P) : ρ[i]? = some (some .bag) ∧ P := by
  unfold gb at h
  split at h
  · exact ⟨by assumption, h⟩
  · exact h.elim
theorem asB_of {d : PyData} {P : Bool → Prop} (h : asB d P) : ∃ k, d = .bool k ∧ P k := by cases d <;> first | exact h.elim | exact ⟨_, rfl, h⟩
theorem asI_of {d : PyData} {P : Int → Prop} (h : asI d P) : ∃ k, d = .int k ∧ P k := by cases d <;> first | exact h.elim | exact ⟨_, rfl, h⟩
theorem asL_of {d : PyData} {P : List PyData → Prop} (h : asL d P) : ∃ k, d = .list k ∧ P k := by cases d <;> first | exact h.elim | exact ⟨_, rfl, h⟩
theorem asT_of {d : PyData} {P : List PyData → Prop} (h : asT d P) : ∃ k, d = .tuple k ∧ P k := by cases d <;> first | exact h.elim | exact ⟨_, rfl, h⟩
theorem asQ_of {d : PyData} {P : List PyData → Prop} (h : asQ d P) : ∃ k, itemsD d = some k ∧ P k := by cases d <;> first | exact h.elim | exact ⟨_, rfl, h⟩
theorem as1_of {ds : List PyData} {P : PyData → Prop} (h : as1 ds P) : ∃ a, ds = [a] ∧ P a := by
  unfold as1 at h
  split at h
  · exact ⟨_, rfl, h⟩
  · exact h.elim
theorem as2_of {ds : List PyData} {P : PyData → PyData → Prop} (h : as2 ds P) : ∃ a b, ds = [a, b] ∧ P a b := by
  unfold as2 at h
  split at h
  · exact ⟨_, _, rfl, h⟩
  · exact h.elim
theorem asT2_of {d : PyData} {P : PyData → PyData → Prop} (h : asT2 d P) : ∃ a b, d = .tuple [a, b] ∧ P a b := by
  unfold asT2 at h
  split at h
  · exact ⟨_, _, rfl, h⟩
  · exact h.elim
theorem asT3_of {d : PyData} {P : PyData → PyData → PyData → Prop} (h : asT3 d P) : ∃ a b c, d = .tuple [a, b, c] ∧ P a b c := by
  unfold asT3 at h
  split at h
  · exact ⟨_, _, _, rfl, h⟩
  · exact h.elim
/-! ### expressions -/
section
variable {ta tb te : TE} {wa wb we : W} {t : TA}
theorem re_v (i : Nat) : RE K (tVar i) (fun ρ P => gv ρ i P) := (re_var i).imp fun _ _ h => gv_of h
theorem rb_o (i : Nat) : RB K (tVar i) (fun ρ P => gw ρ i fun ds => P (.list ds)) := (rb_own i).imp fun _ _ h => gw_of h
theorem ra_b {wr : En → (List DV → Prop) → Prop} (i : Nat) (hr : RA K t wr) : RA K (tCons (tVar i) t) (fun ρ P => gb ρ i (wr ρ fun as => P (.bag :: as))) := fun C M H σ ρ P Q e hw q => ra_bag i hr C M H σ ρ P Q e (gb_of hw) q
theorem ro_sm (ha : RE K te we) : RO K (tPart te) (fun ρ P => we ρ fun d => asI d fun i => P (some i)) := fun C M H σ ρ P Q e hw q => ha C M H σ ρ _ _ e hw (fun v d M' H' p s hd => by
  obtain ⟨i, rfl, p⟩ := asI_of p
  cases hd
  exact ⟨i, rfl, q _ M' H' p s⟩)
theorem rt_tst (ha : RE K te we) : RT K (tTest te) (fun ρ P => we ρ fun d => asB d P) := fun C M H σ ρ P Q e hw q => ha C M H σ ρ _ _ e hw (fun v d M' H' p s hd => by
  obtain ⟨i, rfl, p⟩ := asB_of p
  cases hd
  exact ⟨i, rfl, q _ M' H' p s⟩)
theorem rt_vl (ha : RE K te we) : RT K (tB te) (fun ρ P => we ρ fun d => asB d P) := rt_tst ha
theorem re_andC (ha : RE K ta wa) (hb : RE K tb wb) : RE K (tAndV ta tb) (fun ρ P => wa ρ fun d => asB d fun c => if c = true then wb ρ P else P (.bool false)) := by
  intro C M H σ ρ P Q e hw q
  refine ha C M H σ ρ _ _ e hw fun v d M1 H1 p1 s1 d1 => ?_
  obtain ⟨c, rfl, p1⟩ := asB_of p1
  cases d1
  refine ⟨c, rfl, ?_⟩
  cases c with
  | true => exact hb C M1 H1 σ ρ _ _ (e.step s1) p1 fun v d M' H' p s hd => q v d M' H' p (s1.trans s) hd
  | false => exact q _ _ _ _ p1 s1 (.bl _)
theorem re_orC (ha : RE K ta wa) (hb : RE K tb wb) : RE K (tOrV ta tb) (fun ρ P => wa ρ fun d => asB d fun c => if c = true then P (.bool true) else wb ρ P) := by
  intro C M H σ ρ P Q e hw q
  refine ha C M H σ ρ _ _ e hw fun v d M1 H1 p1 s1 d1 => ?_
  obtain ⟨c, rfl, p1⟩ := asB_of p1
  cases d1
  refine ⟨c, rfl, ?_⟩
  cases c with
  | true => exact q _ _ _ _ p1 s1 (.bl _)
  | false => exact hb C M1 H1 σ ρ _ _ (e.step s1) p1 fun v d M' H' p s hd => q v d M' H' p (s1.trans s) hd
theorem re_notC (ha : RE K ta wa) : RE K (tNotV ta) (fun ρ P => wa ρ fun d => asB d fun c => P (.bool !c)) := by
  intro C M H σ ρ P Q e hw q
  refine ha C M H σ ρ _ _ e hw fun v d M1 H1 p1 s1 d1 => ?_
  obtain ⟨c, rfl, p1⟩ := asB_of p1
  cases d1
  exact ⟨c, rfl, q _ _ _ _ p1 s1 (.bl _)⟩
theorem re_un {r : V → Hp → VK → Prop} {g : PyData → (PyData → Prop) → Prop} (hr : ∀ M H v d P Q, Same M H → Du K M v d → g d P → (∀ v d, P d → Du K M v d → Q v H) → r v H Q) (ha : RE K te we) : RE K (tUn r te) (fun ρ P => we ρ fun a => g a P) := by
  intro C M H σ ρ P Q e hw q
  refine ha C M H σ ρ _ _ e hw fun v d M1 H1 p1 s1 d1 => ?_
  exact hr M1 H1 v d _ _ s1.vis d1 p1 fun v d p hd => q v d M1 H1 p s1 hd
theorem re_neg (ha : RE K te we) : RE K (tUn (rU fun i => .int (-i)) te) (fun ρ P => we ρ fun d => asI d fun i => P (.int (-i))) := re_un (g := fun d P => asI d fun i => P (.int (-i))) (fun M H v d P Q k hd hg q => by
  obtain ⟨i, rfl, p⟩ := asI_of hg
  cases hd
  exact ⟨i, rfl, q _ _ p (.int _)⟩) ha
/-- list(range(..)) -/
theorem duA_rg {M : Hp} (lo : Int) (n : Nat) : DuAll K M ((List.range n).map fun (i : Nat) => V.int (lo + i)) (rangeD lo n) := by
  unfold rangeD
  induction List.range n with
  | nil => exact .nil
  | cons a l ih => exact .cons (.int _) ih
theorem re_lrg1 (ha : RE K te we) : RE K (tLstRg (tRg1 te)) (fun ρ P => we ρ fun d => asI d fun n => 0 ≤ n ∧ n ≤ 1000 ∧ P (.list (rangeD 0 n.toNat))) := by
  intro C M H σ ρ P Q e hw q
  refine ha C M H σ ρ _ _ e hw fun v d M1 H1 p1 s1 d1 => ?_
  obtain ⟨n, rfl, hn, l, p⟩ := asI_of p1
  cases d1
  refine ⟨n, rfl, RgOk.of_le (by omega) (by omega) (by omega) hn, fun z nz => ?_⟩
  have s := Stp.new (bg := C.bg) s1.vis nz (.lst (rgV 0 n))
  refine q _ _ _ _ p (s1.trans s) (.lst upd_same ?_)
  have e0 : (n - 0).toNat = n.toNat := by omega
  unfold rgV
  rw [e0]
  exact duA_rg 0 n.toNat
/-! ### operators -/
def inI (g : Int → Int → PyData) (a b : PyData) (P : PyData → Prop) : Prop := match a, b with | .int i, .int j => P (g i j) | _, _ => False
theorem inI_of {g : Int → Int → PyData} {a b : PyData} {P : PyData → Prop} (h : inI g a b P) : ∃ i j, a = .int i ∧ b = .int j ∧ P (g i j) := by
  unfold inI at h
  split at h
  · exact ⟨_, _, rfl, rfl, h⟩
  · exact h.elim
theorem rp_add : ROp K (rI0 fun i j => .int (i + j)) (inI fun i j => .int (i + j)) := ro_add.imp fun _ _ _ h => inI_of h
theorem rp_sub : ROp K (rI0 fun i j => .int (i - j)) (inI fun i j => .int (i - j)) := ro_sub.imp fun _ _ _ h => inI_of h
theorem rp_cmp {f : Int → Int → Bool} : ROp K (rI0 fun i j => .bl (f i j)) (inI fun i j => .bool (f i j)) := ro_cmp.imp fun _ _ _ h => inI_of h
theorem rp_isN : ROp K (fun x y H Q => y = .non ∧ Q (.bl (decide (x = .non))) H) (fun a b P => match b with | .none => P (.bool (isNone a)) | _ => False) := ro_isN.imp fun a b P h => by
  cases b <;> first | exact h.elim | exact ⟨rfl, h⟩
theorem rp_notN : ROp K (fun x y H Q => y = .non ∧ Q (.bl (!decide (x = .non))) H) (fun a b P => match b with | .none => P (.bool (!isNone a)) | _ => False) := ro_notN.imp fun a b P h => by
  cases b <;> first | exact h.elim | exact ⟨rfl, h⟩
theorem rp_in {neg : Bool} : ROp K (rIn K neg) (fun a b P => asQ b fun ds => flatD a = true ∧ ds.all flatD = true ∧ P (.bool (if neg = true then !inD a ds else inD a ds))) := ro_in.imp fun a b P h => asQ_of h
theorem rp_ix : ROp K (rIx K) (fun a b P => asQ a fun ds => asI b fun i => ∃ d, atI ds i = some d ∧ P d) := ro_ix.imp fun a b P h => by
  obtain ⟨ds, e, h⟩ := asQ_of h
  obtain ⟨i, rfl, d, hd, p⟩ := asI_of h
  exact ⟨ds, i, d, e, rfl, hd, p⟩
theorem rp_cat : ROp K rCat (fun a b P => asL a fun ds => asL b fun es => ds.length + es.length ≤ 1000 ∧ P (.list (ds ++ es))) := ro_cat.imp fun a b P h => by
  obtain ⟨ds, rfl, h1⟩ := asL_of h
  obtain ⟨es, rfl, h2⟩ := asL_of h1
  exact ⟨ds, es, rfl, rfl, h2⟩
theorem Sh.im {bg : Bg} {M H : Hp} {v : V} {ds : List PyData} (h : Sh K bg M H v (.tuple ds)) : Du K M v (.tuple ds) := by
  rcases h with h | ⟨p, vs, es, rfl, e, hb, hp, ha⟩
  · exact h
  · cases e
theorem rp_catT : ROp K (rCatA K) (fun a b P => asT a fun ds => asT b fun es => ds.length + es.length ≤ 1000 ∧ (ds ≠ [] → es ≠ [] → ixT (ds ++ es) = false) ∧ P (.tuple (ds ++ es))) := by
  intro bg M H x y a b P Q k hx hy h q
  obtain ⟨ds, rfl, h1⟩ := asT_of h
  obtain ⟨es, rfl, l, no, p⟩ := asT_of h1
  have hx := hx.im
  have hy := hy.im
  have hx2 := hx
  have hy2 := hy
  cases hx with
  | @tup t vs _ hs ha _ =>
    cases hy with
    | @tup u us _ gs ga _ =>
      refine ⟨t, u, vs, us, rfl, rfl, TupK.same k _ _ _ hs, TupK.same k _ _ _ gs, by rw [ha.length, ga.length]; exact Nat.le_trans l (by decide), fun e => ?_, fun _ e => ?_, fun n1 n2 z nz => ?_⟩
      · subst e
        cases ha
        exact q _ _ M H p (.refl k) hy2
      · subst e
        cases ga
        rw [List.append_nil] at p
        exact q _ _ M H p (.refl k) hx2
      · have s := Stp.new (bg := bg) k nz (.tup (vs ++ us))
        have m1 : ds ≠ [] := fun e => n1 (List.eq_nil_of_length_eq_zero (by rw [ha.length, e]; rfl))
        have m2 : es ≠ [] := fun e => n2 (List.eq_nil_of_length_eq_zero (by rw [ga.length, e]; rfl))
        exact q _ _ _ _ p s (.tup (SqT.of upd_same) (duA_same s.sm _ _ (ha.append ga)) fun z => by rw [no m1 m2] at z; cases z)
theorem rp_str : ROp K (fun x y H Q => ∃ i j, x = .str i ∧ y = .str j ∧ i.length + j.length ≤ sizeLine ∧ Q (.str (i ++ j)) H) (fun a b P => match a, b with | .str i, .str j => i.length + j.length ≤ 1000 ∧ P (.str (i ++ j)) | _, _ => False) := ro_str.imp fun a b P h => by
  split at h
  · exact ⟨_, _, rfl, rfl, h⟩
  · exact h.elim
theorem rp_eq : ROp K rEq (fun a b P => scalD a b = true ∧ P (.bool (a.eqv b))) := ro_eq
theorem rp_ne : ROp K rNe (fun a b P => scalD a b = true ∧ P (.bool (!a.eqv b))) := by
  rintro bg M H x y a b P Q k hx hy ⟨sc, p⟩ q
  have f1 : flatD a = true := by cases a <;> first | rfl | cases sc
  have f2 : flatD b = true := by cases a <;> cases b <;> first | rfl | cases sc
  have e := q _ _ M H p (.refl k) (.bl _)
  have hx' := hx.du f1
  have hy' := hy.du f2
  cases hx' <;> first | (cases sc; done) | (cases hy' <;> first | (cases sc; done) | skip)
  all_goals
    refine ⟨rfl, ?_⟩
    simp only [PyData.eqv, V.bl.injEq, V.int.injEq, V.str.injEq] at e ⊢
    first | rwa [dec_beq] | exact e
/-! ### slices, tuple() -/
theorem sIx_le (n d : Nat) (o : Option Int) (h : d ≤ n) : HT.sIx n d o ≤ n := by
  cases o with
  | none => exact h
  | some v =>
    show (if v < 0 then (v + (n : Int)).toNat else min v.toNat n) ≤ n
    split <;> omega
theorem rx_list : RSl K (rSlL K) (fun a lo hi P => asL a fun ds => P (.list (cutD ds lo hi))) := rs_list.imp fun a lo hi P h => asL_of h
theorem rx_tup : RSl K (rSlA K) (fun a lo hi P => asT a fun ds => (ixT (cutD ds lo hi) = true → cutD ds lo hi = ds) ∧ P (.tuple (cutD ds lo hi))) := by
  intro bg M H x lo hi a P Q k hx h q
  obtain ⟨ds, rfl, no, p⟩ := asT_of h
  have hx := hx.im
  have hx2 := hx
  cases hx with
  | @tup t vs _ hs ha _ =>
    refine ⟨t, vs, rfl, TupK.same k _ _ _ hs, fun hw => ?_, fun nw z nz => ?_⟩
    · rw [ha.length] at hw
      have e : cutD ds lo hi = ds := by
        unfold cutD
        rw [hw.1, hw.2]
        simp
      rw [e] at p
      exact q _ _ M H p (.refl k) hx2
    · have s := Stp.new (bg := bg) k nz (.tup (cutV vs lo hi))
      refine q _ _ _ _ p s (.tup (SqT.of upd_same) (duA_same s.sm _ _ (ha.cut lo hi)) fun z => ?_)
      refine (nw ?_).elim
      have e := no z
      have le : (cutD ds lo hi).length = ds.length := by rw [e]
      unfold cutD at le
      rw [List.length_take, List.length_drop] at le
      rw [ha.length]
      have b1 : HT.sIx ds.length 0 lo ≤ ds.length := sIx_le _ _ _ (Nat.zero_le _)
      have b2 : HT.sIx ds.length ds.length hi ≤ ds.length := sIx_le _ _ _ (Nat.le_refl _)
      have pos : 0 < ds.length := by
        cases ds with
        | nil =>
          rw [e] at z
          cases z
        | cons => simp
      omega
theorem rq_len : RCb K (rLen2 K) (fun ds P => as1 ds fun a => asQ a fun es => P (.int es.length)) := rc_len.imp fun ds P h => by
  obtain ⟨a, rfl, h⟩ := as1_of h
  obtain ⟨es, e, h⟩ := asQ_of h
  exact ⟨a, es, rfl, e, h⟩
theorem rq_list : RCb K (fun xs H Q => ∃ p ys, xs = [.ref p] ∧ (SqL K H p ys ∨ SqT K H p ys) ∧ ∀ (l : Addr), H l = none → Q (.ref l) (upd H l (.lst ys))) (fun ds P => as1 ds fun a => asQ a fun es => P (.list es)) := rc_list.imp fun ds P h => by
  obtain ⟨a, rfl, h⟩ := as1_of h
  obtain ⟨es, e, h⟩ := asQ_of h
  exact ⟨a, es, rfl, e, h⟩
theorem rq_tup : RCb K (rTupF K) (fun ds P => as1 ds fun a => asQ a fun es => P (.tuple es)) := by
  intro bg M H xs ds P Q k hx h q
  obtain ⟨a, rfl, h⟩ := as1_of h
  cases hx with
  | cons h1 t =>
    cases t
    cases a with
    | list es =>
      obtain ⟨p, vs, rfl, hp, ha⟩ := h1.list k
      refine ⟨p, vs, rfl, .inl ⟨SqL.of hp, fun z ob nz hd => ?_⟩⟩
      have s := Stp.new (bg := bg) k nz (.frz ob (.tup vs))
      exact q _ _ _ _ h s (.tup (sqF upd_same) (duA_same s.sm _ _ ha) fun _ => ⟨ob, vs, upd_same, hd⟩)
    | tuple es =>
      have h2 := h1.im
      have h3 := h2
      cases h2 with
      | @tup t vs _ hs ha _ => exact ⟨t, vs, rfl, .inr ⟨TupK.same k _ _ _ hs, q _ _ M H h (.refl k) h3⟩⟩
    | _ => exact h.elim
theorem rq_repr : RCb K (rRepr K) (fun ds P => as1 ds fun a => Shows a ∧ itemsD a ≠ none ∧ P (.str a.shown)) := rc_repr.imp fun ds P h => by
  obtain ⟨a, rfl, h⟩ := as1_of h
  exact ⟨a, rfl, h⟩
end
theorem strs_vals {M : Hp} : ∀ {ys : List Str} {vs : List V}, DuAll K M vs (ys.map .str) → vs = ys.map V.str
  | [], _, h => by cases h; rfl
  | y :: ys, _, h => by
    cases h with
    | cons a b =>
      cases a
      rw [List.map_cons, strs_vals b]
theorem ixT_strs {ys : List Str} (h : ys ≠ []) : ixT (ys.map .str) = true := by
  cases ys with
  | nil => exact absurd rfl h
  | cons y ys =>
    show (ys.map PyData.str).all isS = true
    rw [List.all_map]
    exact List.all_eq_true.mpr fun _ _ => rfl
theorem re_idx {to : TE} {wo : W} {ta : TA} {wa : En → (List PyData → Prop) → Prop} (ho : RE K to wo) (ha : RX K ta wa) : RE K (tIdx K to ta) (fun ρ P => wo ρ fun d => ∃ ys : List Str, d = .tuple (ys.map .str) ∧ ys ≠ [] ∧ wa ρ fun as => as1 as fun a => ∃ (z : Str) (j : Nat), a = .str z ∧ ys[j]? = some z ∧ (∀ m, m < j → ys[m]? ≠ some z) ∧ P (.int (j : Nat))) := by
  intro C M H σ ρ P Q e hw q
  refine ho C M H σ ρ _ _ e hw fun v d M1 H1 p1 s1 d1 => ?_
  obtain ⟨ys, rfl, ne, p1⟩ := p1
  cases d1 with
  | @tup t vs _ hs hd no =>
    obtain ⟨ob, xs, n1, n2⟩ := no (ixT_strs ne)
    refine ⟨t, rfl, ⟨ob, xs, s1.vis _ _ n1, n2⟩, ha C M1 H1 σ ρ _ _ (e.step s1) p1 fun us as M2 H2 p2 s2 d2 => ?_⟩
    obtain ⟨a, rfl, y, j, rfl, e2, e3, p⟩ := as1_of p2
    cases d2 with
    | cons h t' =>
      cases t'
      cases h.str
      have hs2 := TupK.same (s2.sm.trans s2.vis) _ _ _ hs
      rw [strs_vals hd] at hs2
      exact ⟨ys, y, j, rfl, hs2, e2, e3, q _ _ M2 H2 p (s1.trans s2) (.int _)⟩
/-! ### targets, walks -/
section
variable {te : TE} {we : W} {ta : TA} {wa : En → (List PyData → Prop) → Prop}
theorem rg_t2 {g1 g2 : TG} {S T : List Nat} {w1 w2 : PyData → En → (En → Prop) → Prop} (h1 : RG K g1 S w1) (h2 : RG K g2 T w2) :
    RG K (gTup K 2 (gCons g1 (gCons g2 gNil))) (S ++ T) (fun d ρ N => asT2 d fun a b => w1 a ρ fun ρ' => w2 b ρ' N) := by
  intro C M H σ ρ v d N Q e hd h q
  obtain ⟨a, b, rfl, h⟩ := asT2_of h
  cases hd with
  | tup hs ha _ =>
    cases ha with
    | cons ha1 t =>
      cases t with
      | cons ha2 t =>
        cases t
        exact ⟨_, _, rfl, TupK.same e.vis _ _ _ hs, rfl, _, _, rfl, h1 C M H σ ρ _ a _ _ e ha1 h fun σ' ρ' p' e' w' => ⟨_, _, rfl, h2 C M H σ' ρ' _ b _ _ e' ha2 p' fun σ2 ρ2 p2 e2 w2 => ⟨rfl, q σ2 ρ2 p2 e2 fun vs hv => by
          rw [w2 vs fun i hi => hv i (List.mem_append_right _ hi), w' vs fun i hi => hv i (List.mem_append_left _ hi)]⟩⟩⟩
theorem rg_t3 {g1 g2 g3 : TG} {S T U : List Nat} {w1 w2 w3 : PyData → En → (En → Prop) → Prop} (h1 : RG K g1 S w1) (h2 : RG K g2 T w2) (h3 : RG K g3 U w3) :
    RG K (gTup K 3 (gCons g1 (gCons g2 (gCons g3 gNil)))) (S ++ (T ++ U)) (fun d ρ N => asT3 d fun a b c => w1 a ρ fun ρ' => w2 b ρ' fun ρ' => w3 c ρ' N) := by
  intro C M H σ ρ v d N Q e hd h q
  obtain ⟨a, b, c, rfl, h⟩ := asT3_of h
  cases hd with
  | tup hs ha _ =>
    cases ha with
    | cons ha1 t =>
      cases t with
      | cons ha2 t =>
        cases t with
        | cons ha3 t =>
          cases t
          exact ⟨_, _, rfl, TupK.same e.vis _ _ _ hs, rfl, _, _, rfl, h1 C M H σ ρ _ a _ _ e ha1 h fun σ' ρ' p' e' w' => ⟨_, _, rfl, h2 C M H σ' ρ' _ b _ _ e' ha2 p' fun σ2 ρ2 p2 e2 w2 => ⟨_, _, rfl, h3 C M H σ2 ρ2 _ c _ _ e2 ha3 p2 fun σ3 ρ3 p3 e3 w3 => ⟨rfl, q σ3 ρ3 p3 e3 fun vs hv => by
            rw [w3 vs fun i hi => hv i (List.mem_append_right _ (List.mem_append_right _ hi)), w2 vs fun i hi => hv i (List.mem_append_right _ (List.mem_append_left _ hi)), w' vs fun i hi => hv i (List.mem_append_left _ hi)]⟩⟩⟩⟩
theorem ri_l (ha : RE K te we) : RI K (iList K te) (fun ρ P => we ρ fun d => asL d P) := by
  intro C M H σ ρ P R e hw q
  refine ha C M H σ ρ _ _ e hw fun v d M1 H1 p s hd => ?_
  obtain ⟨ds, rfl, p⟩ := asL_of p
  cases hd with
  | lst hs ha => exact ⟨_, rfl, ⟨_, SqL.of (s.vis _ _ hs)⟩, q ds _ M1 H1 p s (gives_list hs ha)⟩
theorem ri_t (ha : RE K te we) : RI K (iTup K te) (fun ρ P => we ρ fun d => asT d P) := by
  intro C M H σ ρ P R e hw q
  refine ha C M H σ ρ _ _ e hw fun v d M1 H1 p s hd => ?_
  obtain ⟨ds, rfl, p⟩ := asT_of p
  cases hd with
  | tup hs ha _ => exact ⟨_, rfl, ⟨_, TupK.same s.vis _ _ _ hs⟩, q ds _ M1 H1 p s (gives_tup hs ha)⟩
theorem ri_r1 (ha : RX K ta wa) : RI K (iRng1 ta) (fun ρ P => wa ρ fun ds => as1 ds fun d => asI d fun j => -(2 ^ 62) ≤ j ∧ j < 2 ^ 62 ∧ P (rangeD 0 j.toNat)) := by
  intro C M H σ ρ P R e hw q
  refine ha C M H σ ρ _ _ e hw fun vs ds M1 H1 p s hd => ?_
  obtain ⟨d, rfl, p⟩ := as1_of p
  obtain ⟨j, rfl, h1, h2, p⟩ := asI_of p
  cases hd with
  | cons h t =>
    cases t
    cases h.int
    exact ⟨j, rfl, h1, h2, q _ _ M1 H1 p s gives_range⟩
theorem ri_r2 (ha : RX K ta wa) : RI K (iRng2 ta) (fun ρ P => wa ρ fun ds => as2 ds fun d1 d2 => asI d1 fun i => asI d2 fun j => (-(2 ^ 62) ≤ i ∧ i < 2 ^ 62 ∧ -(2 ^ 62) ≤ j ∧ j < 2 ^ 62) ∧ P (rangeD i (j - i).toNat)) := by
  intro C M H σ ρ P R e hw q
  refine ha C M H σ ρ _ _ e hw fun vs ds M1 H1 p s hd => ?_
  obtain ⟨d, d', rfl, p⟩ := as2_of p
  obtain ⟨i, rfl, p⟩ := asI_of p
  obtain ⟨j, rfl, h1, p⟩ := asI_of p
  cases hd with
  | cons h t =>
    cases t with
    | cons h2 t =>
      cases t
      cases h.int
      cases h2.int
      exact ⟨i, j, rfl, h1, q _ _ M1 H1 p s gives_range⟩
theorem RX.conv {t : TA} {w w' : En → (List PyData → Prop) → Prop} (h : RX K t w) (f : ∀ ρ P, w' ρ P → w ρ P) : RX K t w' := fun C M H σ ρ P Q e hw q => h C M H σ ρ P Q e (f ρ P hw) q
/-- a reading that wants less of what it gives -/
structure Mono (w : En → (List PyData → Prop) → Prop) : Prop where
  up : ∀ ρ P P', (∀ ds, P ds → P' ds) → w ρ P → w ρ P'
theorem rx_up {w : En → (List PyData → Prop) → Prop} (h : RX K ta w) : RX K ta (fun ρ P => ∃ P', (∀ ds, P' ds → P ds) ∧ w ρ P') := fun C M H σ ρ P Q e hw q => by
  obtain ⟨P', f, hw⟩ := hw
  exact h C M H σ ρ P' Q e hw fun vs ds M' H' p => q vs ds M' H' (f _ p)
theorem rd_up {w : En → (List PyData → Prop) → Prop} (h : RD K ta w) : RD K ta (fun ρ P => ∃ P', (∀ ds, P' ds → P ds) ∧ w ρ P') := fun C M H σ ρ P Q e hw q => by
  obtain ⟨P', f, hw⟩ := hw
  exact h C M H σ ρ P' Q e hw fun vs ds M' H' p => q vs ds M' H' (f _ p)
theorem RI.conv {t : L2.TI} {w w' : En → (List PyData → Prop) → Prop} (h : RI K t w) (f : ∀ ρ P, w' ρ P → w ρ P) : RI K t w' := fun C M H σ ρ P R e hw q => h C M H σ ρ P R e (f ρ P hw) q
theorem ri_eT (ha : RX K ta wa) : RI K (iEnumT K ta) (fun ρ P => wa ρ fun ds => as1 ds fun d => asT d fun es => P (enumD es)) :=
  (ri_enumT (rx_up ha)).conv fun ρ P h => ⟨_, fun ds z => by
    obtain ⟨a, rfl, z⟩ := as1_of z
    obtain ⟨es, rfl, z⟩ := asT_of z
    exact ⟨es, rfl, z⟩, h⟩
theorem ri_eL (ha : RD K ta wa) : RI K (iEnum K ta) (fun ρ P => wa ρ fun ds => as1 ds fun d => asL d fun es => P (enumD es)) :=
  (ri_enum (rd_up ha)).conv fun ρ P h => ⟨_, fun ds z => by
    obtain ⟨a, rfl, z⟩ := as1_of z
    obtain ⟨es, rfl, z⟩ := asL_of z
    exact ⟨es, rfl, z⟩, h⟩
theorem ri_z (ha : RD K ta wa) : RI K (iZip K ta) (fun ρ P => wa ρ fun ds => as2 ds fun a b => asL a fun es => asL b fun fs => (∀ (i : Nat) (a b : PyData), es[i]? = some a → fs[i]? = some b → ixT [a, b] = false) ∧ P (zipD es fs)) :=
  (ri_zip (rd_up ha)).conv fun ρ P h => ⟨_, fun ds z => by
    obtain ⟨a, b, rfl, z⟩ := as2_of z
    obtain ⟨es, rfl, z⟩ := asL_of z
    obtain ⟨fs, rfl, z⟩ := asL_of z
    exact ⟨es, fs, rfl, z⟩, h⟩
end
/-! ### statements -/
section
variable {te : TE} {we : W} {ta : TA} {wa : En → (List PyData → Prop) → Prop}
theorem rs_app (i : Nat) (h : RE K te we) : RS K (tDrop (tBM K "list" rAppend (tVar i) (tCons te tNil))) (fun N ρ => gw ρ i fun ds => ds.length < 1000 ∧ we ρ fun d => N.nx (ρ.set i (some (.ow (ds ++ [d]))))) := (rs_append i h).imp fun N ρ h => gw_of h
theorem re_up {w : W} (h : RB K te w) : RB K te (fun ρ P => ∃ P', (∀ d, P' d → P d) ∧ w ρ P') := fun C M H σ ρ P Q e hw q => by
  obtain ⟨P', f, hw⟩ := hw
  exact h C M H σ ρ P' Q e hw fun v d M' H' p => q v d M' H' (f _ p)
theorem rs_ext (i : Nat) (h : RB K te we) : RS K (tDrop (tBM K "list" rExtend (tVar i) (tCons te tNil))) (fun N ρ => gw ρ i fun ds => we ρ fun d => asL d fun es => ds.length + es.length ≤ 1000 ∧ N.nx (ρ.set i (some (.ow (ds ++ es))))) := (rs_extend i (re_up h)).imp fun N ρ h => by
  obtain ⟨ds, e, h⟩ := gw_of h
  exact ⟨ds, e, _, fun d z => asL_of z, h⟩
theorem rs_rto (i : Nat) : RS K (tRet (tVar i)) (fun N ρ => gw ρ i fun ds => N.rt (.list ds)) := (rs_retO i).imp fun N ρ h => gw_of h
theorem rd_up2 {w : En → (List PyData → Prop) → Prop} (h : RD K ta w) : RD K ta (fun ρ P => ∃ P', (∀ ds, P' ds → P ds) ∧ w ρ P') := rd_up h
theorem rs_par2 (i j : Nat) (h : RD K ta wa) : RS K (tPar i j ta) (fun N ρ => wa ρ fun ds => as2 ds fun a b => N.nx ((ρ.set i (some (.im a))).set j (some (.im b)))) := (rs_par i j (rd_up h)).imp fun N ρ h => ⟨_, fun ds z => as2_of z, h⟩
end
/-! ### texts among small data -/
theorem Ok.str {x : Str} {n : Nat} (hx : ∀ c ∈ x.cps.toList, c < 0x110000) (hn : x.cps.toList.length ≤ n) : Ok n 0 (.str x) := by
  have h := OkW.str (fun c hc => Nat.lt_trans (hx c hc) (by decide)) hn
  refine ⟨h.sh, by simp [PyData.hasDict], ?_, h.sm, h.dep, h.wt⟩
  simp only [PyData.canLay0, PyData.strOk, Array.all_eq_true_iff_forall_mem, decide_eq_true_eq]
  intro c hc
  exact hx c (by simpa using hc)
end GL

/-! the data layer: loops, comprehensions over mapped lists; draws -/
namespace GL
open PySem PySem.Spec PyProof.Rows L2
theorem iteB {c : Bool} {A B : Prop} (f : c = true → A) (g : c = false → B) : if c = true then A else B := by
  cases c with
  | true => exact f rfl
  | false => exact g rfl
theorem ifT {c : Bool} {A B : Prop} (h : c = true) (a : A) : if c = true then A else B := by rw [if_pos h]; exact a
theorem ifF {c : Bool} {A B : Prop} (h : c = false) (b : B) : if c = true then A else B := by rw [h]; exact b
section
variable {α β : Type} {wwi : En → (List PyData → Prop) → Prop} {wg : PyData → En → (En → Prop) → Prop} {wt : En → (Bool → Prop) → Prop} {we : W} {vs : List Nat} {ρ : En} {P : List PyData → Prop}
theorem take_filter_map (p : α → Bool) (g : α → PyData) (l : List α) (i : Nat) (a : α) (h : l[i]? = some a) :
    ((l.take (i + 1)).filter p).map g = ((l.take i).filter p).map g ++ if p a = true then [g a] else [] := by
  rw [List.take_add_one, h, List.filter_append, List.map_append]
  congr 1
  cases e : p a <;> simp [e]
end
/-! ### for -/
structure WLcI (wg : PyData → En → (En → Prop) → Prop) (wt : En → (Bool → Prop) → Prop) (we : W) (vs : List Nat) (ρ : En) (P : List PyData → Prop) (ds : List PyData) : Prop where
  go : ds.length ≤ 1000 ∧ ∃ I : Nat → List PyData → Prop, I 0 [] ∧
    (∀ i d acc, ds[i]? = some d → I i acc → wg d (wipeD ρ vs) fun ρ' => wt ρ' fun b => if b = true then we ρ' fun y => I (i + 1) (acc ++ [y]) else I (i + 1) acc) ∧ ∀ acc, I ds.length acc → P acc
structure WLc (wwi : En → (List PyData → Prop) → Prop) (wg : PyData → En → (En → Prop) → Prop) (wt : En → (Bool → Prop) → Prop) (we : W) (vs : List Nat) (ρ : En) (P : List PyData → Prop) : Prop where
  go : wwi ρ fun ds => WLcI wg wt we vs ρ P ds
theorem ri_up {K : PySem.W.Frag} {t : L2.TI} {w : En → (List PyData → Prop) → Prop} (h : RI K t w) : RI K t (fun ρ P => ∃ P', (∀ ds, P' ds → P ds) ∧ w ρ P') := fun C M H σ ρ P R e hw q => by
  obtain ⟨P', f, hw⟩ := hw
  exact h C M H σ ρ P' R e hw fun ds J M1 H1 p => q ds J M1 H1 (f _ p)
theorem re_lcC {K : PySem.W.Frag} {wi : L2.TI} {g : TG} {tt : TT} {te : TE} {vs : List Nat} {S : List Nat} {wwi : En → (List PyData → Prop) → Prop} {wg : PyData → En → (En → Prop) → Prop} {wt : En → (Bool → Prop) → Prop} {we : W}
    (hi : RI K wi wwi) (hg : RG K g S wg) (hS : ∀ i ∈ S, i ∈ vs) (ht : RT K tt wt) (he : RE K te we) : RE K (tLc wi g tt te vs) (fun ρ P => WLc wwi wg wt we vs ρ fun ds => P (.list ds)) := (re_lc (ri_up hi) hg hS ht he).imp fun _ _ h => ⟨_, fun ds z => z.go, h.go⟩
theorem rs_ownLcC {K : PySem.W.Frag} (i : Nat) {wi : L2.TI} {g : TG} {tt : TT} {te : TE} {vs : List Nat} {S : List Nat} {wwi : En → (List PyData → Prop) → Prop} {wg : PyData → En → (En → Prop) → Prop} {wt : En → (Bool → Prop) → Prop} {we : W}
    (hi : RI K wi wwi) (hg : RG K g S wg) (hS : ∀ i ∈ S, i ∈ vs) (ht : RT K tt wt) (he : RE K te we) : RS K (tAsg (tLc wi g tt te vs) (gName i)) (fun N ρ => WLc wwi wg wt we vs ρ fun ds => N.nx (ρ.set i (some (.ow ds)))) := (rs_ownLc i (ri_up hi) hg hS ht he).imp fun _ _ h => ⟨_, fun ds z => z.go, h.go⟩
structure WForI (wg : PyData → En → (En → Prop) → Prop) (wt : Nd → En → Prop) (N : Nd) (ρ : En) (ds : List PyData) : Prop where
  go : ∃ I : Nat → En → Prop, Cl (I 0) ρ ∧ (∀ i d ρ', ds[i]? = some d → I i ρ' → wg d ρ' fun ρ2 => wt ⟨Cl (I (i + 1)), N.rt, N.nx, Cl (I (i + 1))⟩ ρ2) ∧ ∀ ρ', I ds.length ρ' → N.nx ρ'
structure wFor (wwi : En → (List PyData → Prop) → Prop) (wg : PyData → En → (En → Prop) → Prop) (wt : Nd → En → Prop) (N : Nd) (ρ : En) : Prop where
  go : wwi ρ fun ds => WForI wg wt N ρ ds
theorem rs_forC {K : PySem.W.Frag} {t : TS} {wt : Nd → En → Prop} {wi : L2.TI} {g : TG} {S : List Nat} {wwi : En → (List PyData → Prop) → Prop} {wg : PyData → En → (En → Prop) → Prop} (hi : RI K wi wwi) (hg : RG K g S wg) (hb : RS K t wt) :
    RS K (tFor wi g t) (fun N ρ => wFor wwi wg wt N ρ) := (rs_for (ri_up hi) hg hb).imp fun _ _ h => ⟨_, fun ds z => z.go, h.go⟩
structure wWhile (wc : En → (Bool → Prop) → Prop) (wt : Nd → En → Prop) (N : Nd) (ρ : En) : Prop where
  go : ∃ (I : En → Prop) (μ : En → Nat), Cl I ρ ∧ ∀ ρ', I ρ' → wc ρ' fun b => if b = true then wt ⟨Cl fun ρ2 => I ρ2 ∧ μ ρ2 < μ ρ', N.rt, N.nx, Cl fun ρ2 => I ρ2 ∧ μ ρ2 < μ ρ'⟩ ρ' else N.nx ρ'
theorem rs_whileC {K : PySem.W.Frag} {t : TS} {wt : Nd → En → Prop} {tc : TT} {wc : En → (Bool → Prop) → Prop} (h : RT K tc wc) (hb : RS K t wt) :
    RS K (tWhile tc t) (fun N ρ => wWhile wc wt N ρ) := (rs_while h hb).imp fun _ _ h => h.go
/-- for .. in a list of one's own: xs.extend(..), another one -/
structure WForX (i j : Nat) (wg : PyData → En → (En → Prop) → Prop) (we : W) (N : Nd) (ρ : En) : Prop where
  go : gw ρ i fun ds => ∃ I : Nat → En → Prop, I 0 ρ ∧ (∀ k d ρ', ds[k]? = some d → I k ρ' → wg d ρ' fun ρ2 => ρ2[i]? = some (some (.ow ds)) ∧ gw ρ2 j fun es => we ρ2 fun e => asL e fun fs => es.length + fs.length ≤ 1000 ∧ I (k + 1) (ρ2.set j (some (.ow (es ++ fs))))) ∧ ∀ ρ', I ds.length ρ' → N.nx ρ'
theorem rs_forX {K : PySem.W.Frag} {i j : Nat} (ij : i ≠ j) {g : TG} {S : List Nat} {te : TE} {we : W} {wg : PyData → En → (En → Prop) → Prop} (hg : RG K g S wg) (hS : i ∉ S) (he : RB K te we) :
    RS K (tFor (iList K (tVar i)) g (tDrop (tBM K "list" rExtend (tVar j) (tCons te tNil)))) (fun N ρ => WForX i j wg we N ρ) := by
  rintro C M H σ ρ N D e ⟨hw⟩ q1 q2 q3 q4
  obtain ⟨ds, hi, I, I0, IS, IE⟩ := gw_of hw
  obtain ⟨v, hv, p, vs, rfl, hm, hp, h0, ha⟩ := e.sl i _ hi
  refine ⟨_, hv, p, rfl, ⟨_, SqL.of hp⟩, ?_⟩
  have nbp : ∀ c, C.bg ≠ some (p, c) := notbag e.bg0 h0
  refine for_it (walk_list : Walk (Itl K p) vs.length (fun H => SqL K H p vs) (YAt vs)) (fun k σx Hx => ∃ ρx Mx, I k ρx ∧ ρx[i]? = some (some (.ow ds)) ∧ Same M Mx ∧ Ev K C Mx Hx σx ρx ∧ σx[i]? = some (some (.ref p)) ∧ Hx p = some (.lst vs)) ?_ ?_ ?_ ?_
  · exact ⟨ρ, M, I0, hi, Same.rf M, e, hv, hp⟩
  · rintro k σx Hx _ ⟨ρx, Mx, _, _, _, _, _, hx⟩
    exact SqL.of hx
  · rintro k x σx Hx Hy hk ⟨ρx, Mx, ix, hix, kx, ex, hsx, hpx⟩ ⟨rfl, hx⟩
    obtain ⟨d, hd, hu⟩ := ha.get' hx
    refine hg C Mx Hy σx ρx x d _ _ ex (du_same kx _ _ hu) (IS k d ρx hd ix) fun σ2 ρ2 p2 e2 w2 => ?_
    obtain ⟨hi2, p2⟩ := p2
    obtain ⟨es, hj, p2⟩ := gw_of p2
    have s2 : σ2[i]? = some (some (.ref p)) := by
      have := w2 S fun _ h => h
      have h1 := wipe_get σ2 S i
      rw [this, wipe_get, if_neg hS, if_neg hS] at h1
      rw [← h1, hsx]
    obtain ⟨u, hv2, r, us, rfl, hm2, hr, h02, hb⟩ := e2.sl j _ hj
    have pr : p ≠ r := fun z => e2.apart i j _ _ p ij hi2 rfl hj rfl s2 (by rw [hv2, z])
    refine ⟨_, hv2, tyV_lst hr, he C Mx Hy σ2 ρ2 _ _ e2 p2 fun v d M1 H1 p1 s1 d1 => ?_⟩
    have e1 := e2.step s1
    obtain ⟨fs, rfl, l, p1⟩ := asL_of p1
    obtain ⟨b, ws, rfl, hb2, ga⟩ := d1.list s1.vis
    refine ⟨r, b, us, ws, rfl, rfl, s1.fr r _ (notbag e2.bg0 h02) hr, hb2, by rw [hb.length, ga.length]; exact Nat.le_trans l (by decide), ?_⟩
    refine ⟨_, M1, p1, ?_, kx.trans s1.sm, e1.poke hj hv2 ((duA_same s1.sm _ _ hb).append ga), s2, ?_⟩
    · rw [List.getElem?_set_ne (Ne.symm ij)]
      exact hi2
    · rw [upd_ne pr]
      exact s1.fr p _ nbp hpx
  · rintro σx Hx ⟨ρx, Mx, ix, _, kx, ex, _⟩
    rw [ha.length] at ix
    exact q1 ρx Mx Hx σx (IE ρx ix) kx ex
section
variable {α β : Type} {wwi : En → (List PyData → Prop) → Prop} {wg : PyData → En → (En → Prop) → Prop} {wt : Nd → En → Prop} {ρ : En} {N : Nd}
theorem fori_l (f : α → PyData) (l : List α) (I : Nat → En → Prop) (h0 : I 0 ρ)
    (step : ∀ i a ρ', l[i]? = some a → I i ρ' → wg (f a) ρ' fun ρ2 => wt ⟨Cl (I (i + 1)), N.rt, N.nx, Cl (I (i + 1))⟩ ρ2) (fin : ∀ ρ', I l.length ρ' → N.nx ρ') : WForI wg wt N ρ (l.map f) := by
  refine ⟨I, Cl.here h0, fun i d ρ' hd hI => ?_, fun ρ' hI => fin ρ' (by rw [List.length_map] at hI; exact hI)⟩
  rw [List.getElem?_map] at hd
  cases e : l[i]? with
  | none => rw [e] at hd; cases hd
  | some a =>
    rw [e] at hd
    cases hd
    exact step i a ρ' e hI
theorem for_l (f : α → PyData) (l : List α) (src : ∀ P' : List PyData → Prop, P' (l.map f) → wwi ρ P') (I : Nat → En → Prop) (h0 : I 0 ρ)
    (step : ∀ i a ρ', l[i]? = some a → I i ρ' → wg (f a) ρ' fun ρ2 => wt ⟨Cl (I (i + 1)), N.rt, N.nx, Cl (I (i + 1))⟩ ρ2) (fin : ∀ ρ', I l.length ρ' → N.nx ρ') : wFor wwi wg wt N ρ := ⟨src _ (fori_l f l I h0 step fin)⟩
theorem for_e (f : α → PyData) (l : List α) (src : ∀ P' : List PyData → Prop, P' (enumD (l.map f)) → wwi ρ P') (I : Nat → En → Prop) (h0 : I 0 ρ)
    (step : ∀ i a ρ', l[i]? = some a → I i ρ' → wg (.tuple [.int (i : Nat), f a]) ρ' fun ρ2 => wt ⟨Cl (I (i + 1)), N.rt, N.nx, Cl (I (i + 1))⟩ ρ2) (fin : ∀ ρ', I l.length ρ' → N.nx ρ') : wFor wwi wg wt N ρ := by
  refine ⟨src _ ⟨I, Cl.here h0, fun i d ρ' hd hI => ?_, fun ρ' hI => fin ρ' (by rw [enumD_len, List.length_map] at hI; exact hI)⟩⟩
  cases e : l[i]? with
  | none =>
    unfold enumD at hd
    rw [List.getElem?_mapIdx, List.getElem?_map, e] at hd
    cases hd
  | some a =>
    rw [enumD_get (by rw [List.getElem?_map, e]; rfl)] at hd
    cases hd
    exact step i a ρ' e hI
end
section
variable {α β : Type} {wwi : En → (List PyData → Prop) → Prop} {wg : PyData → En → (En → Prop) → Prop} {wt : En → (Bool → Prop) → Prop} {we : W} {vs : List Nat} {ρ : En} {P : List PyData → Prop}
theorem lci_mf (f : α → PyData) (l : List α) (p : α → Bool) (g : α → PyData) (hl : l.length ≤ 1000)
    (step : ∀ a ∈ l, ∀ (acc : List PyData) (J : List PyData → Prop), (p a = true → J (acc ++ [g a])) → (p a = false → J acc) →
      wg (f a) (wipeD ρ vs) fun ρ' => wt ρ' fun b => if b = true then we ρ' fun y => J (acc ++ [y]) else J acc)
    (fin : P ((l.filter p).map g)) : WLcI wg wt we vs ρ P (l.map f) := by
  refine ⟨by rw [List.length_map]; exact hl, fun i acc => acc = ((l.take i).filter p).map g, rfl, fun i d acc hd hI => ?_, fun acc hI => ?_⟩
  · rw [List.getElem?_map] at hd
    cases e : l[i]? with
    | none => rw [e] at hd; cases hd
    | some a =>
      rw [e] at hd
      cases hd
      refine step a (List.mem_of_getElem? e) acc (fun acc => acc = ((l.take (i + 1)).filter p).map g) (fun h => ?_) (fun h => ?_)
      · rw [take_filter_map p g l i a e, if_pos h, hI]
      · rw [take_filter_map p g l i a e, if_neg (by rw [h]; exact Bool.false_ne_true), hI, List.append_nil]
  · rw [List.length_map, List.take_of_length_le (Nat.le_refl _)] at hI
    rw [hI]
    exact fin
theorem lc_mf (f : α → PyData) (l : List α) (p : α → Bool) (g : α → PyData) (hl : l.length ≤ 1000) (src : ∀ P' : List PyData → Prop, P' (l.map f) → wwi ρ P')
    (step : ∀ a ∈ l, ∀ (acc : List PyData) (J : List PyData → Prop), (p a = true → J (acc ++ [g a])) → (p a = false → J acc) →
      wg (f a) (wipeD ρ vs) fun ρ' => wt ρ' fun b => if b = true then we ρ' fun y => J (acc ++ [y]) else J acc)
    (fin : P ((l.filter p).map g)) : WLc wwi wg wt we vs ρ P := ⟨src _ (lci_mf f l p g hl step fin)⟩
end
section
variable {α : Type} {wwi : En → (List PyData → Prop) → Prop} {wg : PyData → En → (En → Prop) → Prop} {wt : En → (Bool → Prop) → Prop} {we : W} {vs : List Nat} {ρ : En} {P : List PyData → Prop}
/-- a comprehension that draws -/
theorem lc_dr (f : α → PyData) (l : List α) (R : PyData → Prop) (hl : l.length ≤ 1000) (src : ∀ P' : List PyData → Prop, P' (l.map f) → wwi ρ P')
    (step : ∀ a ∈ l, ∀ (acc : List PyData) (J : List PyData → Prop), (∀ d, R d → J (acc ++ [d])) → wg (f a) (wipeD ρ vs) fun ρ' => wt ρ' fun b => if b = true then we ρ' fun y => J (acc ++ [y]) else J acc)
    (fin : ∀ ds : List PyData, ds.length = l.length → (∀ d ∈ ds, R d) → P ds) : WLc wwi wg wt we vs ρ P := by
  refine ⟨src _ ⟨by rw [List.length_map]; exact hl, fun i acc => acc.length = i ∧ ∀ d ∈ acc, R d, ⟨rfl, fun _ z => nomatch z⟩, fun i d acc hd hI => ?_, fun acc hI => fin acc (by rw [hI.1, List.length_map]) hI.2⟩⟩
  rw [List.getElem?_map] at hd
  cases e : l[i]? with
  | none => rw [e] at hd; cases hd
  | some a =>
    rw [e] at hd
    cases hd
    refine step a (List.mem_of_getElem? e) acc (fun acc => acc.length = i + 1 ∧ ∀ d ∈ acc, R d) (fun d h => ⟨by rw [List.length_append, hI.1]; rfl, fun x hx => ?_⟩)
    rcases List.mem_append.mp hx with hx | hx
    · exact hI.2 x hx
    · rw [List.mem_singleton.mp hx]
      exact h
end
/-- a if c else b, told by one wish -/
structure WIf (wc : En → (Bool → Prop) → Prop) (wa wb : W) (ρ : En) (P : PyData → Prop) : Prop where
  go : wc ρ fun b => if b = true then wa ρ P else wb ρ P
theorem re_ifS {K : PySem.W.Frag} {tc : TT} {ta tb : TE} {wc : En → (Bool → Prop) → Prop} {wa wb : W} (h : RT K tc wc) (ha : RE K ta wa) (hb : RE K tb wb) : RE K (tIf tc ta tb) (fun ρ P => WIf wc wa wb ρ P) := (re_if h ha hb).imp fun _ _ h => h.go
theorem WIf.any {wc : En → (Bool → Prop) → Prop} {wa wb : W} {ρ : En} {P : PyData → Prop} (R : PyData → Prop) (hc : ∀ P' : Bool → Prop, (∀ b, P' b) → wc ρ P') (ha : ∀ P' : PyData → Prop, (∀ d, R d → P' d) → wa ρ P') (hb : ∀ P' : PyData → Prop, (∀ d, R d → P' d) → wb ρ P')
    (h : ∀ d, R d → P d) : WIf wc wa wb ρ P := ⟨hc _ fun b => by
  cases b with
  | true => exact ha P h
  | false => exact hb P h⟩
/-- whole numbers of some bound -/
def intB : PyData → Bool
  | .int i => decide (i.natAbs ≤ 10 ^ 10)
  | _ => false
theorem int_of {l : List PyData} (h : l.all intB = true) {d : PyData} (hd : d ∈ l) : ∃ i : Int, d = .int i ∧ i.natAbs ≤ 10 ^ 10 := by
  have := List.all_eq_true.mp h d hd
  cases d <;> first | (cases this; done) | exact ⟨_, rfl, of_decide_eq_true this⟩
theorem all_ints {R : Int → Prop} : ∀ {ds : List PyData}, (∀ d ∈ ds, ∃ n : Int, d = .int n ∧ R n) → ∃ ns : List Int, ds = ns.map .int ∧ ∀ n ∈ ns, R n
  | [], _ => ⟨[], rfl, fun _ z => nomatch z⟩
  | d :: ds, h => by
    obtain ⟨n, rfl, hn⟩ := h d List.mem_cons_self
    obtain ⟨ns, rfl, hs⟩ := all_ints fun e he => h e (List.mem_cons_of_mem _ he)
    exact ⟨n :: ns, rfl, fun m hm => by
      rcases List.mem_cons.mp hm with rfl | hm
      · exact hn
      · exact hs m hm⟩
/-- items with their places -/
theorem enumD_map {α : Type} (f : α → PyData) (l : List α) : enumD (l.map f) = l.zipIdx.map fun p => .tuple [.int (p.2 : Nat), f p.1] := by
  refine List.ext_getElem? fun i => ?_
  unfold enumD
  rw [List.getElem?_mapIdx, List.getElem?_map, List.getElem?_map, List.getElem?_zipIdx]
  cases l[i]? with
  | none => rfl
  | some a => simp
theorem zipD_map {α β : Type} (f : α → PyData) (g : β → PyData) (l : List α) (m : List β) : zipD (l.map f) (m.map g) = (l.zip m).map fun p => .tuple [f p.1, g p.2] := by
  unfold zipD
  refine List.ext_getElem? fun i => ?_
  rw [List.getElem?_zipWith, List.getElem?_map, List.getElem?_map, List.getElem?_map, List.zip, List.getElem?_zipWith]
  cases l[i]? with
  | none => rfl
  | some a =>
    cases m[i]? with
    | none => rfl
    | some b => rfl
/-! ### data -/
theorem inD_int (x : Int) (l : List Int) : inD (.int x) (l.map .int) = decide (x ∈ l) := by
  unfold inD
  induction l with
  | nil => rfl
  | cons n l ih =>
    rw [List.map_cons, List.any_cons, ih]
    by_cases h : n = x
    · simp [PyData.eqv, h]
    · have h' : ¬ x = n := fun e => h e.symm
      simp [PyData.eqv, h, h']
theorem inD_str (x : Str) (l : List Str) : inD (.str x) (l.map .str) = decide (x ∈ l) := by
  unfold inD
  induction l with
  | nil => rfl
  | cons n l ih =>
    rw [List.map_cons, List.any_cons, ih]
    by_cases h : n = x
    · simp [PyData.eqv, h]
    · have h' : ¬ x = n := fun e => h e.symm
      simp [PyData.eqv, h, h']
theorem flat_int (l : List Int) : (l.map PyData.int).all flatD = true := by
  induction l with
  | nil => rfl
  | cons n l ih => rw [List.map_cons, List.all_cons, ih]; rfl
theorem flat_str (l : List Str) : (l.map PyData.str).all flatD = true := by
  induction l with
  | nil => rfl
  | cons n l ih => rw [List.map_cons, List.all_cons, ih]; rfl
theorem hasDict_ints (l : List Int) : PyData.hasDictAll (l.map .int) = false := by
  induction l with
  | nil => rfl
  | cons n l ih => rw [List.map_cons, PyData.hasDictAll, ih]; rfl
theorem hd_ints (l : List Int) : (PyData.list (l.map .int)).hasDict = false := by rw [PyData.hasDict]; exact hasDict_ints l
theorem eqv_nil (l : List Int) : PyData.eqv (.list (l.map .int)) (.list []) = l.isEmpty := by
  cases l <;> simp [PyData.eqv, PyData.eqvAll]
/-- == of a list of whole numbers with [] -/
theorem eqD_ints {P : PyData → Prop} (l : List Int) (h : P (.bool l.isEmpty)) : (PyData.list (l.map .int)).hasDict = false ∧ (PyData.list []).hasDict = false ∧ SeqAt.shaped (PyData.list (l.map .int)) = true ∧ SeqAt.shaped (PyData.list []) = true ∧ P (.bool (PyData.eqv (.list (l.map .int)) (.list []))) :=
  ⟨by rw [PyData.hasDict]; exact hasDict_ints l, rfl, shaped_lints l, rfl, by rw [eqv_nil]; exact h⟩
theorem neD_ints {P : PyData → Prop} (l : List Int) (h : P (.bool (!l.isEmpty))) : (PyData.list (l.map .int)).hasDict = false ∧ (PyData.list []).hasDict = false ∧ SeqAt.shaped (PyData.list (l.map .int)) = true ∧ SeqAt.shaped (PyData.list []) = true ∧ P (.bool (!PyData.eqv (.list (l.map .int)) (.list []))) :=
  ⟨by rw [PyData.hasDict]; exact hasDict_ints l, rfl, shaped_lints l, rfl, by rw [eqv_nil]; exact h⟩
theorem perm_map {α : Type} {f : α → PyData} {ys : List PyData} : ∀ {l : List α}, ys.Perm (l.map f) → ∃ m : List α, ys = m.map f ∧ m.Perm l := by
  intro l h
  have : ∀ {xs ys : List PyData}, xs.Perm ys → ∀ {l : List α}, xs = l.map f → ∃ m : List α, ys = m.map f ∧ m.Perm l := by
    intro xs ys h
    induction h with
    | nil =>
      intro l e
      exact ⟨l, e, .refl _⟩
    | cons x _ ih =>
      intro l e
      cases l with
      | nil => cases e
      | cons a l =>
        rw [List.map_cons] at e
        injection e with e1 e2
        obtain ⟨m, rfl, p⟩ := ih e2
        exact ⟨a :: m, by rw [List.map_cons, e1], p.cons _⟩
    | swap x y t =>
      intro l e
      cases l with
      | nil => cases e
      | cons a l =>
        cases l with
        | nil => cases e
        | cons b l =>
          rw [List.map_cons, List.map_cons] at e
          injection e with e1 e2
          injection e2 with e2 e3
          exact ⟨b :: a :: l, by rw [List.map_cons, List.map_cons, e1, e2, e3], .swap _ _ _⟩
    | trans _ _ i1 i2 =>
      intro l e
      obtain ⟨m, e1, p⟩ := i1 e
      obtain ⟨n, e2, p2⟩ := i2 e1
      exact ⟨n, e2, p2.trans p⟩
  exact this h.symm rfl
theorem cut_map {α : Type} (f : α → PyData) (l : List α) (lo hi : Option Int) : ∃ m : List α, cutD (l.map f) lo hi = m.map f ∧ m.Sublist l ∧ m = (l.drop (HT.sIx l.length 0 lo)).take (HT.sIx l.length l.length hi - HT.sIx l.length 0 lo) := by
  unfold cutD
  refine ⟨(l.drop (HT.sIx l.length 0 lo)).take (HT.sIx l.length l.length hi - HT.sIx l.length 0 lo), ?_, (List.take_sublist _ _).trans (List.drop_sublist _ _), rfl⟩
  rw [List.length_map, ← List.map_drop, ← List.map_take]
theorem cut_to {α : Type} (f : α → PyData) (l : List α) (k : Nat) : cutD (l.map f) none (some (k : Int)) = (l.take k).map f := by
  obtain ⟨m, e, _, h⟩ := cut_map f l none (some (k : Int))
  rw [e, h]
  show (List.take (HT.sIx l.length l.length (some (k : Int)) - 0) (List.drop 0 l)).map f = _
  rw [HT.sIx_nat, Nat.sub_zero, List.drop_zero, List.take_eq_take_min, ← List.take_eq_take_min]
  congr 1
  rw [List.take_eq_take_iff]
  omega
theorem cut_toI {α : Type} (f : α → PyData) (l : List α) {j : Int} {k : Nat} (e : j = k) : cutD (l.map f) none (some j) = (l.take k).map f := by rw [e]; exact cut_to f l k
theorem cut_from {α : Type} (f : α → PyData) (l : List α) (k : Nat) : cutD (l.map f) (some (k : Int)) none = (l.drop k).map f := by
  obtain ⟨m, e, _, h⟩ := cut_map f l (some (k : Int)) none
  rw [e, h]
  show (List.take (l.length - HT.sIx l.length 0 (some (k : Int))) (List.drop (HT.sIx l.length 0 (some (k : Int))) l)).map f = _
  rw [HT.sIx_nat]
  congr 1
  by_cases z : k ≤ l.length
  · rw [Nat.min_eq_left z, List.take_of_length_le (by rw [List.length_drop]; omega)]
  · rw [Nat.min_eq_right (by omega), List.drop_eq_nil_of_le (Nat.le_refl _), List.drop_eq_nil_of_le (by omega), List.take_nil]
theorem cut_fromI {α : Type} (f : α → PyData) (l : List α) {j : Int} {k : Nat} (e : j = k) : cutD (l.map f) (some j) none = (l.drop k).map f := by rw [e]; exact cut_from f l k
theorem at_map {α : Type} {f : α → PyData} {l : List α} {i : Nat} {a : α} (h : l[i]? = some a) : atI (l.map f) (i : Int) = some (f a) := atI_nat (by rw [List.getElem?_map, h]; rfl)
theorem at_head {α : Type} {x : α} {l : List α} : atI (x :: l) 0 = some x := atI_nat (j := 0) rfl
theorem rangeD_map (lo : Int) (n : Nat) : rangeD lo n = (List.range n).map fun (i : Nat) => .int (lo + i) := rfl
theorem range_get {n i a : Nat} (h : (List.range n)[i]? = some a) : a = i ∧ i < n := by
  have l := (List.getElem?_eq_some_iff.mp h).1
  rw [List.length_range] at l
  rw [List.getElem?_range l] at h
  cases h
  exact ⟨rfl, l⟩
/-! ### readings with an equation to be given -/
theorem rx_listE {K : PySem.W.Frag} : RSl K (rSlL K) (fun a lo hi P => asL a fun ds => ∃ es, cutD ds lo hi = es ∧ P (.list es)) := rx_list.imp fun a lo hi P h => by
  cases a <;> first | exact h.elim | skip
  obtain ⟨es, rfl, h⟩ := h
  exact h
theorem rx_tupE {K : PySem.W.Frag} : RSl K (rSlA K) (fun a lo hi P => asT a fun ds => ∃ es, cutD ds lo hi = es ∧ (ixT es = true → es = ds) ∧ P (.tuple es)) := rx_tup.imp fun a lo hi P h => by
  cases a <;> first | exact h.elim | skip
  obtain ⟨es, rfl, h⟩ := h
  exact h
theorem rq_lenE {K : PySem.W.Frag} : RCb K (rLen2 K) (fun ds P => as1 ds fun a => asQ a fun es => ∃ n : Int, (es.length : Int) = n ∧ P (.int n)) := rq_len.imp fun ds P h => by
  obtain ⟨a, rfl, h⟩ := as1_of h
  cases a <;> first | exact h.elim | skip
  all_goals
    obtain ⟨es, rfl, h⟩ := h
    exact h
theorem Le.freeze {ρ : En} {i : Nat} {ds : List PyData} (h : ρ[i]? = some (some (.ow ds))) : Le ρ (ρ.set i (some (.im (.list ds)))) := ⟨List.length_set .., fun j x hx => by
  rcases get_set hx with ⟨rfl, rfl, _⟩ | ⟨_, h⟩
  · exact .inr (.inl ⟨ds, h, rfl⟩)
  · exact .inl h⟩
def iN (n : Nat) : PyData := .int (n : Nat)
theorem range_iN (n : Nat) : rangeD 0 n = (List.range n).map iN := by
  rw [rangeD_map]
  exact List.map_congr_left fun i _ => by unfold iN; rw [Int.zero_add]
theorem rg_iN {n : Nat} {P' : List PyData → Prop} {j : Int} (e : j = (n : Nat)) (h : P' ((List.range n).map iN)) : P' (rangeD 0 j.toNat) := by
  have : j.toNat = n := by omega
  rw [this, range_iN]
  exact h
/-- small whole numbers, or None -/
def smB : PyData → Bool
  | .none => true
  | .int i => decide (i.natAbs ≤ 1000)
  | _ => false
theorem sm_of {l : List PyData} (h : l.all smB = true) {d : PyData} (hd : d ∈ l) : d = .none ∨ ∃ i : Int, d = .int i ∧ i.natAbs ≤ 1000 := by
  have := List.all_eq_true.mp h d hd
  cases d <;> first | (cases this; done) | exact .inl rfl | exact .inr ⟨_, rfl, of_decide_eq_true this⟩
theorem sm_ok {d : PyData} (h : d = .none ∨ ∃ i : Int, d = .int i ∧ i.natAbs ≤ 1000) : Ok 41 0 d := by
  rcases h with rfl | ⟨i, rfl, h⟩
  · exact Ok.none.mono (by omega) (Nat.le_refl _)
  · exact Ok.int (by omega)
/-- one of some texts -/
theorem str_of {l : List Str} {d : PyData} (h : d ∈ l.map PyData.str) : ∃ x ∈ l, d = .str x := by
  obtain ⟨x, hx, rfl⟩ := List.mem_map.mp h
  exact ⟨x, hx, rfl⟩
theorem nat_of {l : List Nat} {d : PyData} (h : d ∈ l.map iN) : ∃ x ∈ l, d = iN x := by
  obtain ⟨x, hx, rfl⟩ := List.mem_map.mp h
  exact ⟨x, hx, rfl⟩
theorem hasDict_strs (l : List Str) : PyData.hasDictAll (l.map .str) = false := by
  induction l with
  | nil => rfl
  | cons n l ih => rw [List.map_cons, PyData.hasDictAll, ih]; rfl
theorem hd_strs (l : List Str) : (PyData.list (l.map .str)).hasDict = false := by rw [PyData.hasDict]; exact hasDict_strs l
theorem eqvS_nil (l : List Str) : PyData.eqv (.list (l.map .str)) (.list []) = l.isEmpty := by
  cases l <;> simp [PyData.eqv, PyData.eqvAll]
/-! ### the law -/
def spLaw (K : PySem.W.Frag) : Sp := fun vs H Q _ => ∃ (a : Addr) (ns : List Int), vs = [.ref a] ∧ SqL K H a (ns.map V.int) ∧ ns.length ≤ 63 ∧ ∀ H', Q (.bl true) H'
theorem law_start {K : PySem.W.Frag} {t : TS} {ws : Nd → En → Prop} (R : RS K t ws) {N : List Str} {n : Nat} (hN : N.length = n + 2) {a : Addr} {ns : List Int} {H : Hp} {Q : VK} (hS : SqL K H a (ns.map V.int)) (h63 : ns.length ≤ 63) (q : ∀ H', Q (.bl true) H')
    (hw : ws ⟨fun _ => False, fun d => d = .bool true, fun _ => False, fun _ => False⟩ (none :: some .bag :: List.replicate n none)) :
    tSeq (tAsg (tCall (spBag K) [] (fun _ _ _ => False) (tCons (tVar 0) tNil)) (gName 1)) t { nx := fun _ H' => Q .non H', rt := Q } (L2.start N [.ref a]) H := by
  refine ⟨.ref a, start_get rfl, a, ns, rfl, hS, h63, fun b c H' km nb nc hB => ?_⟩
  have e : (L2.start N [.ref a]).set 1 (some (.ref b)) = some (.ref a) :: some (.ref b) :: List.replicate n none := by
    unfold L2.start
    rw [hN]
    rfl
  have ev : Ev K ⟨some (b, c), fun _ => none, H'⟩ (fun _ => none) H' ((L2.start N [.ref a]).set 1 (some (.ref b))) (none :: some .bag :: List.replicate n none) := by
    rw [e]
    refine ⟨by simp, (fun _ _ z => nomatch z), (fun b' c' z => ?_), (fun b' c' z => ?_), (fun _ _ _ h => h), (fun _ _ z => nomatch z), (fun _ _ _ => rfl), (fun _ h => h), (fun i x hx => ?_), (fun i j x y p _ h1 o1 => ?_)⟩
    · cases z
      exact ⟨hB, rfl⟩
    · cases z
      obtain ⟨_, h1⟩ := hB.lst
      obtain ⟨_, _, h2⟩ := hB.cell
      exact ⟨by show H' b ≠ none; rw [h1]; exact fun z => (nomatch z), by show H' c ≠ none; rw [h2]; exact fun z => (nomatch z)⟩
    · match i, hx with
      | 0, hx => cases hx
      | 1, hx =>
        cases hx
        exact ⟨_, rfl, b, c, rfl, rfl⟩
      | i + 2, hx =>
        rw [List.getElem?_cons_succ, List.getElem?_cons_succ, List.getElem?_replicate] at hx
        split at hx <;> cases hx
    · match i, h1 with
      | 0, hx => cases hx
      | 1, hx =>
        cases hx
        cases o1
      | i + 2, hx =>
        rw [List.getElem?_cons_succ, List.getElem?_cons_succ, List.getElem?_replicate] at hx
        split at hx <;> cases hx
  refine R _ _ H' _ _ _ _ ev hw (fun _ _ _ _ z => z.elim) (fun v d M1 H1 hd _ hu => ?_) (fun _ _ _ _ z => z.elim) (fun _ _ _ _ z => z.elim)
  subst hd
  cases hu
  exact q H1
theorem eqv_str (x : Str) : PyData.eqv (.str x) (.str x) = true := by simp [PyData.eqv]
theorem eqv_bool (x : Bool) : PyData.eqv (.bool x) (.bool x) = true := by simp [PyData.eqv]
end GL

/-! the data layer: isinstance, all, min and max, sorted texts, zip of tuples, repr and == of any small datum, powers, {} -/
namespace GL
open PySem PySem.Spec PyProof.Rows L2
variable {K : PySem.W.Frag}
/-! ### isinstance -/
def tyN : PyData → String
  | .none => "NoneType"
  | .bool _ => "bool"
  | .int _ => "int"
  | .str _ => "str"
  | .list _ => "list"
  | .tuple _ => "tuple"
  | .dict _ => "dict"
def isInt : PyData → Bool
  | .bool _ => true
  | .int _ => true
  | _ => false
def isBool : PyData → Bool
  | .bool _ => true
  | _ => false
def isTup : PyData → Bool
  | .tuple _ => true
  | _ => false
theorem kit_int : ∀ d : PyData, kitB (tyN d) "int" = some (isInt d)
  | .none => (by decide +kernel : kitB "NoneType" "int" = some false)
  | .bool _ => (by decide +kernel : kitB "bool" "int" = some true)
  | .int _ => (by decide +kernel : kitB "int" "int" = some true)
  | .str _ => (by decide +kernel : kitB "str" "int" = some false)
  | .list _ => (by decide +kernel : kitB "list" "int" = some false)
  | .tuple _ => (by decide +kernel : kitB "tuple" "int" = some false)
  | .dict _ => (by decide +kernel : kitB "dict" "int" = some false)
theorem kit_bool : ∀ d : PyData, kitB (tyN d) "bool" = some (isBool d)
  | .none => (by decide +kernel : kitB "NoneType" "bool" = some false)
  | .bool _ => (by decide +kernel : kitB "bool" "bool" = some true)
  | .int _ => (by decide +kernel : kitB "int" "bool" = some false)
  | .str _ => (by decide +kernel : kitB "str" "bool" = some false)
  | .list _ => (by decide +kernel : kitB "list" "bool" = some false)
  | .tuple _ => (by decide +kernel : kitB "tuple" "bool" = some false)
  | .dict _ => (by decide +kernel : kitB "dict" "bool" = some false)
theorem kit_tup : ∀ d : PyData, kitB (tyN d) "tuple" = some (isTup d)
  | .none => (by decide +kernel : kitB "NoneType" "tuple" = some false)
  | .bool _ => (by decide +kernel : kitB "bool" "tuple" = some false)
  | .int _ => (by decide +kernel : kitB "int" "tuple" = some false)
  | .str _ => (by decide +kernel : kitB "str" "tuple" = some false)
  | .list _ => (by decide +kernel : kitB "list" "tuple" = some false)
  | .tuple _ => (by decide +kernel : kitB "tuple" "tuple" = some true)
  | .dict _ => (by decide +kernel : kitB "dict" "tuple" = some false)
theorem tyx_of {bg : Bg} {M H : Hp} {v : V} {d : PyData} (k : Same M H) (h : Sh K bg M H v d) : TyX K H v (.type (tyN d)) := by
  rcases h with h | ⟨p, vs, ds, rfl, rfl, _, hp, _⟩
  · cases h with
    | non => exact .base .non
    | bl b => exact .base (.bl b)
    | int i => exact .base (.int i)
    | str x => exact .base (.str x)
    | lst a _ => exact .base (.lst (k _ _ a))
    | tup a _ _ =>
      rcases (TupK.same k _ _ _ a) with (e | ⟨o, e⟩) | ⟨o, its, n, e, c, _⟩
      · exact .base (.tup e)
      · exact .fTuple e
      · exact .kTuple e c
    | dk a _ _ => exact .base (.dK (k _ _ a))
    | dt _ a => exact .base (.dT (k _ _ a))
  · exact .base (.lst hp)
section
variable {te : TE} {we : W}
theorem re_isi {T : String} {f : PyData → Bool} (hf : ∀ d, kitB (tyN d) T = some (f d)) (h : RB K te we) : RE K (tCB (rIsi K) (tCons te (tCons (tC (.ty T)) tNil))) (fun ρ P => we ρ fun d => P (.bool (f d))) := by
  intro C M H σ ρ P Q e hw q
  refine h C M H σ ρ _ _ e hw fun v d M1 H1 p1 s1 d1 => ?_
  exact ⟨v, .ty T, .type (tyN d), .type T, f d, rfl, .ty T, tyx_of s1.vis d1, kit_ty (hf d), q _ _ M1 H1 p1 s1 (.bl _)⟩
/-- {} -/
theorem re_dnew : RE K tDNewK (fun _ P => P (.dict [])) := by
  intro C M H σ ρ P Q e p q z nz
  have s := Stp.new (bg := C.bg) e.vis nz (.dK [])
  exact q _ _ _ _ p s (.dk upd_same List.nodup_nil .nil)
end
/-! ### built-ins -/
theorem bls_vals {M : Hp} : ∀ {ys : List Bool} {vs : List V}, DuAll K M vs (ys.map .bool) → vs = ys.map V.bl
  | [], _, h => by cases h; rfl
  | y :: ys, _, h => by
    cases h with
    | cons a b =>
      cases a
      rw [List.map_cons, bls_vals b]
theorem ints_vals {M : Hp} : ∀ {ys : List Int} {vs : List V}, DuAll K M vs (ys.map .int) → vs = ys.map V.int
  | [], _, h => by cases h; rfl
  | y :: ys, _, h => by
    cases h with
    | cons a b =>
      cases a
      rw [List.map_cons, ints_vals b]
theorem du_strs {M : Hp} : ∀ (ys : List Str), DuAll K M (ys.map V.str) (ys.map .str)
  | [] => .nil
  | y :: ys => .cons (.str y) (du_strs ys)
theorem rq_all : RCb K (rAll K) (fun ds P => as1 ds fun a => asL a fun es => ∃ bs : List Bool, es = bs.map .bool ∧ P (.bool (bs.all id))) := by
  intro bg M H xs ds P Q k hx h q
  obtain ⟨a, rfl, g⟩ := as1_of h
  obtain ⟨es, rfl, bs, rfl, gg⟩ := asL_of g
  cases hx with
  | cons h1 t =>
    cases t
    obtain ⟨p, vs, rfl, hp, ha⟩ := h1.list k
    rw [bls_vals ha] at hp
    exact ⟨p, bs, rfl, SqL.of hp, q _ _ M H gg (.refl k) (.bl _)⟩
theorem rq_max : RCb K (rMax K) (fun ds P => as1 ds fun a => asL a fun es => ∃ ns : List Int, es = ns.map .int ∧ ns ≠ [] ∧ ∀ m, m ∈ ns → (∀ y, y ∈ ns → y ≤ m) → P (.int m)) := by
  intro bg M H xs ds P Q k hx h q
  obtain ⟨a, rfl, g⟩ := as1_of h
  obtain ⟨es, rfl, ns, rfl, ne, gg⟩ := asL_of g
  cases hx with
  | cons h1 t =>
    cases t
    obtain ⟨p, vs, rfl, hp, ha⟩ := h1.list k
    rw [ints_vals ha] at hp
    exact ⟨p, ns, rfl, SqL.of hp, List.length_pos_iff.mpr ne, fun m h1 h2 => q _ _ M H (gg m h1 h2) (.refl k) (.int _)⟩
theorem rq_min : RCb K (rMin K) (fun ds P => as1 ds fun a => asL a fun es => ∃ ns : List Int, es = ns.map .int ∧ ns ≠ [] ∧ ∀ m, m ∈ ns → (∀ y, y ∈ ns → m ≤ y) → P (.int m)) := by
  intro bg M H xs ds P Q k hx h q
  obtain ⟨a, rfl, g⟩ := as1_of h
  obtain ⟨es, rfl, ns, rfl, ne, gg⟩ := asL_of g
  cases hx with
  | cons h1 t =>
    cases t
    obtain ⟨p, vs, rfl, hp, ha⟩ := h1.list k
    rw [ints_vals ha] at hp
    exact ⟨p, ns, rfl, SqL.of hp, List.length_pos_iff.mpr ne, fun m h1 h2 => q _ _ M H (gg m h1 h2) (.refl k) (.int _)⟩
def oD : Option Int → PyData
  | none => .none
  | some i => .int i
theorem oD_isNone (o : Option Int) : isNone (oD o) = o.isNone := by cases o <;> rfl
/-- min(xs, default=None), max(..) -/
theorem re_best {ta tk : TA} {wa : En → (List PyData → Prop) → Prop} {R : List Int → Option Int → Prop} (ha : RX K ta wa) :
    RE K (tCKw (rBestU K R) ta (tCons (tC .non) tNil)) (fun ρ P => wa ρ fun ds => as1 ds fun a => asL a fun es => ∃ ns : List Int, es = ns.map .int ∧ ∀ o, R ns o → P (oD o)) := by
  intro C M H σ ρ P Q e hw q
  refine ha C M H σ ρ _ _ e hw fun vs ds M1 H1 p1 s1 d1 => ?_
  obtain ⟨a, rfl, g⟩ := as1_of p1
  obtain ⟨es, rfl, ns, rfl, gg⟩ := asL_of g
  cases d1 with
  | cons h1 t =>
    cases t
    obtain ⟨p, vs, rfl, hp, ha⟩ := h1.list s1.vis
    rw [ints_vals ha] at hp
    refine ⟨p, ns, rfl, rfl, SqL.of hp, fun o ho => ?_⟩
    have := gg o ho
    cases o with
    | none => exact q _ _ M1 H1 this s1 .non
    | some i => exact q _ _ M1 H1 this s1 (.int i)
theorem rq_sortS : RCb K (rSortedS K) (fun ds P => as1 ds fun a => asL a fun es => ∃ ns : List Str, es = ns.map .str ∧ ns.length < 64 ∧ ∀ ys : List Str, ys.Perm ns → sortedS ys = true → P (.list (ys.map .str))) := by
  intro bg M H xs ds P Q k hx h q
  obtain ⟨a, rfl, g⟩ := as1_of h
  obtain ⟨es, rfl, ns, rfl, l, gg⟩ := asL_of g
  cases hx with
  | cons h1 t =>
    cases t
    obtain ⟨p, vs, rfl, hp, ha⟩ := h1.list k
    rw [strs_vals ha] at hp
    refine ⟨p, ns, rfl, SqL.of hp, l, fun ys z pm so nz => ?_⟩
    have s := Stp.new (bg := bg) k nz (.lst (ys.map V.str))
    exact q _ _ _ _ (gg ys pm so) s (.lst upd_same (du_strs ys))
/-! ### zip of tuples -/
theorem walk_zipTT {a b : Addr} {xs ys : List V} {n : Nat} (hn : n = min xs.length ys.length) : Walk (RZ.ItzT K a b) n (fun H => SqT K H a xs ∧ SqT K H b ys) (YPair (fun i => xs[i]?) (fun i => ys[i]?)) := by
  refine ⟨fun i H hi q => ⟨xs, ys, xs[i]'(by omega), ys[i]'(by omega), q.1, q.2, by simp, by simp⟩, fun H q => ⟨xs, ys, q.1, q.2, by omega⟩, ?_⟩
  rintro i H v H' _ q ⟨p, x, y, h1, h2, h3, h4, h5⟩
  exact ⟨p, x, y, h1, h2, h3, h4 xs q.1, h5 ys q.2⟩
theorem ri_zT {ta : TA} {wa : En → (List PyData → Prop) → Prop} (ha : RX K ta wa) : RI K (RZ.iZipA K ta) (fun ρ P => wa ρ fun ds => as2 ds fun a b => asT a fun es => asT b fun fs => (∀ (i : Nat) (a b : PyData), es[i]? = some a → fs[i]? = some b → ixT [a, b] = false) ∧ P (zipD es fs)) := by
  intro C M H σ ρ P R e hw q
  refine ha C M H σ ρ _ _ e hw fun vs ds M1 H1 p s hd => ?_
  obtain ⟨a, b, rfl, p1⟩ := as2_of p
  obtain ⟨es, rfl, p2⟩ := asT_of p1
  obtain ⟨fs, rfl, no, p3⟩ := asT_of p2
  cases hd with
  | cons h t =>
    cases t with
    | cons h2 t =>
      cases t
      have h := h.im
      have h2 := h2.im
      cases h with
      | @tup a xs _ hs ha _ =>
        cases h2 with
        | @tup b ys _ gs ga _ =>
          refine ⟨a, b, xs, ys, rfl, .inr ⟨TupK.same s.vis _ _ _ hs, TupK.same s.vis _ _ _ gs, q _ _ M1 H1 p3 s ⟨fun H => SqT K H a xs ∧ SqT K H b ys, _, walk_zipTT (by unfold zipD; rw [List.length_zipWith, ha.length, ga.length]), fun M' H' k1 k2 => ⟨TupK.same k2 _ _ _ (TupK.same k1 _ _ _ hs), TupK.same k2 _ _ _ (TupK.same k1 _ _ _ gs)⟩, ?_⟩⟩⟩
          rintro i M' H' x H'' _ k1 k2 ⟨T, v, u, rfl, hT, rfl, hv, hu⟩
          obtain ⟨d, hd, hv'⟩ := ha.get' hv
          obtain ⟨d2, hd2, hu'⟩ := ga.get' hu
          obtain ⟨M'', s', hp⟩ := pair_new (K := K) k2 hT (du_same k1 _ _ hv') (du_same k1 _ _ hu') (no i d d2 hd hd2)
          refine ⟨M'', _, s', ?_, hp⟩
          unfold zipD
          rw [List.getElem?_zipWith, hd, hd2]
/-! ### powers, repr, == of any small datum -/
theorem rp_pow : ROp K (rI CPow fun i j => .int (i ^ j.toNat)) (fun a b P => match a, b with | .int i, .int j => (0 ≤ j ∧ j ≤ 1000 ∧ i.natAbs ≤ 1000) ∧ P (.int (i ^ j.toNat)) | _, _ => False) := by
  intro bg M H x y a b P Q k hx hy h q
  split at h
  · obtain ⟨⟨h1, h2, h3⟩, p⟩ := h
    exact ⟨_, _, hx.int, hy.int, ⟨h1, by omega, by omega⟩, q _ _ M H p (.refl k) (.int _)⟩
  · exact h.elim
def rReprX (K : PySem.W.Frag) : List V → Hp → VK → Prop := fun xs H Q => rRepr K xs H Q ∨ rReprW K xs H Q
theorem call_reprX {X : Cx} (hG : X.A.guards = some []) (hu : X.A.units + 64 < cLine) : CallR X (.builtin "repr") (rReprX X.K) := fun pins s σ H xs us Q I r h =>
  h.elim (fun h => call_reprD hG hu pins s σ H xs us Q I r h) fun h => call_reprW hG hu pins s σ H xs us Q I r h
theorem rq_reprX : RCb K (rReprX K) (fun ds P => as1 ds fun a => ((Shows a ∧ itemsD a ≠ none) ∨ (ShowsW a ∧ (flatD a = true ∨ a = .dict []))) ∧ P (.str a.shown)) := by
  intro bg M H xs ds P Q k hx h q
  obtain ⟨a, rfl, h, p⟩ := as1_of h
  rcases h with ⟨h1, h2⟩ | ⟨h1, h2⟩
  · exact .inl (rq_repr bg M H xs [a] P Q k hx ⟨h1, h2, p⟩ q)
  · refine .inr ?_
    cases hx with
    | cons h t =>
      cases t
      refine ⟨_, a, rfl, ?_, h1, q _ _ M H p (.refl k) (.str _)⟩
      rcases h2 with f | rfl
      · have := h.du f
        cases this <;> first | (cases f; done) | exact .non | exact .bl _ | exact .int _ | exact .str _
      · rcases h with h | ⟨_, _, _, _, e, _⟩
        · cases h with
          | dk a b c =>
            cases c
            exact .dk (k _ _ a) b .nil
          | dt e _ => cases e
        · cases e
/-- the same datum twice -/
def spAlikeX (K : PySem.W.Frag) : Sp := fun vs H Q _ => ∃ (v u : V) (d : PyData), vs = [v, u] ∧ Dp K H v d ∧ Dp K H u d ∧ SeqAt.shaped d = true ∧ Shows d ∧ Q (.bl true) H
def wAlikeX : List DV → (PyData → Prop) → Prop := fun ds P => ∃ d, ds = [.im d, .im d] ∧ SeqAt.shaped d = true ∧ Shows d ∧ P (.bool true)
theorem alikeX_w {P : Program} {w : World} {mg : Str → Option Value} {base : Heap} {k : Nat} {x : Str} (c : Cal P w K mg base k x (spAlikeX K)) : Cal P w K mg base k x (spW K wAlikeX) := by
  refine cal_to c ?_
  rintro vs H Q E ⟨bg, M, ds, P, km, g, a, ⟨d, rfl, sh, so, p⟩, q⟩
  cases a with
  | cons a1 a2 =>
    cases a2 with
    | cons a2 a3 =>
      cases a3
      exact ⟨_, _, d, rfl, du_dp km _ _ so.2.1 a1, du_dp km _ _ so.2.1 a2, sh, so, q _ _ M H p (.refl km) (.bl _)⟩
theorem dp_repr {H : Hp} {v : V} {d : PyData} {Q : VK} (h : Dp K H v d) (so : Shows d) (q : Q (.str d.shown) H) : rReprX K [v] H Q := by
  have sw : ShowsW d := ⟨so.1, so.2.2.1, so.2.2.2⟩
  cases h with
  | non => exact .inr ⟨_, _, rfl, .non, sw, q⟩
  | bl b => exact .inr ⟨_, _, rfl, .bl b, sw, q⟩
  | int i => exact .inr ⟨_, _, rfl, .int i, sw, q⟩
  | str x => exact .inr ⟨_, _, rfl, .str x, sw, q⟩
  | lst a b => exact .inl ⟨_, _, rfl, .lst a b, so, ⟨_, rfl⟩, q⟩
  | tup a b => exact .inl ⟨_, _, rfl, .tup a b, so, ⟨_, rfl⟩, q⟩
end GL

namespace LW
open PySem PySem.Spec PyProof.Rows L2 GL
/-! what is said of questions -/
abbrev Atm := Str × Str × List Str
def atD (a : Atm) : PyData := .tuple [.str a.1, .str a.2.1, .tuple (a.2.2.map .str)]
abbrev Rng := Str × Option Int × Option Int
def rD (r : Rng) : PyData := .tuple [.str r.1, oD r.2.1, oD r.2.2]
structure Qs where
  cs : List Str
  as : List Atm
  rs : List Rng
def qD (q : Qs) : PyData := .tuple [.tuple (q.cs.map .str), .tuple (q.as.map atD), .tuple (q.rs.map rD)]
def holds (c : Str) (p : Atm × Nat) : Bool := decide (c ∈ p.1.2.2)
def idx (as : List Atm) (c : Str) : List Int := (as.zipIdx.filter (holds c)).map fun p => (p.2 : Int)
theorem idx_D (as : List Atm) (c : Str) : (as.zipIdx.filter (holds c)).map (fun p => PyData.int (p.2 : Nat)) = (idx as c).map .int := by unfold idx; rw [List.map_map]; rfl
theorem idx_len (as : List Atm) (c : Str) : (idx as c).length ≤ as.length := by
  unfold idx
  rw [List.length_map]
  exact Nat.le_trans (List.length_filter_le _ _) (by rw [List.length_zipIdx]; exact Nat.le_refl _)
theorem idx_mem {as : List Atm} {c : Str} {i : Int} : i ∈ idx as c ↔ ∃ (n : Nat) (a : Atm), i = n ∧ as[n]? = some a ∧ c ∈ a.2.2 := by
  unfold idx
  constructor
  · intro h
    obtain ⟨p, hp, rfl⟩ := List.mem_map.mp h
    obtain ⟨h1, h2⟩ := List.mem_filter.mp hp
    refine ⟨p.2, p.1, rfl, ?_, of_decide_eq_true h2⟩
    have := List.mk_mem_zipIdx_iff_getElem?.mp (show (p.1, p.2) ∈ as.zipIdx from h1)
    exact this
  · rintro ⟨n, a, rfl, h1, h2⟩
    exact List.mem_map.mpr ⟨(a, n), List.mem_filter.mpr ⟨List.mk_mem_zipIdx_iff_getElem?.mpr h1, decide_eq_true h2⟩, rfl⟩
theorem nodup_map_of {α β : Type} {f : α → β} {l : List α} (h : l.Nodup) (inj : ∀ a ∈ l, ∀ b ∈ l, f a = f b → a = b) : (l.map f).Nodup := by
  induction l with
  | nil => exact List.nodup_nil
  | cons a l ih =>
    rw [List.map_cons, List.nodup_cons]
    rw [List.nodup_cons] at h
    refine ⟨fun z => ?_, ih h.2 fun x hx y hy => inj x (List.mem_cons_of_mem _ hx) y (List.mem_cons_of_mem _ hy)⟩
    obtain ⟨b, hb, e⟩ := List.mem_map.mp z
    have := inj b (List.mem_cons_of_mem _ hb) a List.mem_cons_self e
    rw [this] at hb
    exact h.1 hb
theorem zipIdx_pw {α : Type} (l : List α) : ∀ n, (l.zipIdx n).Pairwise (fun a b => a.2 < b.2) ∧ ∀ a ∈ l.zipIdx n, n ≤ a.2 := by
  induction l with
  | nil => exact fun n => ⟨List.Pairwise.nil, fun _ z => nomatch z⟩
  | cons x l ih =>
    intro n
    obtain ⟨h1, h2⟩ := ih (n + 1)
    rw [List.zipIdx_cons]
    refine ⟨List.pairwise_cons.mpr ⟨fun a ha => Nat.lt_of_succ_le (h2 a ha), h1⟩, fun a ha => ?_⟩
    rcases List.mem_cons.mp ha with rfl | ha
    · exact Nat.le_refl _
    · exact Nat.le_of_succ_le (h2 a ha)
theorem idx_nodup (as : List Atm) (c : Str) : (idx as c).Nodup := by
  unfold idx
  have h := ((zipIdx_pw as 0).1.sublist (List.filter_sublist (p := holds c)))
  have h2 : ((as.zipIdx.filter (holds c)).map fun p => (p.2 : Int)).Pairwise (· < ·) := by
    rw [List.pairwise_map]
    exact h.imp fun h => by omega
  exact h2.imp fun h e => by omega
/-! the promises -/
def wAtoms : List DV → (PyData → Prop) → Prop := fun ds P => ∃ (q : Qs) (c : Str), ds = [.im (qD q), .im (.str c)] ∧ q.as.length ≤ 1000 ∧ P (.tuple ((idx q.as c).map .int))
def wAtomsL : List DV → (PyData → Prop) → Prop := fun ds P => ∃ (q : Qs) (c : Str), ds = [.im (qD q), .im (.str c)] ∧ q.as.length ≤ 1000 ∧ P (.list ((idx q.as c).map .int))
theorem lenatoms_of (ds : List DV) (P : PyData → Prop) (h : wAtoms ds P) : ds.length = 2 := by obtain ⟨_, _, rfl, _⟩ := h; rfl
theorem len_law_atoms_of (ds : List DV) (P : PyData → Prop) (h : wAtomsL ds P) : ds.length = 2 := by obtain ⟨_, _, rfl, _⟩ := h; rfl
/-! forests -/
inductive Anc (par : List (Option Nat)) : Nat → Nat → Prop
  | here (a : Nat) : Anc par a a
  | up {a p b : Nat} : par[b]? = some (some p) → Anc par a p → Anc par a b
theorem Anc.two {par : List (Option Nat)} {a b c : Nat} (h : Anc par a c) : Anc par b c → Anc par a b ∨ Anc par b a := by
  induction h with
  | here => exact fun h => .inr h
  | @up p q e h ih =>
    intro g
    cases g with
    | here => exact .inl (.up e h)
    | up e2 g =>
      rw [e] at e2
      cases e2
      exact ih g
theorem Anc.trans {par : List (Option Nat)} {a b c : Nat} (h : Anc par a b) (g : Anc par b c) : Anc par a c := by
  induction g with
  | here => exact h
  | up e _ ih => exact .up e ih
theorem Anc.step {par : List (Option Nat)} {h p : Nat} (e : par[h]? = some (some p)) (a : Nat) : Anc par a h ↔ a = h ∨ Anc par a p := by
  constructor
  · intro g
    cases g with
    | here => exact .inl rfl
    | up e2 g =>
      rw [e] at e2
      cases e2
      exact .inr g
  · rintro (rfl | g)
    · exact .here _
    · exact .up e g
theorem Anc.root {par : List (Option Nat)} {h : Nat} (e : par[h]? = some none) (a : Nat) : Anc par a h ↔ a = h := by
  constructor
  · intro g
    cases g with
    | here => rfl
    | up e2 g => rw [e] at e2; cases e2
  · rintro rfl
    exact .here _
def PrOk (par : List (Option Nat)) : Prop := ∀ i p : Nat, par[i]? = some (some p) → p < i
def oN : Option Nat → PyData
  | none => .none
  | some n => .int (n : Nat)
theorem oN_isNone (o : Option Nat) : isNone (oN o) = o.isNone := by cases o <;> rfl
/-- the columns of an atom: a line from a root -/
def Line (names : List Str) (par : List (Option Nat)) (cols : List Str) : Prop := ∃ at_, ∀ x, x ∈ cols ↔ ∃ a, Anc par a at_ ∧ names[a]? = some x
def Nest (as : List Atm) : Prop := ∃ (names : List Str) (par : List (Option Nat)), names.Nodup ∧ ∀ a ∈ as, Line names par a.2.2
theorem nodup_get {α : Type} {l : List α} (h : l.Nodup) {i j : Nat} {x : α} (hi : l[i]? = some x) (hj : l[j]? = some x) : i = j := by
  have li := (List.getElem?_eq_some_iff.mp hi).1
  exact (List.getElem?_inj li h).mp (by rw [hi, hj])
/-! small questions -/
def SmS (x : Str) : Prop := (∀ c ∈ x.cps.toList, c < 0x110000) ∧ x.cps.toList.length ≤ 10
def tb8 : List Str := [Str.ofString "r", Str.ofString "s", Str.ofString "t", Str.ofString "u", Str.ofString "v", Str.ofString "w", Str.ofString "p", Str.ofString "q7"]
structure AOk (a : Atm) : Prop where
  w : SmS a.1
  t : a.2.1 ∈ tb8
  n : a.2.2.length ≤ 6
  c : ∀ x ∈ a.2.2, SmS x
def SmO (o : Option Int) : Prop := ∀ i, o = some i → i.natAbs ≤ 1000
structure ROk (r : Rng) : Prop where
  c : SmS r.1
  lo : SmO r.2.1
  hi : SmO r.2.2
structure QOk (q : Qs) : Prop where
  c0 : q.cs ≠ []
  cl : q.cs.length ≤ 6
  cb : ∀ x ∈ q.cs, SmS x
  al : q.as.length ≤ 8
  ab : ∀ a ∈ q.as, AOk a
  sub : ∀ a ∈ q.as, ∀ x ∈ a.2.2, x ∈ q.cs
  rl : q.rs.length ≤ 6
  rb : ∀ r ∈ q.rs, ROk r
theorem SmS.ok {x : Str} (h : SmS x) : Ok 10 0 (.str x) := Ok.str h.1 h.2
def smSB (x : Str) : Bool := x.cps.toList.all (fun c => decide (c < 0x110000)) && decide (x.cps.toList.length ≤ 10)
theorem smSB_of {x : Str} (h : smSB x = true) : SmS x := by
  unfold smSB at h
  rw [Bool.and_eq_true] at h
  exact ⟨fun c hc => of_decide_eq_true (List.all_eq_true.mp h.1 c hc), of_decide_eq_true h.2⟩
theorem smS_all {l : List Str} (h : l.all smSB = true) : ∀ x ∈ l, SmS x := fun x hx => smSB_of (List.all_eq_true.mp h x hx)
theorem tb8_sm : ∀ x ∈ tb8, SmS x := smS_all (by decide +kernel)
theorem SmO.ok {o : Option Int} (h : SmO o) : Ok 41 0 (oD o) := by
  cases o with
  | none => exact Ok.none.mono (by omega) (Nat.le_refl _)
  | some i => exact Ok.int (by have := h i rfl; omega)
theorem ROk.ok {r : Rng} (h : ROk r) : Ok 200 1 (rD r) := (Ok.tuple (h.c.ok.cons' (h.lo.ok.cons' (h.hi.ok.cons' (OkAll.nil 0))))).mono (by omega) (Nat.le_refl _)
theorem AOk.ok {a : Atm} (h : AOk a) : Ok 100 2 (atD a) := by
  have h3 : Ok (a.2.2.length * (10 + 1)) 1 (.tuple (a.2.2.map .str)) := Ok.tuple (OkAll.map fun x hx => (h.c x hx).ok)
  have h4 : Ok 66 1 (.tuple (a.2.2.map .str)) := h3.mono (by have := h.n; omega) (Nat.le_refl _)
  exact (Ok.tuple ((h.w.ok.mono (Nat.le_refl _) (Nat.zero_le 1)).cons' (((tb8_sm _ h.t).ok.mono (Nat.le_refl _) (Nat.zero_le 1)).cons' (h4.cons' (OkAll.nil 1))))).mono (by omega) (Nat.le_refl _)
theorem QOk.ok {q : Qs} (h : QOk q) : Ok 3000 4 (qD q) := by
  have h1 : Ok 66 3 (.tuple (q.cs.map .str)) := (Ok.tuple (OkAll.map fun x hx => (h.cb x hx).ok)).mono (by have := h.cl; omega) (by omega)
  have h2 : Ok 808 3 (.tuple (q.as.map atD)) := (Ok.tuple (OkAll.map fun x hx => (h.ab x hx).ok)).mono (by have := h.al; omega) (by omega)
  have h3 : Ok 1206 3 (.tuple (q.rs.map rD)) := (Ok.tuple (OkAll.map fun x hx => (h.rb x hx).ok)).mono (by have := h.rl; omega) (by omega)
  exact (Ok.tuple (h1.cons' (h2.cons' (h3.cons' (OkAll.nil 3))))).mono (by omega) (Nat.le_refl _)
/-- no column twice -/
def Tidy (q : Qs) : Prop := q.cs.Nodup ∧ ∀ a ∈ q.as, a.2.2.Nodup ∧ a.2.2 ≠ []
/-- no table twice -/
def Nm (q : Qs) : Prop := (q.as.map fun a => a.2.1).Nodup
theorem zip_snd_nd {α β : Type} : ∀ {es : List α} {tb : List β}, tb.Nodup → ((es.zip tb).map (·.2)).Nodup
  | [], _, _ => List.nodup_nil
  | _ :: _, [], _ => List.nodup_nil
  | e :: es, t :: tb, h => by
    rw [List.nodup_cons] at h
    rw [List.zip_cons_cons, List.map_cons, List.nodup_cons]
    refine ⟨fun z => h.1 ?_, zip_snd_nd h.2⟩
    obtain ⟨p, hp, e⟩ := List.mem_map.mp z
    have := (List.of_mem_zip (show (p.1, p.2) ∈ es.zip tb from hp)).2
    rw [e] at this
    exact this
theorem tb8_nd : tb8.Nodup := by decide +kernel
/-- each column is some atom's -/
def Cov (q : Qs) : Prop := ∀ x ∈ q.cs, ∃ a ∈ q.as, x ∈ a.2.2
theorem leaf_below {par : List (Option Nat)} (ok : PrOk par) : ∀ (m a : Nat), par.length - a ≤ m → a < par.length → ∃ b, b < par.length ∧ Anc par a b ∧ some b ∉ par
  | 0, a, h, l => by omega
  | m + 1, a, h, l => by
    by_cases z : some a ∈ par
    · obtain ⟨c, hc⟩ := List.getElem?_of_mem z
      have lc := (List.getElem?_eq_some_iff.mp hc).1
      have := ok c a hc
      obtain ⟨b, h1, h2, h3⟩ := leaf_below ok m c (by omega) lc
      exact ⟨b, h1, (Anc.up hc (.here a)).trans h2, h3⟩
    · exact ⟨a, l, .here a, z⟩
theorem inD_oN (a : Nat) (par : List (Option Nat)) : inD (iN a) (par.map oN) = decide (some a ∈ par) := by
  unfold inD
  induction par with
  | nil => rfl
  | cons o par ih =>
    rw [List.map_cons, List.any_cons, ih]
    cases o with
    | none =>
      have : PyData.eqv (oN none) (iN a) = false := rfl
      rw [this, Bool.false_or]
      simp
    | some b =>
      have : PyData.eqv (oN (some b)) (iN a) = decide ((b : Int) = a) := by
        rw [dec_beq]
        show PyData.eqv (.int b) (.int a) = _
        simp [PyData.eqv]
      rw [this]
      by_cases e : b = a
      · simp [e]
      · have e' : ¬ a = b := fun z => e z.symm
        have : decide ((b : Int) = (a : Int)) = false := decide_eq_false (by omega)
        simp [this, e']
/-! the promises -/
def wForest : List DV → (PyData → Prop) → Prop := fun ds P => ∃ n : Nat, ds = [.bag, .im (.int (n : Nat))] ∧ n ≤ 100 ∧ ∀ par : List (Option Nat), par.length = n → PrOk par → P (.list (par.map oN))
def wLine : List DV → (PyData → Prop) → Prop := fun ds P => ∃ (par : List (Option Nat)) (at_ : Nat), ds = [.im (.list (par.map oN)), .im (.int (at_ : Nat))] ∧ par.length ≤ 100 ∧ at_ < par.length ∧ PrOk par ∧
  ∀ l : List Nat, (∀ a, a ∈ l ↔ Anc par a at_) → l.length ≤ par.length → (∀ a ∈ l, a < par.length) → l.Nodup → P (.list (l.map iN))
def wCols : List DV → (PyData → Prop) → Prop := fun ds P => ∃ (names : List Str) (par : List (Option Nat)) (at_ : Nat), ds = [.bag, .im (.list (names.map .str)), .im (.list (par.map oN)), .im (.int (at_ : Nat))] ∧ names.length = par.length ∧ par.length ≤ 100 ∧ at_ < par.length ∧ PrOk par ∧ names.Nodup ∧
  ∀ cols : List Str, (∀ x, x ∈ cols ↔ ∃ a, Anc par a at_ ∧ names[a]? = some x) → cols.length ≤ par.length → (∀ x ∈ cols, x ∈ names) → cols.Nodup → P (.tuple (cols.map .str))
def wRanges : List DV → (PyData → Prop) → Prop := fun ds P => ∃ cs : List Str, ds = [.bag, .im (.tuple (cs.map .str))] ∧ cs.length ≤ 6 ∧ (∀ x ∈ cs, SmS x) ∧ ∀ rs : List Rng, rs.length ≤ 6 → (∀ r ∈ rs, ROk r) → P (.tuple (rs.map rD))
def wNestedQ : List DV → (PyData → Prop) → Prop := fun ds P => ∃ most : Nat, ds = [.bag, .im (.int (most : Nat))] ∧ 1 ≤ most ∧ most ≤ 6 ∧ ∀ q : Qs, QOk q → Nest q.as → Cov q → Tidy q → Nm q → P (qD q)
def wCrossQ : List DV → (PyData → Prop) → Prop := fun ds P => ds = [.bag] ∧ ∀ q : Qs, QOk q → P (qD q)
theorem len_law_forest (ds : List DV) (P : PyData → Prop) (h : wForest ds P) : ds.length = 2 := by obtain ⟨_, rfl, _⟩ := h; rfl
theorem len_law_line (ds : List DV) (P : PyData → Prop) (h : wLine ds P) : ds.length = 2 := by obtain ⟨_, _, rfl, _⟩ := h; rfl
theorem len_law_columns_mixed (ds : List DV) (P : PyData → Prop) (h : wCols ds P) : ds.length = 4 := by obtain ⟨_, _, _, rfl, _⟩ := h; rfl
theorem len_law_ranges (ds : List DV) (P : PyData → Prop) (h : wRanges ds P) : ds.length = 2 := by obtain ⟨_, rfl, _⟩ := h; rfl
theorem len_law_nested_question (ds : List DV) (P : PyData → Prop) (h : wNestedQ ds P) : ds.length = 2 := by obtain ⟨_, rfl, _⟩ := h; rfl
theorem len_law_crossing_question (ds : List DV) (P : PyData → Prop) (h : wCrossQ ds P) : ds.length = 1 := by obtain ⟨rfl, _⟩ := h; rfl
/-! names that are drawn -/
def nm6 : List Str := [Str.ofString "a", Str.ofString "b", Str.ofString "c", Str.ofString "d", Str.ofString "x1", Str.ofString "y"]
def nm5 : List Str := [Str.ofString "a", Str.ofString "b", Str.ofString "c", Str.ofString "d", Str.ofString "x1"]
theorem nm6_sm : ∀ x ∈ nm6, SmS x := smS_all (by decide +kernel)
theorem nm5_sm : ∀ x ∈ nm5, SmS x := smS_all (by decide +kernel)
theorem nm6_nd : nm6.Nodup := by decide +kernel
def hn3 : List Str := [Str.ofString "has", Str.ofString "not", Str.ofString "has"]
theorem hn3_sm : ∀ x ∈ hn3, SmS x := smS_all (by decide +kernel)
def hh3 : List Str := [Str.ofString "has", Str.ofString "has", Str.ofString "not"]
theorem hh3_sm : ∀ x ∈ hh3, SmS x := smS_all (by decide +kernel)
def hn2 : List Str := [Str.ofString "has", Str.ofString "not"]
theorem hn2_sm : ∀ x ∈ hn2, SmS x := smS_all (by decide +kernel)
theorem has_sm : SmS (Str.ofString "has") := smSB_of (by decide +kernel)
theorem more_sm : SmS (Str.ofString "more") := smSB_of (by decide +kernel)
theorem q7_sm : SmS (Str.ofString "q7") := smSB_of (by decide +kernel)
theorem flat_oN (l : List (Option Nat)) : (l.map oN).all flatD = true := by
  induction l with
  | nil => rfl
  | cons n l ih =>
    rw [List.map_cons, List.all_cons, ih]
    cases n <;> rfl
def eD (e : Str × Nat) : PyData := .tuple [.str e.1, .int (e.2 : Nat)]
theorem shaped_strs {l : List Str} (h : ∀ x ∈ l, SmS x) : SeqAt.shaped (PyData.list (l.map .str)) = true := (Ok.list (OkAll.map fun x hx => (h x hx).ok)).shaped (by decide)
def oNat (o : Option Int) : PyData := oD o
theorem sm_oD {d : PyData} (h : d = .none ∨ ∃ i : Int, d = .int i ∧ i.natAbs ≤ 1000) : ∃ o, d = oD o ∧ SmO o := by
  rcases h with rfl | ⟨i, rfl, h⟩
  · exact ⟨none, rfl, fun _ z => nomatch z⟩
  · exact ⟨some i, rfl, fun j z => by cases z; exact h⟩
theorem q7_tb : Str.ofString "q7" ∈ tb8 := by decide +kernel
end LW

/-! the data layer: dicts whose keys are texts, sorted sets of rows, whole number less truth -/
namespace GL
open PySem PySem.Spec PyProof.Rows L2
variable {K : PySem.W.Frag}
/-! ### int(..), i - truth -/
def rIB (g : Int → Bool → V) : R2 := fun x y H Q => ∃ i b, x = .int i ∧ y = .bl b ∧ Q (g i b) H
def b2I (b : Bool) : Int := if b = true then 1 else 0
theorem op_subIB {X : Cx} : OpR X (binaryOp .Sub) (rIB fun i b => .int (i - b2I b)) := by
  rintro pins s σ H x y v u Q I rx ry ⟨i, b, rfl, rfl, q⟩
  obtain ⟨t, rfl⟩ := rx
  cases ry
  exact IntBool.sub_int_bool ⟨.int (i - b2I b), H, I.tok _, ⟨_, rfl⟩, q⟩
theorem rp_subIB : ROp K (rIB fun i b => .int (i - b2I b)) (fun a b P => match a, b with | .int i, .bool b => P (.int (i - b2I b)) | _, _ => False) := by
  intro bg M H x y a b P Q k hx hy h q
  split at h
  · exact ⟨_, _, hx.int, hy.bool, q _ _ M H h (.refl k) (.int _)⟩
  · exact h.elim
def rInt1 : List V → Hp → VK → Prop := fun xs H Q => (∃ i, xs = [.int i] ∧ Q (.int i) H) ∨ ∃ k, xs = [.bl k] ∧ Q (.int (if k then 1 else 0)) H
theorem call_intD {X : Cx} : CallR X (.type "int") rInt1 := call_int1
theorem rq_int : RCb K rInt1 (fun ds P => as1 ds fun a => match a with | .int i => P (.int i) | .bool b => P (.int (b2I b)) | _ => False) := by
  intro bg M H xs ds P Q k hx h q
  obtain ⟨a, rfl, g⟩ := as1_of h
  cases hx with
  | cons h1 t =>
    cases t
    cases a with
    | int i =>
      cases h1.int
      exact .inl ⟨i, rfl, q _ _ M H g (.refl k) (.int _)⟩
    | bool b =>
      cases h1.bool
      exact .inr ⟨b, rfl, q _ _ M H g (.refl k) (.int _)⟩
    | _ => exact g.elim
/-! ### own dicts -/
def gd (ρ : En) (i : Nat) (P : List (Str × PyData) → Prop) : Prop := match ρ[i]? with | some (some (.od d)) => P d | _ => False
theorem gd_of {ρ : En} {i : Nat} {P : List (Str × PyData) → Prop} (h : gd ρ i P) : ∃ d, ρ[i]? = some (some (.od d)) ∧ P d := by
  unfold gd at h
  split at h
  · exact ⟨_, by assumption, h⟩
  · exact h.elim
def asS (d : PyData) (P : Str → Prop) : Prop := match d with | .str b => P b | _ => False
theorem asS_of {d : PyData} {P : Str → Prop} (h : asS d P) : ∃ k, d = .str k ∧ P k := by cases d <;> first | exact h.elim | exact ⟨_, rfl, h⟩
/-- in its place, or at the end -/
def putS (kvs : List (Str × PyData)) (x : Str) (d : PyData) : List (Str × PyData) := if decide (x ∈ kvs.map (·.1)) = true then kvs.map (fun e => if e.1 = x then (e.1, d) else e) else kvs ++ [(x, d)]
theorem keyStr {k : Key} {x : Str} : (k = (.inr x : Key)) ↔ k = .inr x := Iff.rfl
theorem duks_put {M : Hp} {ks : List (Key × V)} {kvs : List (Str × PyData)} {x : Str} {v : V} {d : PyData} (h : DuKs K M ks kvs) (hv : Du K M v d) : DuKs K M (putK ks (.inr x) v) (putS kvs x d) := by
  obtain ⟨h1, h2, h3⟩ := h
  have hany : (ks.any fun kv => decide (kv.1 = (.inr x : Key))) = decide (x ∈ kvs.map (·.1)) := by
    have e : (ks.any fun kv => decide (kv.1 = (.inr x : Key))) = (ks.map (·.1)).any (fun k => decide (k = (.inr x : Key))) := by rw [List.any_map]; rfl
    rw [e, h1]
    clear h1 h2 h3 e
    induction kvs with
    | nil => rfl
    | cons a kvs ih =>
      rw [List.map_cons, List.map_cons, List.any_cons, ih]
      by_cases z : a.1 = x
      · simp [z]
      · have z' : ¬ x = a.1 := fun e => z e.symm
        simp [z, z']
  unfold putK putS
  rw [hany]
  by_cases c : x ∈ kvs.map (·.1)
  · rw [decide_eq_true c, if_pos rfl, if_pos rfl]
    refine ⟨?_, ?_, ?_⟩
    · have e1 : (ks.map fun kv => if kv.1 = (.inr x : Key) then (kv.1, v) else kv).map (·.1) = ks.map (·.1) := by
        rw [List.map_map]
        refine List.map_congr_left fun kv _ => ?_
        show (if kv.1 = (.inr x : Key) then (kv.1, v) else kv).1 = kv.1
        split <;> rfl
      have e2 : (kvs.map fun e => if e.1 = x then (e.1, d) else e).map (fun e => (Sum.inr e.1 : Key)) = kvs.map (fun e => Sum.inr e.1) := by
        rw [List.map_map]
        refine List.map_congr_left fun e _ => ?_
        show (Sum.inr (if e.1 = x then (e.1, d) else e).1 : Key) = _
        split <;> rfl
      rw [e1, e2, h1]
    · clear c hany h3
      induction kvs generalizing ks with
      | nil =>
        cases ks with
        | nil => exact .nil
        | cons a r => cases h1
      | cons e kvs ih =>
        cases ks with
        | nil => cases h1
        | cons a r =>
          rw [List.map_cons, List.map_cons] at h1 h2
          injection h1 with e1 e2
          cases h2 with
          | cons hd tl =>
            refine .cons ?_ (ih e2 tl)
            show Du K M (if a.1 = (.inr x : Key) then (a.1, v) else a).2 (if e.1 = x then (e.1, d) else e).2
            by_cases z : e.1 = x
            · rw [if_pos (by rw [e1, z]), if_pos z]
              exact hv
            · rw [if_neg (by rw [e1]; exact fun w => z (by cases w; rfl)), if_neg z]
              exact hd
    · have e2 : (kvs.map fun e => if e.1 = x then (e.1, d) else e).map (·.1) = kvs.map (·.1) := by
        rw [List.map_map]
        refine List.map_congr_left fun e _ => ?_
        show (if e.1 = x then (e.1, d) else e).1 = _
        split <;> rfl
      rw [e2]
      exact h3
  · rw [decide_eq_false c, if_neg Bool.false_ne_true, if_neg Bool.false_ne_true]
    refine ⟨by rw [List.map_append, List.map_append, h1]; rfl, ?_, ?_⟩
    · rw [List.map_append, List.map_append]
      exact h2.append (.cons hv .nil)
    · rw [List.map_append, List.nodup_append]
      refine ⟨h3, List.pairwise_singleton _ _, fun a ha b hb => ?_⟩
      have hb : b = x := List.mem_singleton.mp hb
      rw [hb]
      exact fun z => c (by rw [← z]; exact ha)
section
variable {te tk : TE} {we wk : W}
theorem rs_newD (i : Nat) : RS K (tAsg tDNewK (gName i)) (fun N ρ => N.nx (ρ.set i (some (.od [])))) := by
  intro C M H σ ρ N D e hw q1 q2 q3 q4 p np
  exact q1 _ M _ _ hw (Same.rf M) (e.ownG (x := .od []) np (Stp.hidden e.vis np (.dK [])) ⟨p, [], rfl, none_of_vis e.vis np, upd_same, e.off np, rfl, .nil, List.nodup_nil⟩ i)
theorem rs_parOD (i j : Nat) (h : RE K te we) : RS K (tPar i j (tCons te (tCons tDNewK tNil))) (fun N ρ => we ρ fun a => N.nx ((ρ.set i (some (.im a))).set j (some (.od [])))) := by
  intro C M H σ ρ N D e hw q1 q2 q3 q4
  refine h C M H σ ρ _ _ e hw fun v d M1 H1 p1 s1 d1 => ?_
  intro p np
  refine ⟨_, _, rfl, ?_⟩
  have e1 := (e.step s1).set d1 i
  exact q1 _ M1 _ _ p1 s1.sm (e1.ownG (x := .od []) np (Stp.hidden s1.vis np (.dK [])) ⟨p, [], rfl, none_of_vis s1.vis np, upd_same, e1.off np, rfl, .nil, List.nodup_nil⟩ j)
theorem rs_dput (i : Nat) (hk : RE K tk wk) (hv : RE K te we) : RS K (sDPut (tVar i) tk te) (fun N ρ => we ρ fun d => gd ρ i fun kvs => wk ρ fun k => asS k fun x => kvs.length < 1000 ∧ N.nx (ρ.set i (some (.od (putS kvs x d))))) := by
  intro C M H σ ρ N D e hw q1 q2 q3 q4
  refine hv C M H σ ρ _ _ e hw fun v d M1 H1 p1 s1 d1 => ?_
  obtain ⟨kvs, hi, p1⟩ := gd_of p1
  have e1 := e.step s1
  obtain ⟨w, hw2, p, ks, rfl, hm, hp, h0, ha⟩ := e1.sl i _ hi
  refine ⟨_, hw2, hk C M1 H1 σ ρ _ _ e1 p1 fun y k M2 H2 p2 s2 d2 => ?_⟩
  obtain ⟨x, rfl, l, p2⟩ := asS_of p2
  cases d2
  have e2 := e1.step s2
  have hp2 := s2.fr p _ (notbag e1.bg0 h0) hp
  have lk : ks.length = kvs.length := by
    have := congrArg List.length ha.1
    rwa [List.length_map, List.length_map] at this
  refine ⟨p, _, rfl, DPut.k (k := .inr x) hp2 (small1000 (by omega)), ?_⟩
  exact q1 _ M2 _ σ p2 (s1.sm.trans s2.sm) (e2.pokeG (x := .od kvs) (y := .od (putS kvs x d)) hi rfl rfl hw2 fun hm h0 => ⟨p, _, rfl, hm, upd_same, h0, duks_put (ha.same s2.sm) (du_same s2.sm _ _ d1)⟩)
/-- list(d.items()), d one's own -/
def pairD2 (e : Str × PyData) : PyData := .tuple [.str e.1, e.2]
def revT (M H : Hp) (ts : List Addr) (p : Addr) : Hp := fun a => if a ∈ p :: ts then H a else M a
theorem re_items (i : Nat) : RE K (LiI.tListItems (tVar i)) (fun ρ P => gd ρ i fun kvs => (∀ e ∈ kvs, isS e.2 = false) ∧ P (.list (kvs.map pairD2))) := by
  classical
  intro C M H σ ρ P Q e hw q
  obtain ⟨kvs, hi, ns, hw⟩ := gd_of hw
  obtain ⟨w, hw2, d, ks, rfl, hm, hp, h0, ha⟩ := e.sl i _ hi
  refine ⟨_, hw2, d, ks, rfl, hp, fun H' p ts hk np nts npt hl pr => ?_⟩
  have off : ∀ a, a ∈ p :: ts → H a = none := fun a h => by
    rcases List.mem_cons.mp h with rfl | h
    · exact np
    · exact nts a h
  have s : Stp C.bg M H (revT M H' ts p) H' := by
    refine ⟨fun a o h => ?_, fun a o h => ?_, fun a o _ h => hk a o h, fun a h n => ?_, fun g b c hb => ?_, fun a h => ?_⟩
    · unfold revT
      rw [if_neg (fun z => by have := off a z; rw [e.vis _ _ h] at this; cases this)]
      exact h
    · unfold revT at h
      split at h
      · exact h
      · exact hk _ _ (e.vis _ _ h)
    · unfold revT
      rw [if_neg (fun z => n (off a z))]
      exact h
    · obtain ⟨h1, h2⟩ := g b c hb
      refine ⟨h1.same fun a o h => hk a o h, ?_⟩
      unfold revT
      obtain ⟨_, hb1⟩ := h1.lst
      rw [if_neg (fun z => by have := off b z; rw [hb1] at this; cases this)]
      exact h2
    · cases z : H a with
      | none => exact absurd z h
      | some o => rw [hk a o z]; exact fun z => nomatch z
  refine q _ _ _ _ hw s (.lst (xs := ts.map V.ref) ?_ ?_)
  · unfold revT
    rw [if_pos List.mem_cons_self]
    exact hl
  · have sm := s.sm
    have inT : ∀ t ∈ ts, revT M H' ts p t = H' t := fun t h => by unfold revT; rw [if_pos (List.mem_cons_of_mem _ h)]
    obtain ⟨h1, h2, _⟩ := ha
    clear hw q hi hp hl off s
    have go : ∀ (ts2 : List Addr) (ks2 : List (Key × V)) (kv2 : List (Str × PyData)), (∀ t ∈ ts2, revT M H' ts p t = H' t) → (∀ e ∈ kv2, isS e.2 = false) → Paired (fun (t : Addr) (q : Key × V) => H' t = some (.tup [kV q.1, q.2])) ts2 ks2 → ks2.map (·.1) = kv2.map (fun e => Sum.inr e.1) → DuAll K M (ks2.map (·.2)) (kv2.map (·.2)) → DuAll K (revT M H' ts p) (ts2.map V.ref) (kv2.map pairD2) := by
      intro ts2 ks2 kv2 it ns2 pr2 e1 e2
      induction pr2 generalizing kv2 with
      | nil =>
        cases kv2 with
        | nil => exact .nil
        | cons => cases e1
      | @cons t k ts3 ks3 r _ ih =>
        cases kv2 with
        | nil => cases e1
        | cons f kv3 =>
          rw [List.map_cons, List.map_cons] at e1 e2
          injection e1 with g1 g2
          cases e2 with
          | cons hd tl =>
            refine .cons ?_ (ih kv3 (fun t h => it t (List.mem_cons_of_mem _ h)) (fun e h => ns2 e (List.mem_cons_of_mem _ h)) g2 tl)
            refine .tup (xs := [kV k.1, k.2]) (SqT.of (by rw [it t List.mem_cons_self]; exact r)) (.cons ?_ (.cons (du_same sm _ _ hd) .nil)) fun z => ?_
            · rw [g1]
              exact .str _
            · have nf := ns2 f List.mem_cons_self
              have : ([f.2].all isS) = true := z
              rw [List.all_cons, nf, Bool.false_and] at this
              cases this
    exact go ts ks kvs inT ns pr h1 h2
/-- dict(pairs) -/
def rDictP (K : PySem.W.Frag) : List V → Hp → VK → Prop := fun xs H Q => ∃ (a : Addr) (ps : List Addr) (kvs : List (Key × V)), xs = [.ref a] ∧ SqL K H a (ps.map V.ref) ∧ Paired (fun p kv => SqT K H p [kV kv.1, kv.2]) ps kvs ∧ ∀ p, H p = none → Q (.ref p) (upd H p (.dK (mergeK [] kvs)))
theorem call_dictD {X : Cx} (hc : X.calm = true) : CallR X (.type "dict") (rDictP X.K) := call_dictP hc
theorem merge_app : ∀ (more kvs : List (Key × V)), ((kvs ++ more).map (·.1)).Nodup → mergeK kvs more = kvs ++ more
  | [], kvs, _ => by rw [List.append_nil]; rfl
  | m :: more, kvs, h => by
    have e : putK kvs m.1 m.2 = kvs ++ [m] := by
      unfold putK
      rw [if_neg]
      intro z
      obtain ⟨kv, h1, h2⟩ := List.any_eq_true.mp z
      rw [List.map_append, List.nodup_append] at h
      exact h.2.2 kv.1 (List.mem_map_of_mem h1) m.1 (List.mem_map_of_mem List.mem_cons_self) (of_decide_eq_true h2)
    show mergeK (putK kvs m.1 m.2) more = _
    rw [e, merge_app more (kvs ++ [m]) (by rw [List.append_assoc]; exact h), List.append_assoc]
    rfl
theorem rq_dict : RCb K (rDictP K) (fun ds P => as1 ds fun a => asL a fun es => ∃ kvs : List (Str × PyData), es = kvs.map pairD2 ∧ (kvs.map (·.1)).Nodup ∧ P (dictD kvs)) := by
  intro bg M H xs ds P Q k hx h q
  obtain ⟨a, rfl, g⟩ := as1_of h
  obtain ⟨es, rfl, kvs, rfl, nd, gg⟩ := asL_of g
  cases hx with
  | cons h1 t =>
    cases t
    obtain ⟨p, vs, rfl, hp, ha⟩ := h1.list k
    have ex : ∀ (kv2 : List (Str × PyData)) (vs2 : List V), DuAll K M vs2 (kv2.map pairD2) → ∃ (ps : List Addr) (ks : List (Key × V)), vs2 = ps.map V.ref ∧ Paired (fun p kv => SqT K H p [kV kv.1, kv.2]) ps ks ∧ ks.map (·.1) = kv2.map (fun e => Sum.inr e.1) ∧ DuAll K M (ks.map (·.2)) (kv2.map (·.2)) := by
      intro kv2
      induction kv2 with
      | nil =>
        intro vs2 h
        cases h
        exact ⟨[], [], rfl, .nil, rfl, .nil⟩
      | cons e kv2 ih =>
        intro vs2 h
        cases h with
        | cons hd tl =>
          obtain ⟨ps, ks, rfl, h1, h2, h3⟩ := ih _ tl
          cases hd with
          | @tup b us _ hs hu _ =>
            cases hu with
            | cons u1 u2 =>
              cases u2 with
              | cons u2 u3 =>
                cases u3
                cases u1
                exact ⟨b :: ps, (.inr e.1, _) :: ks, rfl, .cons (TupK.same k _ _ _ hs) h1, by rw [List.map_cons, List.map_cons, h2], .cons u2 h3⟩
    obtain ⟨ps, ks, rfl, e1, e2, e3⟩ := ex kvs vs ha
    refine ⟨p, ps, ks, rfl, SqL.of hp, e1, fun z nz => ?_⟩
    have nk : (ks.map (·.1)).Nodup := by
      rw [e2]
      have : (kvs.map fun e => (Sum.inr e.1 : Key)) = (kvs.map (·.1)).map Sum.inr := by rw [List.map_map]; rfl
      rw [this]
      exact List.Pairwise.map _ (fun a b n z => n (by cases z; rfl)) nd
    have em : mergeK [] ks = ks := merge_app ks [] nk
    rw [em]
    have s := Stp.new (bg := bg) k nz (.dK ks)
    exact q _ _ _ _ gg s (du_dict upd_same (DuKs.same s.sm ⟨e2, e3, nd⟩))
/-- d[k] -/
theorem dk_look {M : Hp} : ∀ {ks : List (Key × V)} {kvs : List (Str × PyData)} {x : Str} {d : PyData}, DuKv K M ks (kvs.map fun e => (PyData.str e.1, e.2)) → kvs.lookup x = some d → ∃ v, valV ks (.inr x) = some v ∧ Du K M v d
  | [], kvs, x, d, h, e => by
    cases kvs with
    | nil => cases e
    | cons a kvs => cases h
  | (k, v) :: ks, kvs, x, d, h, e => by
    cases kvs with
    | nil => cases e
    | cons a kvs =>
      cases h with
      | cons ek hd tl =>
        obtain ⟨y, dd⟩ := a
        cases k with
        | inl i => cases ek
        | inr z =>
          cases ek
          by_cases c : y = x
          · subst c
            rw [List.lookup_cons_self] at e
            cases e
            exact ⟨v, valV_pos rfl, hd⟩
          · have hb : (x == y) = false := beq_eq_false_iff_ne.mpr fun w => c w.symm
            rw [List.lookup_cons, hb] at e
            obtain ⟨u, hu, du⟩ := dk_look tl e
            exact ⟨u, by rw [valV_neg (fun w => c (by cases w; rfl))]; exact hu, du⟩
theorem re_dget {td ty : TE} {wd wy : W} (hd : RE K td wd) (hy : RE K ty wy) : RE K (tDGet td ty) (fun ρ P => wd ρ fun a => ∃ kvs : List (Str × PyData), a = dictD kvs ∧ wy ρ fun k => asS k fun x => ∃ d, kvs.lookup x = some d ∧ P d) := by
  intro C M H σ ρ P Q e hw q
  refine hd C M H σ ρ _ _ e hw fun v a M1 H1 p1 s1 d1 => ?_
  obtain ⟨kvs, rfl, p1⟩ := p1
  refine hy C M1 H1 σ ρ _ _ (e.step s1) p1 fun u k M2 H2 p2 s2 d2 => ?_
  obtain ⟨x, rfl, d, hx, p2⟩ := asS_of p2
  cases d2
  cases d1 with
  | dt h1 _ =>
    cases kvs with
    | nil => cases h1
    | cons e kvs => cases h1
  | dk h1 h2 h3 =>
    obtain ⟨u, hu, du⟩ := dk_look h3 hx
    have hH : H2 _ = some _ := s2.vis _ _ (s2.sm _ _ h1)
    refine ⟨_, u, rfl, ?_, q u d M2 H2 p2 (s1.trans s2) (du_same s2.sm _ _ du)⟩
    have := DGet.k (k := .inr x) hH
    rw [hu] at this
    exact this
end
end GL

/-! the data layer: sorted of alike data, sorted(set(rows)), repr of a list with dicts in it -/
namespace GL
open PySem PySem.Spec PyProof.Rows L2
open PySem.W (EachIs AllAlike Sortable dataLe)
variable {K : PySem.W.Frag}
def rSortD (K : PySem.W.Frag) : List V → Hp → VK → Prop := fun vs H Q => ∃ (a : Addr) (bs : List (V × PyData)), vs = [.ref a] ∧ SqL K H a (bs.map (·.1)) ∧ (∀ b ∈ bs, Dp K H b.1 b.2) ∧ AllAlike (bs.map (·.2)) ∧ Sortable (bs.map (·.2)) ∧ (∀ b ∈ bs, b.2.depth ≤ 50) ∧
  ∀ p, H p = none → Q (.ref p) (upd H p (.lst ((bs.mergeSort (dataLe false (·.2))).map (·.1))))
theorem vals_each : ∀ {bs : List (V × PyData)} {us : List Value}, Vals (bs.map (·.1)) us → EachIs (fun u b => RelV b.1 u) us bs
  | [], _, .nil => .nil
  | _ :: _, _, .cons r t => .cons r (vals_each t)
theorem each_vals : ∀ {bs : List (V × PyData)} {us : List Value}, EachIs (fun u b => RelV b.1 u) us bs → Vals (bs.map (·.1)) us
  | [], _, .nil => .nil
  | _ :: _, _, .cons r t => .cons r (each_vals t)
theorem each_imp {R R' : Value → V × PyData → Prop} : ∀ {us : List Value} {bs : List (V × PyData)}, (∀ u b, b ∈ bs → R u b → R' u b) → EachIs R us bs → EachIs R' us bs
  | _, _, _, .nil => .nil
  | _, _, f, .cons r t => .cons (f _ _ List.mem_cons_self r) (each_imp (fun u b h => f u b (List.mem_cons_of_mem _ h)) t)
theorem cr_sortD {X : Cx} (hu : X.A.units + 64 < cLine) : CallR X (.builtin "sorted") (rSortD X.K) := by
  intro pins s σ H vs us Q I r h
  obtain ⟨a, bs, rfl, hs, hd, hal, hk, hdep, q⟩ := h
  obtain ⟨its, rv, hl, hz⟩ := I.list hs
  rw [Vals.ref1 r]
  have hlen : bs.length ≤ sizeLine := by rw [List.length_map] at hz; exact hz
  have e := vals_each rv
  refine PySem.W.sorted_data (enc := fun b : V × PyData => b.2) hl.isList e (each_imp (fun u b hb r => Dp.reads I b.2 b.1 u (hd b hb) r) e) hal hk hlen (fun b hb => by have := hdep b hb; show X.A.units + 2 + b.2.depth < cLine; omega) fun out ho eo => ?_
  obtain ⟨ep, he'⟩ := PyProof.Rows.sortedAll_at s.heap its out.toArray
  have hl2 : ((bs.mergeSort (dataLe false (·.2))).map (·.1)).length ≤ sizeLine := by rw [List.length_map, List.length_mergeSort]; exact hlen
  exact ⟨.ref _, upd H (s.heap.objs.size + 1) (.lst ((bs.mergeSort (dataLe false (·.2))).map (·.1))), I.laid (t' := s.toks) (fun _ _ => PyProof.Rows.sortedAll_old) (Nat.le_succ _) ⟨hl2, out, ep, each_vals eo, he'⟩, rfl, q _ (I.hok.fresh (Nat.le_succ _))⟩
theorem du_pairs {M : Hp} : ∀ {l : List (V × PyData)}, (∀ b ∈ l, Du K M b.1 b.2) → DuAll K M (l.map (·.1)) (l.map (·.2))
  | [], _ => .nil
  | b :: l, h => .cons (h b List.mem_cons_self) (du_pairs fun c hc => h c (List.mem_cons_of_mem _ hc))
theorem pairs_du {M : Hp} : ∀ {ds : List PyData} {vs : List V}, DuAll K M vs ds → ∃ l : List (V × PyData), vs = l.map (·.1) ∧ ds = l.map (·.2) ∧ ∀ b ∈ l, Du K M b.1 b.2
  | [], _, h => by
    cases h
    exact ⟨[], rfl, rfl, fun _ z => nomatch z⟩
  | d :: ds, _, h => by
    cases h with
    | @cons v vs _ _ a b =>
      obtain ⟨l, rfl, rfl, h⟩ := pairs_du b
      exact ⟨(v, d) :: l, rfl, rfl, fun c hc => by
        rcases List.mem_cons.mp hc with rfl | hc
        · exact a
        · exact h c hc⟩
def sortD (ds : List PyData) : List PyData := ds.mergeSort (dataLe false id)
theorem rq_sortD : RCb K (rSortD K) (fun ds P => as1 ds fun a => asL a fun es => (∀ d ∈ es, d.hasDict = false ∧ d.depth ≤ 50) ∧ AllAlike es ∧ Sortable es ∧ P (.list (sortD es))) := by
  intro bg M H xs ds P Q k hx h q
  obtain ⟨a, rfl, g⟩ := as1_of h
  obtain ⟨es, rfl, hh, hal, hk, p⟩ := asL_of g
  cases hx with
  | cons h1 t =>
    cases t
    obtain ⟨z, vs, rfl, hp, ha⟩ := h1.list k
    obtain ⟨l, rfl, rfl, hd⟩ := pairs_du ha
    refine ⟨z, l, rfl, SqL.of hp, fun b hb => du_dp k _ _ (hh b.2 (List.mem_map_of_mem hb)).1 (hd b hb), hal, hk, fun b hb => (hh b.2 (List.mem_map_of_mem hb)).2, fun y ny => ?_⟩
    have s := Stp.new (bg := bg) k ny (.lst ((l.mergeSort (dataLe false (·.2))).map (·.1)))
    have e : sortD (l.map (·.2)) = (l.mergeSort (dataLe false (·.2))).map (·.2) := (List.map_mergeSort (r := dataLe false (fun b : V × PyData => b.2)) (s := dataLe false id) (f := fun b : V × PyData => b.2) (l := l) (fun _ _ _ _ => rfl)).symm
    rw [e] at p
    refine q _ _ _ _ p s (.lst upd_same (duA_same s.sm _ _ (du_pairs fun b hb => hd b ?_)))
    exact (List.mergeSort_perm l _).mem_iff.mp hb
/-! ### sorted(set(rows)) -/
def rowI (r : List Int) : PyData := .tuple (r.map .int)
theorem row_vals {M H : Hp} (k : Same M H) {v : V} {r : List Int} (h : Du K M v (rowI r)) : ∃ a, v = .ref a ∧ SqT K H a (r.map V.int) := by
  cases h with
  | tup hs ha _ =>
    rw [ints_vals ha] at hs
    exact ⟨_, rfl, TupK.same k _ _ _ hs⟩
theorem re_sortSet {P0 : Program} {w : World} {te : TE} {we : W} (h : RB K te we) : RE K (tCB (rSortSet K P0 w) (tCons (tCB (rSetOfT K P0 w) (tCons te tNil)) tNil))
    (fun ρ P => we ρ fun a => asL a fun es => ∃ rows : List (List Int), es = rows.map rowI ∧ (∀ r ∈ rows, r ≠ []) ∧ rows.length < 64 ∧ ∀ rs : List (List Int), rs.Pairwise (· ≤ ·) → rs.Nodup → (∀ r, r ∈ rs ↔ r ∈ rows) → P (.list (rs.map rowI))) := by
  intro C M H σ ρ P Q e hw q
  refine h C M H σ ρ _ _ e hw fun v d M1 H1 p1 s1 d1 => ?_
  obtain ⟨es, rfl, rows, rfl, ne, l64, p1⟩ := asL_of p1
  obtain ⟨l, vs, rfl, hl, ha⟩ := d1.list s1.vis
  have ex : ∀ (rows : List (List Int)) (vs : List V), DuAll K M1 vs (rows.map rowI) → ∃ ks : List (Addr × List Int), vs = ks.map (fun p => V.ref p.1) ∧ rows = ks.map (·.2) ∧ ∀ p ∈ ks, Du K M1 (.ref p.1) (rowI p.2) := by
    intro rows
    induction rows with
    | nil =>
      intro vs h
      cases h
      exact ⟨[], rfl, rfl, fun _ z => nomatch z⟩
    | cons r rows ih =>
      intro vs h
      cases h with
      | cons a b =>
        obtain ⟨ks, rfl, e2, h⟩ := ih _ b
        obtain ⟨t, rfl, _⟩ := row_vals s1.vis a
        exact ⟨(t, r) :: ks, rfl, by rw [List.map_cons, ← e2], fun c hc => by
          rcases List.mem_cons.mp hc with rfl | hc
          · exact a
          · exact h c hc⟩
  obtain ⟨ks, rfl, rfl, hk⟩ := ex rows vs ha
  have sq : ∀ p ∈ ks, SqT K H1 p.1 (p.2.map V.int) := fun p hp => by
    obtain ⟨a, e, h⟩ := row_vals s1.vis (hk p hp)
    cases e
    exact h
  rw [List.length_map] at l64
  refine ⟨l, ks, rfl, SqL.of hl, sq, l64, fun a L na hL hK => ?_⟩
  have s2 := Stp.hidden (bg := C.bg) s1.vis na (SetTO P0 w a L)
  refine ⟨a, L, rfl, upd_same, fun p hp => ⟨TupK.new na _ _ _ _ (sq p (hL p hp)), ne _ (List.mem_map_of_mem (hL p hp))⟩, fun z bs nz pm pw nd => ?_⟩
  have s3 := Stp.new (bg := C.bg) s2.vis nz (.lst (bs.map (·.1)))
  have mem : ∀ r, r ∈ bs.map (·.2) ↔ r ∈ ks.map (·.2) := fun r => by
    rw [(pm.map (·.2)).mem_iff, List.map_map]
    constructor
    · intro h
      obtain ⟨p, hp, e⟩ := List.mem_map.mp h
      exact List.mem_map.mpr ⟨p, hL p hp, e⟩
    · intro h
      obtain ⟨p, hp, e⟩ := List.mem_map.mp h
      have := hK p hp
      rw [e] at this
      obtain ⟨p2, hp2, e2⟩ := List.mem_map.mp this
      exact List.mem_map.mpr ⟨p2, hp2, e2⟩
  have nd2 : (bs.map (·.2)).Nodup := by
    rw [(pm.map (·.2)).nodup_iff, List.map_map]
    exact nd
  refine q _ _ _ _ (p1 (bs.map (·.2)) pw nd2 mem) ((s1.trans s2).trans s3) (.lst upd_same ?_)
  have : DuAll K M1 (bs.map (·.1)) ((bs.map (·.2)).map rowI) := by
    have hb : ∀ b ∈ bs, Du K M1 b.1 (rowI b.2) := fun b hb => by
      have := pm.mem_iff.mp hb
      obtain ⟨p, hp, e⟩ := List.mem_map.mp this
      rw [← e]
      exact hk p (hL p hp)
    clear pm pw nd nd2 mem s3 nz p1
    induction bs with
    | nil => exact .nil
    | cons b bs ih => exact .cons (hb b List.mem_cons_self) (ih fun c hc => hb c (List.mem_cons_of_mem _ hc))
  exact duA_same s3.sm _ _ this
/-! ### repr([.., ..]), dicts among what stands in it -/
def keyD : PyData → Bool
  | .int _ => true
  | .str _ => true
  | _ => false
mutual
def nlD : PyData → Bool
  | .list _ => false
  | .tuple ds => nlAll ds
  | .dict kvs => nlKv kvs
  | _ => true
def nlAll : List PyData → Bool
  | [] => true
  | d :: ds => nlD d && nlAll ds
def nlKv : List (PyData × PyData) → Bool
  | [] => true
  | (kd, d) :: ds => keyD kd && (nlD d && nlKv ds)
end
mutual
theorem du_dv {M H : Hp} (k : Same M H) : ∀ (d : PyData) (v : V), nlD d = true → Du K M v d → Dv K H v d
  | .none, _, _, h => by cases h; exact .non
  | .bool _, _, _, h => by cases h; exact .bl _
  | .int _, _, _, h => by cases h; exact .int _
  | .str _, _, _, h => by cases h; exact .str _
  | .list ds, _, n, h => by simp [nlD] at n
  | .tuple ds, _, n, h => by
    cases h with
    | tup a c _ => exact .tup (TupK.same k _ _ _ a) (duA_dv k ds _ (by simpa [nlD] using n) c)
  | .dict ds, _, n, h => by
    cases h with
    | dk a b c => exact .dk (k _ _ a) b (duK_dv k ds _ (by simpa [nlD] using n) c)
    | dt e _ =>
      subst e
      simp [nlD, nlKv, keyD] at n
theorem duA_dv {M H : Hp} (k : Same M H) : ∀ (ds : List PyData) (vs : List V), nlAll ds = true → DuAll K M vs ds → DvAll K H vs ds
  | [], _, _, h => by cases h; exact .nil
  | d :: ds, _, n, h => by
    cases h with
    | cons a b =>
      simp only [nlAll, Bool.and_eq_true] at n
      exact .cons (du_dv k d _ n.1 a) (duA_dv k ds _ n.2 b)
theorem duK_dv {M H : Hp} (k : Same M H) : ∀ (ds : List (PyData × PyData)) (vs : List (Key × V)), nlKv ds = true → DuKv K M vs ds → DvKv K H vs ds
  | [], _, _, h => by cases h; exact .nil
  | (kd, d) :: ds, _, n, h => by
    cases h with
    | @cons kk v kvs _ _ _ e a b =>
      simp only [nlKv, Bool.and_eq_true] at n
      have := DvKv.cons (k := kk) (du_dv k d _ n.2.1 a) (duK_dv k ds _ n.2.2 b)
      rw [e]
      cases kk <;> exact this
end
theorem re_reprN {t : TA} {wr : En → (List PyData → Prop) → Prop} (h : RD K t wr) : RE K (tCB (rReprX K) (tCons (tLstN t) tNil)) (fun ρ P => wr ρ fun ds => ds.length ≤ 1000 ∧ nlAll ds = true ∧ ShowsW (.list ds) ∧ P (.str (PyData.list ds).shown)) := by
  intro C M H σ ρ P Q e hw q
  refine h C M H σ ρ _ _ e hw fun vs ds M1 H1 p1 s1 d1 => ?_
  obtain ⟨l, nl, sw, p⟩ := p1
  refine ⟨by rw [d1.length]; exact Nat.le_trans l (by decide), fun z nz ns => .inr ?_⟩
  have s := Stp.new (bg := C.bg) s1.vis nz (.lst vs)
  refine ⟨.ref z, .list ds, rfl, .lst upd_same ns (duA_dv s.vis _ _ nl (duA_same s.sm _ _ d1)), sw, ?_⟩
  exact q _ _ _ _ p (s1.trans s) (.str _)
/-! ### tuples put together, told with their object; max(.., default=0); products -/
def rCatF (K : PySem.W.Frag) : R2 := fun x y H Q => ∃ a b xs ys, x = .ref a ∧ y = .ref b ∧ SqT K H a xs ∧ SqT K H b ys ∧ xs.length + ys.length ≤ sizeLine ∧
  (xs = [] → Q (.ref b) H) ∧ (ys = [] → Q (.ref a) H) ∧ (xs ≠ [] → ys ≠ [] → ∀ (p : Addr) (ob : Obj), H p = none → ob.dict = none → Q (.ref p) (upd H p (.frz ob (.tup (xs ++ ys)))))
theorem op_catF {X : Cx} : OpR X (binaryOp .Add) (rCatF X.K) := by
  rintro pins s σ H x y v u Q I rx ry ⟨a, b, xs, ys, rfl, rfl, ha, hb, hz, q0, q1, q2⟩
  by_cases hx : xs = []
  · subst hx
    cases rx
    cases ry
    obtain ⟨i1, r1, p1, _⟩ := I.tuple ha
    obtain ⟨i2, r2, p2, _⟩ := I.tuple hb
    cases r1
    exact cat_tup0 p1 p2 ⟨.ref b, H, I, rfl, q0 rfl⟩
  · cases rx
    cases ry
    obtain ⟨i1, r1, p1, _⟩ := I.tuple ha
    obtain ⟨i2, r2, p2, _⟩ := I.tuple hb
    refine HT.cat_tup p1 p2 (fun z => hx (r1.nil_iff.mp z)) (fun z => ⟨.ref a, H, I, rfl, q1 (r2.nil_iff.mp z)⟩) (fun z => ?_) (by rw [← r1.length, ← r2.length]; exact hz)
    have at_ : (s.heap.push { cls := .type "tuple", data := .seq (i1 ++ i2).toArray }).get? s.heap.objs.size = some { cls := .type "tuple", data := .seq (i1 ++ i2).toArray } := Heap.get?_push_size _ rfl
    refine ⟨.ref s.heap.objs.size, _, I.laid (t' := s.toks) (o := .frz { cls := .type "tuple", data := .seq (i1 ++ i2).toArray } (.tup (xs ++ ys))) (fun b ob q => Heap.get?_push_of_some _ q) (Nat.le_refl _) ?_, rfl, q2 hx (fun w => z (r2.nil_iff.mpr w)) _ _ (I.hok.fresh (Nat.le_refl _)) rfl⟩
    exact ⟨at_, by rw [List.length_append]; exact hz, _, r1.append r2, ⟨_, at_, rfl, _, rfl⟩⟩
theorem rp_catF : ROp K (rCatF K) (fun a b P => asT a fun ds => asT b fun es => ds.length + es.length ≤ 1000 ∧ P (.tuple (ds ++ es))) := by
  intro bg M H x y a b P Q k hx hy h q
  obtain ⟨ds, rfl, h1⟩ := asT_of h
  obtain ⟨es, rfl, l, p⟩ := asT_of h1
  have hx := hx.im
  have hy := hy.im
  have hx2 := hx
  have hy2 := hy
  cases hx with
  | @tup t vs _ hs ha _ =>
    cases hy with
    | @tup u us _ gs ga _ =>
      refine ⟨t, u, vs, us, rfl, rfl, TupK.same k _ _ _ hs, TupK.same k _ _ _ gs, by rw [ha.length, ga.length]; exact Nat.le_trans l (by decide), fun e => ?_, fun e => ?_, fun n1 n2 z ob nz hd => ?_⟩
      · subst e
        cases ha
        exact q _ _ M H p (.refl k) hy2
      · subst e
        cases ga
        rw [List.append_nil] at p
        exact q _ _ M H p (.refl k) hx2
      · have s := Stp.new (bg := bg) k nz (.frz ob (.tup (vs ++ us)))
        exact q _ _ _ _ p s (.tup (sqF upd_same) (duA_same s.sm _ _ (ha.append ga)) fun _ => ⟨ob, _, upd_same, hd⟩)
def rMax0 (K : PySem.W.Frag) : List V → List V → Hp → VK → Prop := fun vs zs H Q =>
  ∃ (a : Addr) (ns : List Int) (d : Int), vs = [.ref a] ∧ zs = [.int d] ∧ SqL K H a (ns.map V.int) ∧ (ns = [] → Q (.int d) H) ∧ ∀ M, M ∈ ns → (∀ z ∈ ns, z ≤ M) → Q (.int M) H
theorem cr_max0 {X : Cx} (hc : X.calm = true) : CallRK X (.builtin "max") [Str.ofString "default"] (rMax0 X.K) := by
  rintro pins s σ H vs zs us ws Q I r rz ⟨a, ns, d, rfl, rfl, hs, q0, q1⟩
  obtain ⟨its, rv, hl, _⟩ := I.list hs
  rw [Vals.ref1 r]
  cases rz with
  | cons rd rn =>
    cases rn
    obtain ⟨td, rfl⟩ := rd
    refine max_dflt (I.ok.hd hc) hl.isList rv.ints fun v h' tk e0 e1 keep => ?_
    by_cases hn : ns = []
    · rw [e0 hn]
      exact ⟨.int d, H, I.kept keep, ⟨_, rfl⟩, q0 hn⟩
    · obtain ⟨M, t, rfl, hm, hle⟩ := e1 hn
      exact ⟨.int M, H, I.kept keep, ⟨_, rfl⟩, q1 M hm hle⟩
theorem re_max0 {ta : TA} {wa : En → (List PyData → Prop) → Prop} {d : Int} (ha : RX K ta wa) :
    RE K (tCKw (rMax0 K) ta (tCons (tC (.int d)) tNil)) (fun ρ P => wa ρ fun ds => as1 ds fun a => asL a fun es => ∃ ns : List Int, es = ns.map .int ∧ (ns = [] → P (.int d)) ∧ ∀ m, m ∈ ns → (∀ y, y ∈ ns → y ≤ m) → P (.int m)) := by
  intro C M H σ ρ P Q e hw q
  refine ha C M H σ ρ _ _ e hw fun vs ds M1 H1 p1 s1 d1 => ?_
  obtain ⟨a, rfl, g⟩ := as1_of p1
  obtain ⟨es, rfl, ns, rfl, g0, g1⟩ := asL_of g
  cases d1 with
  | cons h1 t =>
    cases t
    obtain ⟨p, vs, rfl, hp, ha⟩ := h1.list s1.vis
    rw [ints_vals ha] at hp
    exact ⟨p, ns, d, rfl, rfl, SqL.of hp, fun z => q _ _ M1 H1 (g0 z) s1 (.int _), fun m h1 h2 => q _ _ M1 H1 (g1 m h1 h2) s1 (.int _)⟩
theorem rp_mul : ROp K (rI CMul fun i j => .int (i * j)) (fun a b P => match a, b with | .int i, .int j => i.natAbs ≤ 10 ^ 12 ∧ P (.int (i * j)) | _, _ => False) := by
  intro bg M H x y a b P Q k hx hy h q
  split at h
  · exact ⟨_, _, hx.int, hy.int, .inl ⟨by omega, by omega⟩, q _ _ M H h.2 (.refl k) (.int _)⟩
  · exact h.elim
end GL

namespace L2
open PySem PySem.Spec PyProof.Rows
def iSeq (K : PySem.W.Frag) (tl : TE) : TI := fun σ H R => tl σ H fun x H1 => ∃ a, x = .ref a ∧ ((∃ xs, SqL K H1 a xs) ∧ R (Itl K a) H1 ∨ (∃ xs, SqT K H1 a xs) ∧ R (Itt K a) H1)
theorem pi_seq {X : Cx} {tg : Expr} {l : Expr} {tl : TE} (hl : PE X l tl) : PI X tg l (iSeq X.K tl) := by
  refine ⟨fun pins s σ H R I h => ?_⟩
  refine thn (hl.run pins s σ H _ I h) fun v s1 ⟨x, H1, I1, r1, q1⟩ => ?_
  obtain ⟨a, e, q1⟩ := q1
  subst e
  cases r1
  rcases q1 with ⟨⟨xs, hq⟩, q⟩ | ⟨⟨xs, hq⟩, q⟩
  · obtain ⟨its, rv, p, hz⟩ := I1.list hq
    refine wpAny_pyIter_list p.isList ?_
    refine ⟨s1.heap.objs.size, [s1.heap.objs.size], _, _, H1, rfl, I1.kept (t' := s1.toks) fun b o e => Heap.get?_push_of_some _ e, turn_list a _, ⟨_, Heap.get?_push_size _ rfl, rfl, rfl⟩, fun b hb => ?_, q⟩
    have e : b = s1.heap.objs.size := by simpa using hb
    subst e
    exact I1.fpOk (Nat.le_refl _) (I1.hok.fresh (Nat.le_refl _))
  · obtain ⟨its, rv, p, hz⟩ := I1.tuple hq
    refine wpAny_pyIter_tuple (show s1.heap.IsTuple a its.toArray from p) ?_
    refine ⟨s1.heap.objs.size, [s1.heap.objs.size], _, _, H1, rfl, I1.kept (t' := s1.toks) fun b o e => Heap.get?_push_of_some _ e, turn_tuple a _, ⟨_, Heap.get?_push_size _ rfl, rfl, rfl⟩, fun b hb => ?_, q⟩
    have e : b = s1.heap.objs.size := by simpa using hb
    subst e
    exact I1.fpOk (Nat.le_refl _) (I1.hok.fresh (Nat.le_refl _))
end L2
namespace GL
open PySem PySem.Spec PyProof.Rows L2
variable {K : PySem.W.Frag} {te : TE} {we : W}
/-- a, b = [], ..: the first is one's own -/
theorem rs_parO1 (i j : Nat) (h : RE K te we) : RS K (tPar i j (tCons (tLst tNil) (tCons te tNil))) (fun N ρ => we ρ fun a => N.nx ((ρ.set i (some (.ow []))).set j (some (.im a)))) := by
  intro C M H σ ρ N D e hw q1 q2 q3 q4
  refine ⟨Nat.zero_le _, fun p np => ?_⟩
  have s0 := Stp.hidden (bg := C.bg) e.vis np (.lst [])
  have hm := none_of_vis e.vis np
  have h0 := e.off np
  have e0 := e.step s0
  refine h C M _ σ ρ _ _ e0 hw fun v d M1 H1 p1 s1 d1 => ?_
  refine ⟨_, _, rfl, ?_⟩
  have hp := s1.fr p _ (notbag e0.bg0 h0) upd_same
  have hm1 : M1 p = none := s1.hid p hm (by rw [upd_same]; exact fun z => nomatch z)
  exact q1 _ M1 _ _ p1 s1.sm ((e.ownG (x := .ow []) np (s0.trans s1) ⟨p, [], rfl, hm1, hp, h0, .nil⟩ i).set d1 j)
theorem ri_q (ha : RE K te we) : RI K (iSeq K te) (fun ρ P => we ρ fun d => asQ d P) := by
  intro C M H σ ρ P R e hw q
  refine ha C M H σ ρ _ _ e hw fun v d M1 H1 p s hd => ?_
  obtain ⟨ds, e1, p⟩ := asQ_of p
  cases hd with
  | lst hs ha =>
    cases e1
    exact ⟨_, rfl, .inl ⟨⟨_, SqL.of (s.vis _ _ hs)⟩, q ds _ M1 H1 p s (gives_list hs ha)⟩⟩
  | tup hs ha _ =>
    cases e1
    exact ⟨_, rfl, .inr ⟨⟨_, TupK.same s.vis _ _ _ hs⟩, q ds _ M1 H1 p s (gives_tup hs ha)⟩⟩
  | _ => cases e1
/-- a, b = .., {}: a pair that is taken apart again -/
theorem rs_parOD2 (i j : Nat) (h : RE K te we) : RS K (tAsg (tTupF (tCons te (tCons tDNewK tNil))) (gTup K 2 (gCons (gName i) (gCons (gName j) gNil)))) (fun N ρ => we ρ fun a => N.nx ((ρ.set i (some (.im a))).set j (some (.od [])))) := by
  intro C M H σ ρ N D e hw q1 q2 q3 q4
  refine h C M H σ ρ _ _ e hw fun v d M1 H1 p1 s1 d1 => ?_
  intro p np
  refine ⟨by show 2 ≤ sizeLine; decide, fun t ob nt hd => ?_⟩
  have s2 := Stp.hidden (bg := C.bg) s1.vis np (.dK [])
  have s3 := Stp.hidden (bg := C.bg) s2.vis nt (.frz ob (.tup [v, .ref p]))
  have e1 := (e.step s1).set d1 i
  have hp3 : upd (upd H1 p (.dK [])) t (.frz ob (.tup [v, .ref p])) p = some (.dK []) := by
    rw [upd_ne (ne_of_none upd_same nt)]
    exact upd_same
  refine ⟨t, [v, .ref p], rfl, sqF upd_same, rfl, _, _, rfl, _, _, rfl, rfl, ?_⟩
  exact q1 _ M1 _ _ p1 s1.sm (e1.ownG (x := .od []) np (s2.trans s3) ⟨p, [], rfl, none_of_vis s1.vis np, hp3, e1.off np, rfl, .nil, List.nodup_nil⟩ j)
def rMx2 : List V → Hp → VK → Prop := fun xs H Q => ∃ i j, xs = [.int i, .int j] ∧ Q (.int (if j > i then j else i)) H
theorem rq_max2 : RCb K rMx2 (fun ds P => as2 ds fun a b => match a, b with | .int i, .int j => P (.int (if j > i then j else i)) | _, _ => False) := by
  intro bg M H xs ds P Q k hx h q
  obtain ⟨a, b, rfl, g⟩ := as2_of h
  cases hx with
  | cons h1 t =>
    cases t with
    | cons h2 t =>
      cases t
      split at g
      · cases h1.int
        cases h2.int
        exact ⟨_, _, rfl, q _ _ M H g (.refl k) (.int _)⟩
      · exact g.elim
end GL

namespace LW
open PySem PySem.Spec PyProof.Rows L2 GL
/-! what is said of tables -/
abbrev Tb := Str × Nat × List (List Int)
def tbV (t : Tb) : PyData := .tuple [.int (t.2.1 : Nat), .tuple (t.2.2.map rowI)]
def tbKv (t : Tb) : Str × PyData := (t.1, tbV t)
def tsD (ts : List Tb) : PyData := dictD (ts.map tbKv)
structure TOk (t : Tb) : Prop where
  s : SmS t.1
  w0 : 1 ≤ t.2.1
  w6 : t.2.1 ≤ 6
  so : t.2.2.Pairwise (· ≤ ·)
  nd : t.2.2.Nodup
  r : ∀ r ∈ t.2.2, r.length = t.2.1 ∧ ∀ x ∈ r, -1 ≤ x ∧ x ≤ 7
  n : t.2.2.length ≤ 40
structure TsOk (q : Qs) (ts : List Tb) : Prop where
  nd : (ts.map (·.1)).Nodup
  ok : ∀ t ∈ ts, TOk t
  fit : ∀ a ∈ q.as, ∃ t ∈ ts, t.1 = a.2.1 ∧ t.2.1 = a.2.2.length
  n : ts.length ≤ 9
def wTables : List DV → (PyData → Prop) → Prop := fun ds P => ∃ (q : Qs) (most : Nat), ds = [.bag, .im (qD q), .im (.int (most : Nat))] ∧ QOk q ∧ Tidy q ∧ Nm q ∧ 1 ≤ most ∧ most ≤ 20 ∧ ∀ ts : List Tb, TsOk q ts → (∀ t ∈ ts, t.2.2.length ≤ 2 * most) → P (tsD ts)
theorem len_law_tables_for (ds : List DV) (P : PyData → Prop) (h : wTables ds P) : ds.length = 3 := by obtain ⟨_, _, rfl, _⟩ := h; rfl
theorem len_sub {α : Type} [DecidableEq α] : ∀ {l m : List α}, l.Nodup → (∀ x ∈ l, x ∈ m) → l.length ≤ m.length
  | [], _, _, _ => Nat.zero_le _
  | a :: l, m, nd, h => by
    rw [List.nodup_cons] at nd
    have ha := h a List.mem_cons_self
    have := len_sub (l := l) (m := m.erase a) nd.2 fun x hx => (List.mem_erase_of_ne (fun z => nd.1 (by rw [← z]; exact hx))).mpr (h x (List.mem_cons_of_mem _ hx))
    rw [List.length_erase_of_mem ha] at this
    have l1 := List.length_pos_of_mem ha
    rw [List.length_cons]
    omega
theorem putS_new {kvs : List (Str × PyData)} {x : Str} {d : PyData} (h : x ∉ kvs.map (·.1)) : putS kvs x d = kvs ++ [(x, d)] := by
  unfold putS
  rw [decide_eq_false h, if_neg Bool.false_ne_true]
theorem putS_tb {ts : List Tb} {t : Tb} (h : t.1 ∉ ts.map (·.1)) : putS (ts.map tbKv) t.1 (tbV t) = (ts ++ [t]).map tbKv := by
  rw [putS_new (by rw [List.map_map]; exact h), List.map_append]
  rfl
def other1 : Tb := (Str.ofString "other", 1, [[5]])
theorem other_sm : SmS (Str.ofString "other") := smSB_of (by decide +kernel)
theorem other_tb : Str.ofString "other" ∉ tb8 := by decide +kernel
theorem other_ok : TOk other1 := ⟨other_sm, Nat.le_refl _, by decide, List.pairwise_singleton _ _, by show [[(5:Int)]].Nodup; decide, fun r h => by
  cases List.mem_singleton.mp h
  exact ⟨rfl, fun x h => by cases List.mem_singleton.mp h; exact ⟨by decide, by decide⟩⟩, by decide⟩
/-- where a column stands -/
theorem at_col {l : List Str} {x : Str} (h : x ∈ l) : ∃ j : Nat, l[j]? = some x ∧ ∀ m, m < j → l[m]? ≠ some x := by
  induction l with
  | nil => cases h
  | cons a l ih =>
    by_cases e : a = x
    · exact ⟨0, by rw [e]; rfl, fun m h => absurd h (Nat.not_lt_zero _)⟩
    · rcases List.mem_cons.mp h with z | z
      · exact absurd z.symm e
      · obtain ⟨j, h1, h2⟩ := ih z
        refine ⟨j + 1, h1, fun m hm => ?_⟩
        cases m with
        | zero => exact fun w => e (by cases w; rfl)
        | succ m => exact h2 m (by omega)
theorem maps_of {α : Type} {f : α → PyData} {R : α → Prop} : ∀ {ds : List PyData}, (∀ d ∈ ds, ∃ x, d = f x ∧ R x) → ∃ xs : List α, ds = xs.map f ∧ ∀ x ∈ xs, R x
  | [], _ => ⟨[], rfl, fun _ z => nomatch z⟩
  | d :: ds, h => by
    obtain ⟨x, rfl, hx⟩ := h d List.mem_cons_self
    obtain ⟨xs, rfl, h2⟩ := maps_of fun e he => h e (List.mem_cons_of_mem _ he)
    exact ⟨x :: xs, rfl, fun y hy => by
      rcases List.mem_cons.mp hy with rfl | hy
      · exact hx
      · exact h2 y hy⟩
section
variable {α : Type} {wg : PyData → En → (En → Prop) → Prop} {wt : En → (Bool → Prop) → Prop} {we : W} {vs : List Nat} {ρ : En} {P : List PyData → Prop}
theorem lci_dr (f : α → PyData) (l : List α) (R : PyData → Prop) (hl : l.length ≤ 1000)
    (step : ∀ a ∈ l, ∀ (acc : List PyData) (J : List PyData → Prop), (∀ d, R d → J (acc ++ [d])) → wg (f a) (wipeD ρ vs) fun ρ' => wt ρ' fun b => if b = true then we ρ' fun y => J (acc ++ [y]) else J acc)
    (fin : ∀ ds : List PyData, ds.length = l.length → (∀ d ∈ ds, R d) → P ds) : WLcI wg wt we vs ρ P (l.map f) :=
  (lc_dr (wwi := fun _ P' => P' (l.map f)) f l R hl (fun P' h => h) step fin).go
end
theorem b2I_01 (b : Bool) : 0 ≤ b2I b ∧ b2I b ≤ 1 := by cases b <;> decide
end LW

namespace LW
open PySem PySem.Spec PyProof.Rows L2 GL
/-! what is said of points and ranges -/
def intD (d : PyData) : Bool := isInt d && !isBool d
def rowD : PyData → Bool
  | .tuple ds => decide (1 ≤ ds.length) && ds.all intD
  | _ => false
abbrev Ends2 := Option Int × Option Int
def rD2 (p : Ends2) : PyData := .tuple [oD p.1, oD p.2]
def rngF (rs : List Rng) (c : Str) : Ends2 := ((rs.find? fun r => r.1 == c).map (·.2)).getD (none, none)
def loB : Option Int → Int → Bool
  | none, _ => true
  | some l, v => decide (l ≤ v)
def hiB : Int → Option Int → Bool
  | _, none => true
  | v, some h => decide (v ≤ h)
def btw (lo : Option Int) (v : Int) (hi : Option Int) : Bool := loB lo v && hiB v hi
def letsF (rs : List Rng) (c : Str) (v : Int) : Bool := btw (rngF rs c).1 v (rngF rs c).2
def intV : PyData → Int
  | .int i => i
  | _ => 0
def pointD (q : Qs) : PyData → Bool
  | .tuple ds => ds.all intD && (decide (ds.length = q.cs.length) && (q.cs.zip (ds.map intV)).all fun p => letsF q.rs p.1 p.2)
  | _ => false
def ixOf (x : Str) : List Str → Nat
  | [] => 0
  | a :: l => if a = x then 0 else ixOf x l + 1
theorem ixOf_at {x : Str} : ∀ {l : List Str}, x ∈ l → l[ixOf x l]? = some x
  | [], h => nomatch h
  | a :: l, h => by
    unfold ixOf
    by_cases e : a = x
    · rw [if_pos e, e]; rfl
    · rw [if_neg e, List.getElem?_cons_succ]
      exact ixOf_at ((List.mem_cons.mp h).resolve_left fun z => e z.symm)
theorem ixOf_no {x : Str} : ∀ {l : List Str} (m : Nat), m < ixOf x l → l[m]? ≠ some x
  | [], m, h => by simp
  | a :: l, m, h => by
    unfold ixOf at h
    by_cases e : a = x
    · rw [if_pos e] at h; omega
    · rw [if_neg e] at h
      cases m with
      | zero => intro z; cases z; exact e rfl
      | succ m => rw [List.getElem?_cons_succ]; exact ixOf_no m (by omega)
def partF (q : Qs) (a : Atm) (ns : List Int) : List Int := a.2.2.map fun c => (ns[ixOf c q.cs]?).getD 0
/-! names in order -/
def tbS : List Str := ["p", "q7", "r", "s", "t", "u", "v", "w"]
def rk (x : Str) : Nat := tbS.idxOf x
theorem rk_lt : ∀ x ∈ tb8, ∀ y ∈ tb8, ltCps x.cps.toList y.cps.toList = decide (rk x < rk y) := by decide +kernel
theorem rk_inj : ∀ x ∈ tb8, ∀ y ∈ tb8, rk x = rk y → x = y := by decide +kernel
theorem rising_rk : ∀ {ys : List Str} {x : Str}, (∀ y ∈ x :: ys, y ∈ tb8) → risingS x ys = true → (x :: ys).Pairwise fun a b => rk a ≤ rk b
  | [], x, _, _ => by simp
  | y :: ys, x, h, r => by
    have hx := h x List.mem_cons_self
    have hy := h y (List.mem_cons_of_mem _ List.mem_cons_self)
    have r1 : (!(ltCps y.cps.toList x.cps.toList) && risingS y ys) = true := r
    rw [Bool.and_eq_true, Bool.not_eq_true', rk_lt y hy x hx] at r1
    have h1 : rk x ≤ rk y := Nat.not_lt.mp (of_decide_eq_false r1.1)
    have ih := rising_rk (fun z hz => h z (List.mem_cons_of_mem _ hz)) r1.2
    refine List.pairwise_cons.mpr ⟨fun z hz => ?_, ih⟩
    rcases List.mem_cons.mp hz with rfl | hz
    · exact h1
    · exact Nat.le_trans h1 ((List.pairwise_cons.mp ih).1 z hz)
def srtT (l : List Str) : List Str := l.mergeSort fun a b => decide (rk a ≤ rk b)
theorem rank_one {α : Type} (ρ : α → Nat) : ∀ {l m : List α}, l.Pairwise (fun a b => ρ a ≤ ρ b) → m.Pairwise (fun a b => ρ a ≤ ρ b) → (∀ a ∈ l, ∀ b ∈ l, ρ a = ρ b → a = b) → l.Perm m → l = m
  | [], m, _, _, _, p => (List.Perm.eq_nil p.symm).symm
  | a :: l, [], _, _, _, p => absurd (List.Perm.eq_nil p) (by simp)
  | a :: l, b :: m, hl, hm, inj, p => by
    rw [List.pairwise_cons] at hl hm
    have e : a = b := by
      have ha : a ∈ b :: m := p.mem_iff.mp List.mem_cons_self
      have hb : b ∈ a :: l := p.mem_iff.mpr List.mem_cons_self
      rcases List.mem_cons.mp ha with e | ha
      · exact e
      · rcases List.mem_cons.mp hb with e | hb
        · exact e.symm
        · exact inj a List.mem_cons_self b (List.mem_cons_of_mem _ hb) (Nat.le_antisymm (hl.1 b hb) (hm.1 a ha))
    subst e
    rw [rank_one ρ hl.2 hm.2 (fun x hx y hy => inj x (List.mem_cons_of_mem _ hx) y (List.mem_cons_of_mem _ hy)) p.cons_inv]
theorem srtT_of {ys l : List Str} (h : ∀ x ∈ l, x ∈ tb8) (p : ys.Perm l) (s : sortedS ys = true) : ys = srtT l := by
  have hy : ∀ y ∈ ys, y ∈ tb8 := fun y hy => h y (p.mem_iff.mp hy)
  have py : ys.Pairwise fun a b => rk a ≤ rk b := by
    cases ys with
    | nil => simp
    | cons x r => exact rising_rk hy s
  have ps : (srtT l).Pairwise fun a b => rk a ≤ rk b := by
    have := List.pairwise_mergeSort (le := fun a b : Str => decide (rk a ≤ rk b)) (fun a b c h1 h2 => decide_eq_true (Nat.le_trans (of_decide_eq_true h1) (of_decide_eq_true h2)))
      (fun a b => by rw [Bool.or_eq_true, decide_eq_true_eq, decide_eq_true_eq]; exact Nat.le_total _ _) l
    exact this.imp fun h => of_decide_eq_true h
  exact rank_one rk py ps (fun a ha b hb e => rk_inj a (hy a ha) b (hy b hb) e) (p.trans (List.mergeSort_perm l _).symm)
/-! ranges narrowed -/
def mx : Option Int → Option Int → Option Int
  | none, b => b
  | some a, none => some a
  | some a, some b => some (max a b)
def mn : Option Int → Option Int → Option Int
  | none, b => b
  | some a, none => some a
  | some a, some b => some (min a b)
def over : Option Int → Option Int → Bool
  | some f, some l => decide (l < f)
  | _, _ => false
def putR (rs : List Rng) (c : Str) (f l : Option Int) : List Rng :=
  if decide (c ∈ rs.map (·.1)) = true then rs.map fun r => if r.1 == c then (c, f, l) else r else rs ++ [(c, f, l)]
def narF (q : Qs) (c : Str) (lo hi : Option Int) : PyData :=
  if (mx (rngF q.rs c).1 lo).isNone && (mn (rngF q.rs c).2 hi).isNone then qD ⟨q.cs, q.as, q.rs.filter fun r => !(r.1 == c)⟩
  else if over (mx (rngF q.rs c).1 lo) (mn (rngF q.rs c).2 hi) then .none
  else qD ⟨q.cs, q.as, putR q.rs c (mx (rngF q.rs c).1 lo) (mn (rngF q.rs c).2 hi)⟩
theorem some_ints (l : List (Option Int)) : (l.filter fun o => o.isSome).map oD = (l.filterMap id).map .int := by
  induction l with
  | nil => rfl
  | cons a l ih =>
    cases a with
    | none => exact ih
    | some i =>
      show oD (some i) :: (l.filter fun o => o.isSome).map oD = .int i :: (l.filterMap id).map .int
      rw [ih]
      rfl
theorem hi_mx {a b o : Option Int} (h : K2.IsHi ([a, b].filterMap id) o) : o = mx a b := by
  rcases h with ⟨z, rfl⟩ | ⟨M, rfl, h1, h2⟩
  · cases a <;> cases b <;> simp_all [mx]
  · cases a <;> cases b <;> simp_all [mx] <;> omega
theorem lo_mn {a b o : Option Int} (h : K2.IsLo ([a, b].filterMap id) o) : o = mn a b := by
  rcases h with ⟨z, rfl⟩ | ⟨M, rfl, h1, h2⟩
  · cases a <;> cases b <;> simp_all [mn]
  · cases a <;> cases b <;> simp_all [mn] <;> omega
theorem max_mx {a b : Option Int} {m : Int} (h1 : m ∈ [a, b].filterMap id) (h2 : ∀ y, y ∈ [a, b].filterMap id → y ≤ m) : some m = mx a b := hi_mx (.inr ⟨m, rfl, h1, h2⟩)
theorem min_mn {a b : Option Int} {m : Int} (h1 : m ∈ [a, b].filterMap id) (h2 : ∀ y, y ∈ [a, b].filterMap id → m ≤ y) : some m = mn a b := lo_mn (.inr ⟨m, rfl, h1, h2⟩)
theorem mx_nil {a b : Option Int} (h : [a, b].filterMap id = []) : mx a b = none := by cases a <;> cases b <;> simp_all [mx]
theorem mn_nil {a b : Option Int} (h : [a, b].filterMap id = []) : mn a b = none := by cases a <;> cases b <;> simp_all [mn]
theorem mx_sm {a b : Option Int} (h : SmO a) (g : SmO b) : SmO (mx a b) := by
  intro i e
  cases a <;> cases b <;> simp only [mx, Option.some.injEq] at e
  · cases e
  · exact g i (by rw [e])
  · exact h i (by rw [e])
  · rename_i x y
    have := h x rfl
    have := g y rfl
    omega
theorem mn_sm {a b : Option Int} (h : SmO a) (g : SmO b) : SmO (mn a b) := by
  intro i e
  cases a <;> cases b <;> simp only [mn, Option.some.injEq] at e
  · cases e
  · exact g i (by rw [e])
  · exact h i (by rw [e])
  · rename_i x y
    have := h x rfl
    have := g y rfl
    omega
theorem rng_ok {rs : List Rng} (h : ∀ r ∈ rs, ROk r) (c : Str) : SmO (rngF rs c).1 ∧ SmO (rngF rs c).2 := by
  unfold rngF
  cases e : rs.find? fun r => r.1 == c with
  | none => exact ⟨fun _ z => (nomatch z), fun _ z => (nomatch z)⟩
  | some r =>
    have := h r (List.mem_of_find?_eq_some e)
    exact ⟨this.lo, this.hi⟩
theorem rng_drop {rs : List Rng} {c : Str} {i : Nat} {r : Rng} (h : rs[i]? = some r) : rngF (rs.drop i) c = if (r.1 == c) = true then r.2 else rngF (rs.drop (i + 1)) c := by
  obtain ⟨l, e⟩ := List.getElem?_eq_some_iff.mp h
  rw [List.drop_eq_getElem_cons l, e]
  unfold rngF
  rw [List.find?_cons]
  cases r.1 == c <;> rfl
theorem eqvS (x y : Str) : PyData.eqv (.str x) (.str y) = (x == y) := by simp [PyData.eqv]
theorem eqvI (x y : Int) : PyData.eqv (.int x) (.int y) = (x == y) := by simp [PyData.eqv]
theorem eqvM_nil {α : Type} (f : α → PyData) (l : List α) : PyData.eqv (.list (l.map f)) (.list []) = l.isEmpty := by
  cases l <;> simp [PyData.eqv, PyData.eqvAll]
theorem rD2_ok {p : Ends2} (h : SmO p.1 ∧ SmO p.2) : Ok 100 1 (rD2 p) := (Ok.tuple (h.1.ok.cons' (h.2.ok.cons' (OkAll.nil 0)))).mono (by omega) (Nat.le_refl _)
theorem ints_of {ds : List PyData} (h : ds.all intD = true) : ds = (ds.map intV).map .int := by
  induction ds with
  | nil => rfl
  | cons d ds ih =>
    rw [List.all_cons, Bool.and_eq_true] at h
    rw [List.map_cons, List.map_cons, ← ih h.2]
    cases d <;> first | rfl | (have := h.1; simp [intD, GL.isInt, GL.isBool] at this)
theorem rowD_point {q : Qs} (c0 : q.cs ≠ []) (ds : List PyData) : pointD q (.tuple ds) = (rowD (.tuple ds) && (decide (ds.length = q.cs.length) && (q.cs.zip (ds.map intV)).all fun p => letsF q.rs p.1 p.2)) := by
  show (ds.all intD && (decide (ds.length = q.cs.length) && (q.cs.zip (ds.map intV)).all fun p => letsF q.rs p.1 p.2)) = ((decide (1 ≤ ds.length) && ds.all intD) && (decide (ds.length = q.cs.length) && (q.cs.zip (ds.map intV)).all fun p => letsF q.rs p.1 p.2))
  by_cases h : ds.length = q.cs.length
  · have : 1 ≤ ds.length := by rw [h]; exact List.length_pos_iff.mpr c0
    rw [decide_eq_true this, Bool.true_and]
  · rw [decide_eq_false h, Bool.false_and, Bool.and_false, Bool.and_false]
theorem ixT_ints (ns : List Int) (r : List PyData) (h : ns ≠ []) : ixT (ns.map .int ++ r) = false := by
  cases ns with
  | nil => exact absurd rfl h
  | cons n ns => rfl
theorem ixT_ints0 (ns : List Int) : ixT (ns.map .int) = false := by cases ns <;> rfl
theorem names_rs (rs : List Rng) : (rs.filter fun _ => true).map (fun r => PyData.str r.1) = (rs.map (·.1)).map .str := by
  rw [List.filter_eq_self.mpr fun _ _ => rfl, List.map_map]
  rfl
/-- one range as the law tells it -/
def stepR (c : Str) (f l : Option Int) (r : Rng) : List Rng := if r.1 == c then (if f.isNone && l.isNone then [] else [(c, f, l)]) else [r]
def lawR (rs : List Rng) (c : Str) (f l : Option Int) : List Rng := rs.flatMap (stepR c f l) ++ (if !decide (c ∈ rs.map (·.1)) && !(f.isNone && l.isNone) then [(c, f, l)] else [])
theorem lawR_none (rs : List Rng) (c : Str) : lawR rs c none none = rs.filter fun r => !(r.1 == c) := by
  unfold lawR
  rw [show (!(Option.isNone (none : Option Int) && Option.isNone (none : Option Int))) = false from rfl, Bool.and_false, if_neg Bool.false_ne_true, List.append_nil]
  induction rs with
  | nil => rfl
  | cons r rs ih =>
    rw [List.flatMap_cons, ih, List.filter_cons]
    unfold stepR
    cases r.1 == c <;> rfl
theorem flat_map (rs : List Rng) (c : Str) (f l : Option Int) (h : (f.isNone && l.isNone) = false) : rs.flatMap (stepR c f l) = rs.map fun r => if r.1 == c then (c, f, l) else r := by
  induction rs with
  | nil => rfl
  | cons r rs ih =>
    rw [List.flatMap_cons, ih, List.map_cons]
    unfold stepR
    rw [h]
    cases r.1 == c <;> rfl
theorem lawR_some (rs : List Rng) (c : Str) (f l : Option Int) (h : (f.isNone && l.isNone) = false) : lawR rs c f l = putR rs c f l := by
  unfold lawR putR
  rw [flat_map rs c f l h, h, show (!false) = true from rfl, Bool.and_true]
  by_cases e : c ∈ rs.map (·.1)
  · rw [decide_eq_true e]
    show _ ++ [] = _
    rw [List.append_nil, if_pos rfl]
  · rw [decide_eq_false e, if_neg Bool.false_ne_true]
    show _ ++ [(c, f, l)] = _
    congr 1
    refine (List.map_congr_left fun r hr => ?_).trans (List.map_id rs)
    have : (r.1 == c) = false := beq_eq_false_iff_ne.mpr fun z => e (by rw [← z]; exact List.mem_map_of_mem hr)
    rw [this]
    rfl
theorem narF_law (q : Qs) (c : Str) (lo hi : Option Int) : narF q c lo hi = if over (mx (rngF q.rs c).1 lo) (mn (rngF q.rs c).2 hi) then .none else qD ⟨q.cs, q.as, lawR q.rs c (mx (rngF q.rs c).1 lo) (mn (rngF q.rs c).2 hi)⟩ := by
  unfold narF
  generalize mx (rngF q.rs c).1 lo = f
  generalize mn (rngF q.rs c).2 hi = l
  cases h : f.isNone && l.isNone with
  | true =>
    have h1 : f = none := by cases f with | none => rfl | some x => cases h
    have h2 : l = none := by subst h1; cases l with | none => rfl | some x => cases h
    subst h1 h2
    rw [lawR_none]
    rfl
  | false =>
    rw [lawR_some _ _ _ _ h, if_neg Bool.false_ne_true]
theorem take_flat {rs : List Rng} {i : Nat} {r : Rng} (g : Rng → List Rng) (h : rs[i]? = some r) : (rs.take (i + 1)).flatMap g = (rs.take i).flatMap g ++ g r := by
  rw [List.take_add_one, h, List.flatMap_append]
  simp
theorem stepR_len (rs : List Rng) (c : Str) (f l : Option Int) : (rs.flatMap (stepR c f l)).length ≤ rs.length := by
  induction rs with
  | nil => exact Nat.le_refl _
  | cons r rs ih =>
    rw [List.flatMap_cons, List.length_append, List.length_cons]
    have : (stepR c f l r).length ≤ 1 := by
      unfold stepR
      cases r.1 == c
      · exact Nat.le_refl _
      · cases f.isNone && l.isNone
        · exact Nat.le_refl _
        · exact Nat.zero_le _
    omega
/-! the promises -/
def wInt : List DV → (PyData → Prop) → Prop := fun ds P => ∃ d, ds = [.im d] ∧ P (.bool (intD d))
def wRow : List DV → (PyData → Prop) → Prop := fun ds P => ∃ d, ds = [.im d] ∧ (∀ es, d = .tuple es → es.length ≤ 1000) ∧ P (.bool (rowD d))
def wRng : List DV → (PyData → Prop) → Prop := fun ds P => ∃ (q : Qs) (c : Str), ds = [.im (qD q), .im (.str c)] ∧ q.rs.length ≤ 6 ∧ (∀ r ∈ q.rs, ROk r) ∧ P (rD2 (rngF q.rs c))
def wBtw : List DV → (PyData → Prop) → Prop := fun ds P => ∃ (lo : Option Int) (v : Int) (hi : Option Int), ds = [.im (oD lo), .im (.int v), .im (oD hi)] ∧ P (.bool (btw lo v hi))
def wLets : List DV → (PyData → Prop) → Prop := fun ds P => ∃ (q : Qs) (c : Str) (v : Int), ds = [.im (qD q), .im (.str c), .im (.int v)] ∧ q.rs.length ≤ 6 ∧ (∀ r ∈ q.rs, ROk r) ∧ P (.bool (letsF q.rs c v))
def wPoint : List DV → (PyData → Prop) → Prop := fun ds P => ∃ (q : Qs) (d : PyData), ds = [.im (qD q), .im d] ∧ QOk q ∧ (∀ es, d = .tuple es → es.length ≤ 1000) ∧ P (.bool (pointD q d))
def wPart : List DV → (PyData → Prop) → Prop := fun ds P => ∃ (q : Qs) (n : Nat) (a : Atm) (ns : List Int), ds = [.im (qD q), .im (.int (n : Nat)), .im (.tuple (ns.map .int))] ∧ QOk q ∧ q.as[n]? = some a ∧ ns.length = q.cs.length ∧ P (.tuple ((partF q a ns).map .int))
def wNames : List DV → (PyData → Prop) → Prop := fun ds P => ∃ q : Qs, ds = [.im (qD q)] ∧ QOk q ∧ P (.tuple ((srtT (q.as.map (·.2.1))).map .str))
def wNar : List DV → (PyData → Prop) → Prop := fun ds P => ∃ (q : Qs) (c : Str) (lo hi : Option Int), ds = [.im (qD q), .im (.str c), .im (oD lo), .im (oD hi)] ∧ QOk q ∧ P (narF q c lo hi)
def wOrder : List DV → (PyData → Prop) → Prop := fun ds P => ∃ (q : Qs) (d : PyData), ds = [.im (qD q), .im d] ∧ P (.tuple [d, .tuple (q.as.map atD), .tuple (q.rs.map rD)])
def NearOk (d : PyData) : Prop := (∃ ds, d = .tuple ds ∧ ds.length ≤ 100 ∧ Ok 5000 1 d) ∨ (∃ ds, d = .list ds ∧ Ok 5000 1 d) ∨ (flatD d = true ∧ Ok 100 0 d) ∨ d = .dict []
def wNear : List DV → (PyData → Prop) → Prop := fun ds P => ∃ q : Qs, ds = [.bag, .im (qD q)] ∧ QOk q ∧ ∀ d, NearOk d → P d
theorem near_tup {l : List PyData} (hl : l.length ≤ 100) (h : ∀ d ∈ l, Ok 41 0 d) : NearOk (.tuple l) := by
  have := OkAll.map (f := id) (l := l) fun d hd => h d hd
  rw [List.map_id] at this
  exact .inl ⟨l, rfl, hl, (Ok.tuple this).mono (by omega) (Nat.le_refl _)⟩
theorem near_list {l : List PyData} (hl : l.length ≤ 100) (h : ∀ d ∈ l, Ok 41 0 d) : NearOk (.list l) := by
  have := OkAll.map (f := id) (l := l) fun d hd => h d hd
  rw [List.map_id] at this
  exact .inr (.inl ⟨l, rfl, (Ok.list this).mono (by omega) (Nat.le_refl _)⟩)
theorem near_len {d : PyData} (h : NearOk d) : ∀ es, d = .tuple es → es.length ≤ 1000 := by
  rintro es rfl
  rcases h with ⟨ds, e, hl, _⟩ | ⟨ds, e, _⟩ | ⟨e, _⟩ | e
  · cases e; omega
  · cases e
  · cases e
  · cases e
theorem near_repr {d : PyData} (h : NearOk d) : (Shows d ∧ itemsD d ≠ none) ∨ (ShowsW d ∧ (flatD d = true ∨ d = .dict [])) := by
  rcases h with ⟨ds, rfl, hl, ok⟩ | ⟨ds, rfl, ok⟩ | ⟨e, ok⟩ | rfl
  · exact .inl ⟨ok.shows (by omega) (by omega), fun z => nomatch z⟩
  · exact .inl ⟨ok.shows (by omega) (by omega), fun z => nomatch z⟩
  · have s := ok.shows (by omega) (by omega)
    exact .inr ⟨⟨s.1, s.2.2.1, s.2.2.2⟩, .inl e⟩
  · exact .inr ⟨(OkW.dict (OkWKv.nil 0)).shows (by omega) (by omega), .inr rfl⟩
theorem q_ok3 {cs : List Str} {as : List Atm} {rs : List Rng} (h0 : cs.length ≤ 6) (h1 : ∀ x ∈ cs, SmS x) (h2 : as.length ≤ 8) (h3 : ∀ a ∈ as, AOk a) (h4 : rs.length ≤ 7) (h5 : ∀ r ∈ rs, ROk r) : Ok 4000 4 (qD ⟨cs, as, rs⟩) := by
  have g1 : Ok 66 3 (.tuple (cs.map .str)) := (Ok.tuple (OkAll.map fun x hx => (h1 x hx).ok)).mono (by omega) (by omega)
  have g2 : Ok 808 3 (.tuple (as.map atD)) := (Ok.tuple (OkAll.map fun x hx => (h3 x hx).ok)).mono (by omega) (by omega)
  have g3 : Ok 1407 3 (.tuple (rs.map rD)) := (Ok.tuple (OkAll.map fun x hx => (h5 x hx).ok)).mono (by omega) (by omega)
  exact (Ok.tuple (g1.cons' (g2.cons' (g3.cons' (OkAll.nil 3))))).mono (by omega) (Nat.le_refl _)
theorem nar_ok {q : Qs} (ok : QOk q) {c : Str} (hc : SmS c) {lo hi : Option Int} (hlo : SmO lo) (hhi : SmO hi) : Ok 4000 4 (narF q c lo hi) := by
  obtain ⟨r1, r2⟩ := rng_ok ok.rb c
  have f := mx_sm r1 hlo
  have l := mn_sm r2 hhi
  unfold narF
  split
  · exact q_ok3 ok.cl ok.cb ok.al ok.ab (Nat.le_trans (List.length_filter_le _ _) (by have := ok.rl; omega)) fun r hr => ok.rb r (List.mem_filter.mp hr).1
  · split
    · exact Ok.none.mono (by omega) (by omega)
    · refine q_ok3 ok.cl ok.cb ok.al ok.ab ?_ fun r hr => ?_
      · unfold putR
        have := ok.rl
        split
        · rw [List.length_map]; omega
        · rw [List.length_append]; show _ + 1 ≤ 7; omega
      · unfold putR at hr
        split at hr
        · obtain ⟨x, hx, e⟩ := List.mem_map.mp hr
          split at e
          · rw [← e]; exact ⟨hc, f, l⟩
          · rw [← e]; exact ok.rb x hx
        · rcases List.mem_append.mp hr with hr | hr
          · exact ok.rb r hr
          · rw [List.mem_singleton.mp hr]; exact ⟨hc, f, l⟩
theorem names_ok {q : Qs} (ok : QOk q) : Ok 200 1 (.tuple ((srtT (q.as.map (·.2.1))).map .str)) := by
  have : ∀ x ∈ srtT (q.as.map (·.2.1)), Ok 10 0 (.str x) := fun x hx => by
    have h := (List.mergeSort_perm (q.as.map (·.2.1)) fun a b => decide (rk a ≤ rk b)).mem_iff.mp hx
    obtain ⟨a, ha, rfl⟩ := List.mem_map.mp h
    exact (tb8_sm _ (ok.ab a ha).t).ok
  refine (Ok.tuple (OkAll.map this)).mono ?_ (Nat.le_refl _)
  have e : (srtT (q.as.map (·.2.1))).length = q.as.length := by
    unfold srtT
    rw [List.length_mergeSort, List.length_map]
  have := ok.al
  omega
theorem idx_ok {q : Qs} (ok : QOk q) (c : Str) : Ok 400 1 (.tuple ((idx q.as c).map .int)) := by
  have l := idx_len q.as c
  have := ok.al
  refine (Ok.tuple (OkAll.map fun i hi => Ok.int ?_)).mono (by omega) (Nat.le_refl _)
  obtain ⟨n, a, rfl, hn, _⟩ := idx_mem.mp hi
  have := (List.getElem?_eq_some_iff.mp hn).1
  omega
def partD (q : Qs) (ns : List Int) (i : Nat) : PyData :=
  match q.as[i]? with
  | some a => .tuple ((partF q a ns).map .int)
  | none => .none
theorem part_ok {q : Qs} (ok : QOk q) {ns : List Int} (h : ∀ n ∈ ns, n.natAbs ≤ 10 ^ 10) (i : Nat) : Ok 400 1 (partD q ns i) := by
  unfold partD
  cases e : q.as[i]? with
  | none => exact Ok.none.mono (by omega) (by omega)
  | some a =>
    have al := (ok.ab a (List.mem_of_getElem? e)).n
    refine (Ok.tuple (OkAll.map fun x hx => Ok.int ?_)).mono (by unfold partF; rw [List.length_map]; omega) (Nat.le_refl _)
    unfold partF at hx
    obtain ⟨c, _, rfl⟩ := List.mem_map.mp hx
    cases e2 : ns[ixOf c q.cs]? with
    | none => decide
    | some v =>
      have := h v (List.mem_of_getElem? e2)
      show v.natAbs < _
      omega
theorem lenis_integer (ds : List DV) (P : PyData → Prop) (h : wInt ds P) : ds.length = 1 := by obtain ⟨_, rfl, _⟩ := h; rfl
theorem len_law_is_int (ds : List DV) (P : PyData → Prop) (h : wInt ds P) : ds.length = 1 := by obtain ⟨_, rfl, _⟩ := h; rfl
theorem lenis_row (ds : List DV) (P : PyData → Prop) (h : wRow ds P) : ds.length = 1 := by obtain ⟨_, rfl, _⟩ := h; rfl
theorem lenrange_of (ds : List DV) (P : PyData → Prop) (h : wRng ds P) : ds.length = 2 := by obtain ⟨_, _, rfl, _⟩ := h; rfl
theorem len_law_range_of (ds : List DV) (P : PyData → Prop) (h : wRng ds P) : ds.length = 2 := by obtain ⟨_, _, rfl, _⟩ := h; rfl
theorem lenis_between (ds : List DV) (P : PyData → Prop) (h : wBtw ds P) : ds.length = 3 := by obtain ⟨_, _, _, rfl, _⟩ := h; rfl
theorem lenlets (ds : List DV) (P : PyData → Prop) (h : wLets ds P) : ds.length = 3 := by obtain ⟨_, _, _, rfl, _⟩ := h; rfl
theorem len_law_is_in_range (ds : List DV) (P : PyData → Prop) (h : wLets ds P) : ds.length = 3 := by obtain ⟨_, _, _, rfl, _⟩ := h; rfl
theorem lenis_point (ds : List DV) (P : PyData → Prop) (h : wPoint ds P) : ds.length = 2 := by obtain ⟨_, _, rfl, _⟩ := h; rfl
theorem len_law_is_point (ds : List DV) (P : PyData → Prop) (h : wPoint ds P) : ds.length = 2 := by obtain ⟨_, _, rfl, _⟩ := h; rfl
theorem lenpart_of (ds : List DV) (P : PyData → Prop) (h : wPart ds P) : ds.length = 3 := by obtain ⟨_, _, _, _, rfl, _⟩ := h; rfl
theorem len_law_part (ds : List DV) (P : PyData → Prop) (h : wPart ds P) : ds.length = 3 := by obtain ⟨_, _, _, _, rfl, _⟩ := h; rfl
theorem lennames_of (ds : List DV) (P : PyData → Prop) (h : wNames ds P) : ds.length = 1 := by obtain ⟨_, rfl, _⟩ := h; rfl
theorem lennarrowed (ds : List DV) (P : PyData → Prop) (h : wNar ds P) : ds.length = 4 := by obtain ⟨_, _, _, _, rfl, _⟩ := h; rfl
theorem len_law_narrowed (ds : List DV) (P : PyData → Prop) (h : wNar ds P) : ds.length = 4 := by obtain ⟨_, _, _, _, rfl, _⟩ := h; rfl
theorem lenin_order (ds : List DV) (P : PyData → Prop) (h : wOrder ds P) : ds.length = 2 := by obtain ⟨_, _, rfl, _⟩ := h; rfl
theorem len_law_near_point (ds : List DV) (P : PyData → Prop) (h : wNear ds P) : ds.length = 2 := by obtain ⟨_, rfl, _⟩ := h; rfl
end LW

namespace LW
open PySem PySem.Spec PyProof.Rows L2 GL
open PySem.W (dataLe AllAlike Sortable)
/-! paths -/
theorem le_head1 {a c : Int} {r s : List PyData} (h : dataLe false id (.tuple (.int a :: r)) (.tuple (.int c :: s)) = true) : a ≤ c := by
  refine Int.not_lt.mp fun z => ?_
  have h : (!(PyProof.Rows.lexLt PyProof.Rows.itemOrd (.inl 1 :: (.inl c :: PySem.W.keyToksAll s)) (.inl 1 :: (.inl a :: PySem.W.keyToksAll r)))) = true := h
  simp [PyProof.Rows.lexLt, PyProof.Rows.itemOrd, PyProof.Rows.itemLt] at h
  omega
theorem le_head2 {a b c d : Int} {r s : List PyData} (h : dataLe false id (.tuple (.int a :: .int b :: r)) (.tuple (.int c :: .int d :: s)) = true) : a < c ∨ a = c ∧ b ≤ d := by
  have h : (!(PyProof.Rows.lexLt PyProof.Rows.itemOrd (.inl 1 :: .inl c :: .inl 1 :: .inl d :: PySem.W.keyToksAll s) (.inl 1 :: .inl a :: .inl 1 :: .inl b :: PySem.W.keyToksAll r))) = true := h
  simp [PyProof.Rows.lexLt, PyProof.Rows.itemOrd, PyProof.Rows.itemLt] at h
  omega
theorem sortD_map {α : Type} (F : α → PyData) (l : List α) : ∃ m : List α, sortD (l.map F) = m.map F ∧ m.Perm l ∧ m.Pairwise (fun a b => dataLe false id (F a) (F b) = true) := by
  have pw : (sortD (l.map F)).Pairwise (fun a b => dataLe false id a b = true) :=
    List.pairwise_mergeSort (le := dataLe false id) (fun a b c => (PySem.W.sortLe_total _ false _).trans a b c) (fun a b => by rw [Bool.or_eq_true]; exact (PySem.W.sortLe_total _ false _).total a b) _
  obtain ⟨m, e, p⟩ := perm_map (List.mergeSort_perm (l.map F) (dataLe false id))
  have e : sortD (l.map F) = m.map F := e
  rw [e, List.pairwise_map] at pw
  exact ⟨m, e, p, pw⟩
def num (q : Qs) (x : Str) : Nat := (idx q.as x).length
def pos (q : Qs) (x : Str) : Nat := ixOf x q.cs
def rkq (q : Qs) (x : Str) : Nat := (8 - num q x) * 8 + pos q x
def abv (q : Qs) (x y : Str) : Bool := (idx q.as y).all (fun i => decide (i ∈ idx q.as x)) && (decide (num q y < num q x) || decide (pos q x < pos q y))
theorem ixOf_lt {x : Str} {l : List Str} (h : x ∈ l) : ixOf x l < l.length := (List.getElem?_eq_some_iff.mp (ixOf_at h)).1
theorem num_le {q : Qs} (ok : QOk q) (x : Str) : num q x ≤ 8 := Nat.le_trans (idx_len q.as x) ok.al
theorem pos_lt {q : Qs} (ok : QOk q) {x : Str} (h : x ∈ q.cs) : pos q x < 8 := by have := ixOf_lt h; have := ok.cl; unfold pos; omega
theorem rkq_le {q : Qs} (ok : QOk q) {x y : Str} (hx : x ∈ q.cs) (hy : y ∈ q.cs) : rkq q x ≤ rkq q y ↔ num q y < num q x ∨ num q x = num q y ∧ pos q x ≤ pos q y := by
  have := num_le ok x; have := num_le ok y; have := pos_lt ok hx; have := pos_lt ok hy
  unfold rkq
  omega
theorem rkq_lt {q : Qs} (ok : QOk q) {x y : Str} (hx : x ∈ q.cs) (hy : y ∈ q.cs) : rkq q x < rkq q y ↔ num q y < num q x ∨ num q x = num q y ∧ pos q x < pos q y := by
  have := num_le ok x; have := num_le ok y; have := pos_lt ok hx; have := pos_lt ok hy
  unfold rkq
  omega
theorem rkq_inj {q : Qs} (ok : QOk q) {x y : Str} (hx : x ∈ q.cs) (hy : y ∈ q.cs) (e : rkq q x = rkq q y) : x = y := by
  have := num_le ok x; have := num_le ok y; have := pos_lt ok hx; have := pos_lt ok hy
  have : pos q x = pos q y := by unfold rkq at e; omega
  have h1 := ixOf_at hx
  have h2 := ixOf_at hy
  unfold pos at this
  rw [this] at h1
  rw [h1] at h2
  cases h2
  rfl
theorem abv_iff {q : Qs} (ok : QOk q) {x y : Str} (hx : x ∈ q.cs) (hy : y ∈ q.cs) : abv q x y = true ↔ (∀ i ∈ idx q.as y, i ∈ idx q.as x) ∧ rkq q x < rkq q y := by
  rw [rkq_lt ok hx hy]
  unfold abv
  rw [Bool.and_eq_true, Bool.or_eq_true, decide_eq_true_eq, decide_eq_true_eq, List.all_eq_true]
  constructor
  · rintro ⟨h1, h2⟩
    have h3 : ∀ i ∈ idx q.as y, i ∈ idx q.as x := fun i hi => of_decide_eq_true (h1 i hi)
    have := len_sub (idx_nodup q.as y) h3
    refine ⟨h3, ?_⟩
    unfold num at *
    omega
  · rintro ⟨h1, h2⟩
    exact ⟨fun i hi => decide_eq_true (h1 i hi), by omega⟩
theorem nest_cmp {as : List Atm} (h : Nest as) {a : Atm} (ha : a ∈ as) {y z : Str} (hy : y ∈ a.2.2) (hz : z ∈ a.2.2) : (∀ i ∈ idx as z, i ∈ idx as y) ∨ (∀ i ∈ idx as y, i ∈ idx as z) := by
  obtain ⟨names, par, nd, hl⟩ := h
  obtain ⟨at_, hA⟩ := hl a ha
  obtain ⟨i, hi, ei⟩ := (hA y).mp hy
  obtain ⟨j, hj, ej⟩ := (hA z).mp hz
  have go : ∀ {y z : Str} {i j : Nat}, names[i]? = some y → names[j]? = some z → Anc par i j → ∀ k ∈ idx as z, k ∈ idx as y := fun {y z i j} ei ej hij k hk => by
    obtain ⟨n, b, rfl, hb, hzb⟩ := idx_mem.mp hk
    obtain ⟨at2, hB⟩ := hl b (List.mem_of_getElem? hb)
    obtain ⟨j2, hj2, ej2⟩ := (hB z).mp hzb
    have := nodup_get nd ej ej2
    subst this
    exact idx_mem.mpr ⟨n, b, rfl, hb, (hB y).mpr ⟨i, hij.trans hj2, ei⟩⟩
  rcases hi.two hj with h | h
  · exact .inl (go ei ej h)
  · exact .inr (go ej ei h)
/-- of two columns of one atom one is above -/
theorem abv_cmp {q : Qs} (ok : QOk q) (ne : Nest q.as) {a : Atm} (ha : a ∈ q.as) {y z : Str} (hy : y ∈ a.2.2) (hz : z ∈ a.2.2) (h : rkq q y < rkq q z) : abv q y z = true := by
  have cy := ok.sub a ha y hy
  have cz := ok.sub a ha z hz
  refine (abv_iff ok cy cz).mpr ⟨?_, h⟩
  rcases nest_cmp ne ha hy hz with g | g
  · exact g
  · have l1 := len_sub (idx_nodup q.as y) g
    have h := (rkq_lt ok cy cz).mp h
    have e : (idx q.as z).length = (idx q.as y).length := by unfold num at h; omega
    intro i hi
    refine Classical.byContradiction fun no => ?_
    have : ((idx q.as y)).length ≤ ((idx q.as z).erase i).length := len_sub (idx_nodup q.as y) fun k hk => (List.mem_erase_of_ne (fun w => no (by rw [← w]; exact hk))).mpr (g k hk)
    rw [List.length_erase_of_mem hi] at this
    have := List.length_pos_of_mem hi
    omega
def dn (q : Qs) (l : List Str) : List Str := l.mergeSort fun a b => decide (rkq q a ≤ rkq q b)
theorem dn_perm (q : Qs) (l : List Str) : (dn q l).Perm l := List.mergeSort_perm l _
theorem dn_pw (q : Qs) (l : List Str) : (dn q l).Pairwise fun a b => rkq q a ≤ rkq q b := by
  have := List.pairwise_mergeSort (le := fun a b : Str => decide (rkq q a ≤ rkq q b)) (fun a b c h1 h2 => decide_eq_true (Nat.le_trans (of_decide_eq_true h1) (of_decide_eq_true h2)))
    (fun a b => by rw [Bool.or_eq_true, decide_eq_true_eq, decide_eq_true_eq]; exact Nat.le_total _ _) l
  exact this.imp fun h => of_decide_eq_true h
theorem dn_of {q : Qs} (ok : QOk q) {m l : List Str} (sub : ∀ x ∈ l, x ∈ q.cs) (p : m.Perm l) (pw : m.Pairwise fun a b => rkq q a ≤ rkq q b) : m = dn q l :=
  rank_one (rkq q) pw (dn_pw q l) (fun a ha b hb e => rkq_inj ok (sub a (p.mem_iff.mp ha)) (sub b (p.mem_iff.mp hb)) e) (p.trans (dn_perm q l).symm)
/-- the columns above one -/
def up (q : Qs) (x : Str) : List Str := q.cs.filter fun y => abv q y x
def pathF (q : Qs) (x : Str) : List Str := dn q (up q x) ++ [x]
theorem up_mem {q : Qs} {x y : Str} : y ∈ up q x ↔ y ∈ q.cs ∧ abv q y x = true := List.mem_filter
theorem abv_trans {q : Qs} (ok : QOk q) {x y z : Str} (hx : x ∈ q.cs) (hy : y ∈ q.cs) (hz : z ∈ q.cs) (h1 : abv q x y = true) (h2 : abv q y z = true) : abv q x z = true := by
  obtain ⟨a, b⟩ := (abv_iff ok hx hy).mp h1
  obtain ⟨c, d⟩ := (abv_iff ok hy hz).mp h2
  exact (abv_iff ok hx hz).mpr ⟨fun i hi => a i (c i hi), Nat.lt_trans b d⟩
/-- how many above one are above another -/
def dep (q : Qs) (l : List Str) (y : Str) : Nat := (l.filter fun w => abv q w y).length
theorem sub_len {α : Type} {l : List α} {p r : α → Bool} (h : ∀ x ∈ l, p x = true → r x = true) {y : α} (hy : y ∈ l) (h1 : p y = false) (h2 : r y = true) : (l.filter p).length < (l.filter r).length := by
  induction l with
  | nil => cases hy
  | cons a l ih =>
    have mono : ∀ {m : List α}, (∀ x ∈ m, p x = true → r x = true) → (m.filter p).length ≤ (m.filter r).length := fun {m} => by
      induction m with
      | nil => exact fun _ => Nat.le_refl _
      | cons b m ih2 =>
        intro hm
        have i := ih2 fun x hx => hm x (List.mem_cons_of_mem _ hx)
        rw [List.filter_cons, List.filter_cons]
        cases e : p b with
        | true => rw [hm b List.mem_cons_self e]; simp; exact i
        | false =>
          cases r b with
          | true => simp; omega
          | false => simp; exact i
    have ht : ∀ x ∈ l, p x = true → r x = true := fun x hx => h x (List.mem_cons_of_mem _ hx)
    rw [List.filter_cons, List.filter_cons]
    rcases List.mem_cons.mp hy with rfl | hy
    · rw [h1, h2]
      have := mono ht
      simp
      omega
    · have i := ih ht hy
      cases e : p a with
      | true => rw [h a List.mem_cons_self e]; simp; exact i
      | false =>
        cases r a with
        | true => simp; omega
        | false => simp; exact i
theorem dep_lt {q : Qs} (ok : QOk q) {l : List Str} (sub : ∀ x ∈ l, x ∈ q.cs) {y z : Str} (hy : y ∈ l) (hz : z ∈ l) (h : abv q y z = true) : dep q l y < dep q l z :=
  sub_len (fun w hw g => abv_trans ok (sub w hw) (sub y hy) (sub z hz) g h) hy (by
    cases e : abv q y y with
    | false => rfl
    | true => exact absurd ((abv_iff ok (sub y hy) (sub y hy)).mp e).2 (Nat.lt_irrefl _)) h
/-- a lot of which of each two one is above: in the order of dep it is in the order of the ranks -/
theorem dn_dep {q : Qs} (ok : QOk q) {m l : List Str} (sub : ∀ x ∈ l, x ∈ q.cs) (ch : ∀ y ∈ l, ∀ z ∈ l, rkq q y < rkq q z → abv q y z = true) (p : m.Perm l) (pw : m.Pairwise fun a b => dep q l a ≤ dep q l b) : m = dn q l := by
  refine dn_of ok sub p (pw.imp_of_mem fun {a b} ha hb h => ?_)
  refine Nat.not_lt.mp fun z => ?_
  have ha := p.mem_iff.mp ha
  have hb := p.mem_iff.mp hb
  have := dep_lt ok sub hb ha (ch b hb a ha z)
  omega
theorem up_chain {q : Qs} (ok : QOk q) (ne : Nest q.as) (cv : Cov q) {x : Str} (hx : x ∈ q.cs) : ∀ y ∈ up q x, ∀ z ∈ up q x, rkq q y < rkq q z → abv q y z = true := by
  intro y hy z hz h
  obtain ⟨cy, ay⟩ := up_mem.mp hy
  obtain ⟨cz, az⟩ := up_mem.mp hz
  obtain ⟨a, ha, hxa⟩ := cv x hx
  obtain ⟨n, hn⟩ := List.getElem?_of_mem ha
  have hi : (n : Int) ∈ idx q.as x := idx_mem.mpr ⟨n, a, rfl, hn, hxa⟩
  obtain ⟨n1, a1, e1, h1, m1⟩ := idx_mem.mp (((abv_iff ok cy hx).mp ay).1 _ hi)
  obtain ⟨n2, a2, e2, h2, m2⟩ := idx_mem.mp (((abv_iff ok cz hx).mp az).1 _ hi)
  have e1 : n = n1 := by omega
  have e2 : n = n2 := by omega
  subst e1
  subst e2
  rw [hn] at h1 h2
  cases h1
  cases h2
  exact abv_cmp ok ne ha m1 m2 h
/-! the promises -/
def wAbove : List DV → (PyData → Prop) → Prop := fun ds P => ∃ (q : Qs) (x y : Str), ds = [.im (qD q), .im (.str x), .im (.str y)] ∧ QOk q ∧ x ∈ q.cs ∧ y ∈ q.cs ∧ P (.bool (abv q x y))
def wDown : List DV → (PyData → Prop) → Prop := fun ds P => ∃ (q : Qs) (d : PyData) (l : List Str), ds = [.im (qD q), .im d] ∧ (d = .list (l.map .str) ∨ d = .tuple (l.map .str)) ∧ QOk q ∧ (∀ x ∈ l, x ∈ q.cs) ∧ l.length ≤ 6 ∧ P (.tuple ((dn q l).map .str))
def wPath : List DV → (PyData → Prop) → Prop := fun ds P => ∃ (q : Qs) (x : Str), ds = [.im (qD q), .im (.str x)] ∧ QOk q ∧ x ∈ q.cs ∧ P (.tuple ((pathF q x).map .str))
def wPathL : List DV → (PyData → Prop) → Prop := fun ds P => ∃ (q : Qs) (x : Str), ds = [.im (qD q), .im (.str x)] ∧ QOk q ∧ Nest q.as ∧ Cov q ∧ x ∈ q.cs ∧ P (.list ((pathF q x).map .str))
theorem len_is_above (ds : List DV) (P : PyData → Prop) (h : wAbove ds P) : ds.length = 3 := by obtain ⟨_, _, _, rfl, _⟩ := h; rfl
theorem len_law_is_above (ds : List DV) (P : PyData → Prop) (h : wAbove ds P) : ds.length = 3 := by obtain ⟨_, _, _, rfl, _⟩ := h; rfl
theorem len_downward (ds : List DV) (P : PyData → Prop) (h : wDown ds P) : ds.length = 2 := by obtain ⟨_, _, _, rfl, _⟩ := h; rfl
theorem lenpath_of (ds : List DV) (P : PyData → Prop) (h : wPath ds P) : ds.length = 2 := by obtain ⟨_, _, rfl, _⟩ := h; rfl
theorem len_law_path (ds : List DV) (P : PyData → Prop) (h : wPathL ds P) : ds.length = 2 := by obtain ⟨_, _, rfl, _⟩ := h; rfl
theorem up_len {q : Qs} (ok : QOk q) (x : Str) : (up q x).length ≤ 6 := Nat.le_trans (List.length_filter_le _ _) ok.cl
theorem dn_len (q : Qs) (l : List Str) : (dn q l).length = l.length := (dn_perm q l).length_eq
theorem dn_mem {q : Qs} {l : List Str} {x : Str} : x ∈ dn q l ↔ x ∈ l := (dn_perm q l).mem_iff
end LW

namespace LW
open PySem PySem.Spec PyProof.Rows L2 GL
/-! parents, children, ways -/
def strO : Option Str → PyData
  | none => .none
  | some x => .str x
theorem at_back {α : Type} {xs : List α} {k : Nat} (h1 : 1 ≤ k) (h : k ≤ xs.length) : atI xs (-(k : Int)) = xs[xs.length - k]? := by
  unfold atI ixN
  rw [if_neg (by omega), if_pos (by omega)]
  show xs[(-(k : Int) + (xs.length : Int)).toNat]? = _
  rw [show (-(k : Int) + (xs.length : Int)).toNat = xs.length - k by omega]
theorem at_last1 {l : List Str} {z : Str} (h : l.getLast? = some z) : atI (l.map PyData.str) (-1) = some (.str z) := by
  have ne : l ≠ [] := fun e => by rw [e] at h; cases h
  have lp := List.length_pos_iff.mpr ne
  rw [show (-1 : Int) = -((1 : Nat) : Int) from rfl, at_back (by decide) (by rw [List.length_map]; omega), List.length_map, List.getElem?_map]
  rw [List.getLast?_eq_getElem?] at h
  rw [h]
  rfl
theorem at_last2 {l : List Str} {x z : Str} (h : l.getLast? = some z) : atI ((l ++ [x]).map PyData.str) (-2) = some (.str z) := by
  have ne : l ≠ [] := fun e => by rw [e] at h; cases h
  have lp := List.length_pos_iff.mpr ne
  rw [show (-2 : Int) = -((2 : Nat) : Int) from rfl, at_back (by decide) (by rw [List.length_map, List.length_append]; show 2 ≤ _ + 1; omega), List.length_map, List.getElem?_map, List.length_append]
  rw [List.getLast?_eq_getElem?] at h
  rw [List.getElem?_append_left (by show l.length + 1 - 2 < _; omega), show l.length + [x].length - 2 = l.length - 1 from by show l.length + 1 - 2 = _; omega, h]
  rfl
def parF (q : Qs) (x : Str) : Option Str := (dn q (up q x)).getLast?
def kidsF (q : Qs) (o : Option Str) : List Str := q.cs.filter fun y => parF q y == o
theorem parF_up {q : Qs} {x z : Str} (h : parF q x = some z) : z ∈ up q x := dn_mem.mp (List.mem_of_getLast? h)
theorem pathF_len (q : Qs) (x : Str) : (pathF q x).length = (up q x).length + 1 := by
  unfold pathF
  rw [List.length_append, dn_len]
  rfl
theorem parF_none {q : Qs} {x : Str} (h : ¬ 1 < (pathF q x).length) : parF q x = none := by
  rw [pathF_len] at h
  unfold parF
  rw [List.length_eq_zero_iff.mp (show (dn q (up q x)).length = 0 by rw [dn_len]; omega)]
  rfl
theorem parF_some {q : Qs} {x : Str} (h : 1 < (pathF q x).length) : ∃ z, parF q x = some z := by
  rw [pathF_len] at h
  unfold parF
  have ne : dn q (up q x) ≠ [] := fun e => by
    have := congrArg List.length e
    rw [dn_len] at this
    simp at this
    rw [this] at h
    simp at h
  exact ⟨_, List.getLast?_eq_some_getLast ne⟩
theorem eqvO (a b : Option Str) : PyData.eqv (strO a) (strO b) = (a == b) := by
  cases a <;> cases b <;> simp [strO, PyData.eqv]
theorem hdO (o : Option Str) : (strO o).hasDict = false := by cases o <;> rfl
theorem shO {o : Option Str} (h : ∀ x, o = some x → SmS x) : SeqAt.shaped (strO o) = true := by
  cases o with
  | none => rfl
  | some x => exact (h x rfl).ok.shaped (by decide)
theorem parF_sm {q : Qs} (ok : QOk q) {y : Str} : ∀ x, parF q y = some x → SmS x := fun x h => ok.cb x (up_mem.mp (parF_up h)).1
theorem isNoneO (o : Option Str) : isNone (strO o) = (o == none) := by cases o <;> rfl
/-! the promises -/
def wPar : List DV → (PyData → Prop) → Prop := fun ds P => ∃ (q : Qs) (x : Str), ds = [.im (qD q), .im (.str x)] ∧ QOk q ∧ x ∈ q.cs ∧ P (strO (parF q x))
def wKids : List DV → (PyData → Prop) → Prop := fun ds P => ∃ (q : Qs) (x : Str), ds = [.im (qD q), .im (.str x)] ∧ QOk q ∧ x ∈ q.cs ∧ P (.tuple ((kidsF q (some x)).map .str))
def wRoots : List DV → (PyData → Prop) → Prop := fun ds P => ∃ q : Qs, ds = [.im (qD q)] ∧ QOk q ∧ P (.tuple ((kidsF q none).map .str))
def wKidsL : List DV → (PyData → Prop) → Prop := fun ds P => ∃ (q : Qs) (o : Option Str), ds = [.im (qD q), .im (strO o)] ∧ QOk q ∧ Nest q.as ∧ Cov q ∧ (∀ x, o = some x → SmS x) ∧ P (.list ((kidsF q o).map .str))
def wWay : List DV → (PyData → Prop) → Prop := fun ds P => ∃ (q : Qs) (i : Nat) (a : Atm), ds = [.im (qD q), .im (.int (i : Nat))] ∧ QOk q ∧ q.as[i]? = some a ∧ P (.tuple ((dn q a.2.2).map .str))
def wWayL : List DV → (PyData → Prop) → Prop := fun ds P => ∃ (q : Qs) (i : Nat) (a : Atm), ds = [.im (qD q), .im (.int (i : Nat))] ∧ QOk q ∧ q.as[i]? = some a ∧ P (.list ((dn q a.2.2).map .str))
def lastF (q : Qs) (a : Atm) : Option Str := (dn q a.2.2).getLast?
def wEnd : List DV → (PyData → Prop) → Prop := fun ds P => ∃ (q : Qs) (i : Nat) (a : Atm), ds = [.im (qD q), .im (.int (i : Nat))] ∧ QOk q ∧ Tidy q ∧ q.as[i]? = some a ∧ ∀ x, lastF q a = some x → x ∈ a.2.2 → P (.str x)
theorem lenparent_of (ds : List DV) (P : PyData → Prop) (h : wPar ds P) : ds.length = 2 := by obtain ⟨_, _, rfl, _⟩ := h; rfl
theorem lenchildren_of (ds : List DV) (P : PyData → Prop) (h : wKids ds P) : ds.length = 2 := by obtain ⟨_, _, rfl, _⟩ := h; rfl
theorem lenroots_of (ds : List DV) (P : PyData → Prop) (h : wRoots ds P) : ds.length = 1 := by obtain ⟨_, rfl, _⟩ := h; rfl
theorem len_law_children (ds : List DV) (P : PyData → Prop) (h : wKidsL ds P) : ds.length = 2 := by obtain ⟨_, _, rfl, _⟩ := h; rfl
theorem lenway_of (ds : List DV) (P : PyData → Prop) (h : wWay ds P) : ds.length = 2 := by obtain ⟨_, _, _, rfl, _⟩ := h; rfl
theorem len_law_way (ds : List DV) (P : PyData → Prop) (h : wWayL ds P) : ds.length = 2 := by obtain ⟨_, _, _, rfl, _⟩ := h; rfl
theorem lenend_of (ds : List DV) (P : PyData → Prop) (h : wEnd ds P) : ds.length = 2 := by obtain ⟨_, _, _, rfl, _⟩ := h; rfl
theorem last_some {q : Qs} {a : Atm} (h : a.2.2 ≠ []) : ∃ x, lastF q a = some x ∧ x ∈ a.2.2 := by
  have ne : dn q a.2.2 ≠ [] := fun e => h (List.length_eq_zero_iff.mp (by rw [← dn_len q, e]; rfl))
  exact ⟨_, List.getLast?_eq_some_getLast ne, dn_mem.mp (List.getLast_mem ne)⟩
theorem atm_at {q : Qs} {i : Nat} {a : Atm} (h : q.as[i]? = some a) : atI (q.as.map atD) ((i : Nat) : Int) = some (atD a) := at_map h
end LW

namespace LW
open PySem PySem.Spec PyProof.Rows L2 GL
open PySem.W (AllAlike Sortable)
/-! through, ending, rows on their way -/
abbrev hasS : Str := Str.ofString "has"
abbrev notS : Str := Str.ofString "not"
def pI (p : Atm × Nat) : PyData := .int (p.2 : Nat)
def thrF (q : Qs) (c : Str) : List (Atm × Nat) := q.as.zipIdx.filter fun p => p.1.1 == hasS && holds c p
def endF (q : Qs) (c : Str) : List (Atm × Nat) := q.as.zipIdx.filter fun p => lastF q p.1 == some c && (p.1.1 == notS && holds c p)
theorem zip_at {q : Qs} {p : Atm × Nat} (h : p ∈ q.as.zipIdx) : q.as[p.2]? = some p.1 := List.mk_mem_zipIdx_iff_getElem?.mp (show (p.1, p.2) ∈ q.as.zipIdx from h)
theorem zip_len (q : Qs) : q.as.zipIdx.length = q.as.length := List.length_zipIdx
theorem idx_pI (q : Qs) (c : Str) : (q.as.zipIdx.filter (holds c)).map pI = (idx q.as c).map .int := idx_D q.as c
theorem endF_law (q : Qs) (c : Str) : (q.as.zipIdx.filter fun p => p.1.1 == notS && lastF q p.1 == some c) = endF q c := by
  unfold endF
  refine List.filter_congr fun p _ => ?_
  cases e : lastF q p.1 == some c with
  | false => simp
  | true =>
    have e := LawfulBEq.eq_of_beq e
    have : c ∈ p.1.2.2 := dn_mem.mp (List.mem_of_getLast? e)
    have : holds c p = true := decide_eq_true this
    rw [this]
    simp
def plcF (q : Qs) (a : Atm) : List Nat := (dn q a.2.2).map fun c => ixOf c a.2.2
def onF (pl : List Nat) (r : List Int) : List Int := pl.map fun k => (r[k]?).getD 0
def offF (q : Qs) (a : Atm) (r : List Int) : List Int := a.2.2.map fun c => (r[ixOf c (dn q a.2.2)]?).getD 0
theorem plc_lt {q : Qs} {a : Atm} : ∀ k ∈ plcF q a, k < a.2.2.length := fun k hk => by
  obtain ⟨c, hc, rfl⟩ := List.mem_map.mp hk
  exact ixOf_lt (dn_mem.mp hc)
theorem plc_len (q : Qs) (a : Atm) : (plcF q a).length = a.2.2.length := by unfold plcF; rw [List.length_map, dn_len]
theorem on_len (pl : List Nat) (r : List Int) : (onF pl r).length = pl.length := List.length_map ..
theorem off_on {q : Qs} {a : Atm} (nd : a.2.2.Nodup) {r : List Int} (hr : r.length = a.2.2.length) : offF q a (onF (plcF q a) r) = r := by
  unfold offF
  refine List.ext_getElem? fun k => ?_
  rw [List.getElem?_map]
  cases e : a.2.2[k]? with
  | none =>
    have := List.getElem?_eq_none_iff.mp e
    rw [List.getElem?_eq_none (by omega)]
    rfl
  | some c =>
    have hm : c ∈ dn q a.2.2 := dn_mem.mpr (List.mem_of_getElem? e)
    have lk := (List.getElem?_eq_some_iff.mp e).1
    have e3 : ixOf c a.2.2 = k := nodup_get nd (ixOf_at (List.mem_of_getElem? e)) e
    have hr2 : r[k]? = some (r[k]'(by omega)) := List.getElem?_eq_getElem _
    have e2 : (onF (plcF q a) r)[ixOf c (dn q a.2.2)]? = some ((r[k]?).getD 0) := by
      unfold onF plcF
      rw [List.getElem?_map, List.getElem?_map, ixOf_at hm]
      show some ((r[ixOf c a.2.2]?).getD 0) = _
      rw [e3]
    show some (((onF (plcF q a) r)[ixOf c (dn q a.2.2)]?).getD 0) = _
    rw [e2, hr2]
    rfl
theorem look_tb {ts : List Tb} (nd : (ts.map (·.1)).Nodup) {t : Tb} (h : t ∈ ts) : (ts.map tbKv).lookup t.1 = some (tbV t) := by
  induction ts with
  | nil => cases h
  | cons u ts ih =>
    rw [List.map_cons, List.nodup_cons] at nd
    show List.lookup t.1 ((u.1, tbV u) :: ts.map tbKv) = _
    rcases List.mem_cons.mp h with rfl | h
    · exact List.lookup_cons_self
    · rw [List.lookup_cons, beq_eq_false_iff_ne.mpr (fun e => nd.1 (by rw [← e]; exact List.mem_map_of_mem h))]
      exact ih nd.2 h
theorem alike_ints : ∀ (a b : List Int), PySem.W.alikeAll (a.map .int) (b.map .int) = true
  | [], _ => by rw [List.map_nil]; unfold PySem.W.alikeAll; rfl
  | _ :: _, [] => by rw [List.map_cons, List.map_nil]; unfold PySem.W.alikeAll; rfl
  | x :: a, y :: b => by
    rw [List.map_cons, List.map_cons]
    unfold PySem.W.alikeAll
    rw [alike_ints a b]
    rfl
theorem rows_alike (rs : List (List Int)) : AllAlike (rs.map rowI) := fun d hd e he => by
  obtain ⟨a, _, rfl⟩ := List.mem_map.mp hd
  obtain ⟨b, _, rfl⟩ := List.mem_map.mp he
  exact alike_ints a b
theorem rows_sortable {rs : List (List Int)} (h : ∀ r ∈ rs, r ≠ []) : Sortable (rs.map rowI) := .inl fun d hd => by
  obtain ⟨a, ha, rfl⟩ := List.mem_map.mp hd
  cases a with
  | nil => exact absurd rfl (h _ ha)
  | cons x r => exact ⟨_, _, rfl⟩
theorem hd_rowI (r : List Int) : (rowI r).hasDict = false := by unfold rowI; rw [PyData.hasDict]; exact hasDict_ints r
theorem depth_ints (r : List Int) : PyData.depthAll (r.map .int) ≤ 1 := by
  induction r with
  | nil => simp [PyData.depthAll]
  | cons x r ih => simp only [List.map_cons, PyData.depthAll, PyData.depth]; omega
theorem depth_rowI (r : List Int) : (rowI r).depth ≤ 2 := by
  have := depth_ints r
  simp only [rowI, PyData.depth]
  omega
/-! the promises -/
def wThr : List DV → (PyData → Prop) → Prop := fun ds P => ∃ (q : Qs) (c : Str), ds = [.im (qD q), .im (.str c)] ∧ QOk q ∧ P (.tuple ((thrF q c).map pI))
def wEnding : List DV → (PyData → Prop) → Prop := fun ds P => ∃ (q : Qs) (c : Str), ds = [.im (qD q), .im (.str c)] ∧ QOk q ∧ Tidy q ∧ P (.tuple ((endF q c).map pI))
def wThrL : List DV → (PyData → Prop) → Prop := fun ds P => ∃ (q : Qs) (c : Str), ds = [.im (qD q), .im (.str c)] ∧ QOk q ∧ Tidy q ∧ P (.tuple [.list ((thrF q c).map pI), .list ((endF q c).map pI)])
def wPlc : List DV → (PyData → Prop) → Prop := fun ds P => ∃ (q : Qs) (i : Nat) (a : Atm), ds = [.im (qD q), .im (.int (i : Nat))] ∧ QOk q ∧ Tidy q ∧ q.as[i]? = some a ∧ P (.tuple ((plcF q a).map iN))
def wOn : List DV → (PyData → Prop) → Prop := fun ds P => ∃ (q : Qs) (i : Nat) (a : Atm) (r : List Int), ds = [.im (qD q), .im (.int (i : Nat)), .im (rowI r)] ∧ QOk q ∧ Tidy q ∧ q.as[i]? = some a ∧ r.length = a.2.2.length ∧ P (rowI (onF (plcF q a) r))
def wOff : List DV → (PyData → Prop) → Prop := fun ds P => ∃ (q : Qs) (i : Nat) (a : Atm) (r : List Int), ds = [.im (qD q), .im (.int (i : Nat)), .im (rowI r)] ∧ QOk q ∧ Tidy q ∧ q.as[i]? = some a ∧ r.length = a.2.2.length ∧ P (rowI (offF q a r))
def ledF (pl : List Nat) (t : Tb) : List PyData := sortD ((t.2.2.map (onF pl)).map rowI)
def wLed : List DV → (PyData → Prop) → Prop := fun ds P => ∃ (t : Tb) (pl : List Nat), ds = [.im (tbV t), .im (.tuple (pl.map iN))] ∧ TOk t ∧ pl ≠ [] ∧ pl.length ≤ 6 ∧ (∀ k ∈ pl, k < t.2.1) ∧ P (.tuple (ledF pl t))
def wRows : List DV → (PyData → Prop) → Prop := fun ds P => ∃ (q : Qs) (ts : List Tb) (i : Nat) (a : Atm) (t : Tb), ds = [.im (qD q), .im (tsD ts), .im (.int (i : Nat))] ∧ QOk q ∧ Tidy q ∧ TsOk q ts ∧ q.as[i]? = some a ∧ t ∈ ts ∧ t.1 = a.2.1 ∧ t.2.1 = a.2.2.length ∧ P (.tuple (ledF (plcF q a) t))
def wRowsL : List DV → (PyData → Prop) → Prop := fun ds P => ∃ (q : Qs) (ts : List Tb) (i : Nat) (a : Atm) (t : Tb), ds = [.im (qD q), .im (tsD ts), .im (.int (i : Nat))] ∧ QOk q ∧ Tidy q ∧ TsOk q ts ∧ q.as[i]? = some a ∧ t ∈ ts ∧ t.1 = a.2.1 ∧ t.2.1 = a.2.2.length ∧ P (.list (ledF (plcF q a) t))
theorem lenthrough (ds : List DV) (P : PyData → Prop) (h : wThr ds P) : ds.length = 2 := by obtain ⟨_, _, rfl, _⟩ := h; rfl
theorem lenending (ds : List DV) (P : PyData → Prop) (h : wEnding ds P) : ds.length = 2 := by obtain ⟨_, _, rfl, _⟩ := h; rfl
theorem len_law_through (ds : List DV) (P : PyData → Prop) (h : wThrL ds P) : ds.length = 2 := by obtain ⟨_, _, rfl, _⟩ := h; rfl
theorem len_places_on_way (ds : List DV) (P : PyData → Prop) (h : wPlc ds P) : ds.length = 2 := by obtain ⟨_, _, _, rfl, _⟩ := h; rfl
theorem lenon_way (ds : List DV) (P : PyData → Prop) (h : wOn ds P) : ds.length = 3 := by obtain ⟨_, _, _, _, rfl, _⟩ := h; rfl
theorem lenoff_way (ds : List DV) (P : PyData → Prop) (h : wOff ds P) : ds.length = 3 := by obtain ⟨_, _, _, _, rfl, _⟩ := h; rfl
theorem lenled_rows (ds : List DV) (P : PyData → Prop) (h : wLed ds P) : ds.length = 2 := by obtain ⟨_, _, rfl, _⟩ := h; rfl
theorem lenway_rows (ds : List DV) (P : PyData → Prop) (h : wRows ds P) : ds.length = 3 := by obtain ⟨_, _, _, _, _, rfl, _⟩ := h; rfl
theorem len_law_led_rows (ds : List DV) (P : PyData → Prop) (h : wRowsL ds P) : ds.length = 3 := by obtain ⟨_, _, _, _, _, rfl, _⟩ := h; rfl
end LW

namespace LW
open PySem PySem.Spec PyProof.Rows L2 GL
/-! factors -/
def wgt (q : Qs) (c : Str) : Nat := (thrF q c).length + (endF q c).length
def mxN : List Nat → Nat
  | [] => 0
  | a :: l => max a (mxN l)
def facC (q : Qs) : Nat → Str → Nat
  | 0, _ => 0
  | n + 1, c => wgt q c + (kidsF q (some c)).length * mxN ((kidsF q (some c)).map (facC q n))
theorem mxN_le {l : List Nat} {a : Nat} (h : a ∈ l) : a ≤ mxN l := by
  induction l with
  | nil => cases h
  | cons b l ih =>
    show a ≤ max b (mxN l)
    rcases List.mem_cons.mp h with rfl | h
    · omega
    · have := ih h; omega
theorem mxN_ub {l : List Nat} {m : Nat} (h : ∀ a ∈ l, a ≤ m) : mxN l ≤ m := by
  induction l with
  | nil => exact Nat.zero_le _
  | cons b l ih =>
    show max b (mxN l) ≤ m
    have := ih fun a ha => h a (List.mem_cons_of_mem _ ha)
    have := h b List.mem_cons_self
    omega
theorem mxN_mem {l : List Nat} {m : Nat} (hm : m ∈ l) (h : ∀ a ∈ l, a ≤ m) : m = mxN l := Nat.le_antisymm (mxN_le hm) (mxN_ub h)
theorem mxN_app (l m : List Nat) : mxN (l ++ m) = max (mxN l) (mxN m) := by
  induction l with
  | nil => show mxN m = max 0 (mxN m); omega
  | cons a l ih => show max a (mxN (l ++ m)) = max (max a (mxN l)) (mxN m); rw [ih]; omega
theorem abv_irr {q : Qs} (ok : QOk q) {x : Str} (hx : x ∈ q.cs) : abv q x x = false := by
  cases e : abv q x x with
  | false => rfl
  | true => exact absurd ((abv_iff ok hx hx).mp e).2 (Nat.lt_irrefl _)
theorem kid_mem {q : Qs} {o : Option Str} {y : Str} : y ∈ kidsF q o ↔ y ∈ q.cs ∧ parF q y = o := by
  unfold kidsF
  rw [List.mem_filter, beq_iff_eq]
theorem kid_up {q : Qs} (ok : QOk q) {c y : Str} (hc : c ∈ q.cs) (h : y ∈ kidsF q (some c)) : (up q c).length < (up q y).length := by
  obtain ⟨hy, hp⟩ := kid_mem.mp h
  obtain ⟨_, ha⟩ := up_mem.mp (parF_up hp)
  exact sub_len (fun w hw g => abv_trans ok hw hc hy g ha) hc (abv_irr ok hc) ha
theorem up_lt {q : Qs} (ok : QOk q) {c : Str} (hc : c ∈ q.cs) : (up q c).length ≤ 5 := by
  have : (up q c).length < (q.cs.filter fun _ => true).length := sub_len (fun _ _ _ => rfl) hc (abv_irr ok hc) rfl
  rw [show q.cs.filter (fun _ => true) = q.cs from List.filter_eq_self.mpr fun _ _ => rfl] at this
  have := ok.cl
  omega
theorem kids_len {q : Qs} (ok : QOk q) (o : Option Str) : (kidsF q o).length ≤ 6 := Nat.le_trans (List.length_filter_le _ _) ok.cl
theorem wgt_le {q : Qs} (ok : QOk q) (c : Str) : wgt q c ≤ 16 := by
  have h1 : (thrF q c).length ≤ 8 := Nat.le_trans (List.length_filter_le _ _) (by rw [zip_len]; exact ok.al)
  have h2 : (endF q c).length ≤ 8 := Nat.le_trans (List.length_filter_le _ _) (by rw [zip_len]; exact ok.al)
  unfold wgt
  omega
theorem facC_le {q : Qs} (ok : QOk q) : ∀ (n : Nat) (c : Str), facC q n c ≤ 16 * 7 ^ n
  | 0, c => Nat.zero_le _
  | n + 1, c => by
    have h1 : mxN ((kidsF q (some c)).map (facC q n)) ≤ 16 * 7 ^ n := mxN_ub fun a ha => by
      obtain ⟨y, _, rfl⟩ := List.mem_map.mp ha
      exact facC_le ok n y
    have h2 := kids_len ok (some c)
    have h3 := wgt_le ok c
    have h4 : (kidsF q (some c)).length * mxN ((kidsF q (some c)).map (facC q n)) ≤ 6 * (16 * 7 ^ n) := Nat.mul_le_mul h2 h1
    have h5 : 1 ≤ 7 ^ n := Nat.one_le_pow _ _ (by decide)
    show wgt q c + _ ≤ 16 * 7 ^ (n + 1)
    rw [Nat.pow_succ]
    omega
theorem fac_ind {q : Qs} (ok : QOk q) : ∀ (n m : Nat) (c : Str), c ∈ q.cs → 6 ≤ n + (up q c).length → 6 ≤ m + (up q c).length → facC q n c = facC q m c
  | 0, _, c, hc, h, _ => absurd (up_lt ok hc) (by omega)
  | _ + 1, 0, c, hc, _, h => absurd (up_lt ok hc) (by omega)
  | n + 1, m + 1, c, hc, h1, h2 => by
    have e : (kidsF q (some c)).map (facC q n) = (kidsF q (some c)).map (facC q m) := List.map_congr_left fun y hy => by
      have := kid_up ok hc hy
      exact fac_ind ok n m y (kid_mem.mp hy).1 (by omega) (by omega)
    show wgt q c + _ * _ = wgt q c + _ * _
    rw [e]
/-! the promises -/
def wColF (n : Nat) : List DV → (PyData → Prop) → Prop := fun ds P => ∃ (q : Qs) (c : Str), ds = [.im (qD q), .im (.str c)] ∧ QOk q ∧ Tidy q ∧ c ∈ q.cs ∧ 6 ≤ n + (up q c).length ∧ P (.int (facC q n c : Nat))
def wFacS (n : Nat) : List DV → (PyData → Prop) → Prop := fun ds P => ∃ (q : Qs) (l : List Str), ds = [.im (qD q), .im (.tuple (l.map .str))] ∧ QOk q ∧ Tidy q ∧ l.length ≤ 6 ∧ (∀ c ∈ l, c ∈ q.cs ∧ 6 ≤ n + (up q c).length) ∧ P (.int (l.length * mxN (l.map (facC q n)) : Nat))
def wFac : List DV → (PyData → Prop) → Prop := fun ds P => ∃ q : Qs, ds = [.im (qD q)] ∧ QOk q ∧ Tidy q ∧ P (.int ((kidsF q none).length * mxN ((kidsF q none).map (facC q 6)) : Nat))
def wLF (n : Nat) : List DV → (PyData → Prop) → Prop := fun ds P => ∃ (q : Qs) (l : List Str) (m : Nat), ds = [.im (qD q), .im (.list (l.map .str))] ∧ QOk q ∧ Tidy q ∧ Nest q.as ∧ Cov q ∧ n = m + 1 ∧ l.length ≤ 6 ∧ (∀ c ∈ l, c ∈ q.cs ∧ 6 ≤ m + (up q c).length) ∧ P (.int (mxN (l.map (facC q m)) : Nat))
theorem lencolumn_factor {n : Nat} (ds : List DV) (P : PyData → Prop) (h : wColF n ds P) : ds.length = 2 := by obtain ⟨_, _, rfl, _⟩ := h; rfl
theorem len_factor_of {n : Nat} (ds : List DV) (P : PyData → Prop) (h : wFacS n ds P) : ds.length = 2 := by obtain ⟨_, _, rfl, _⟩ := h; rfl
theorem lenfactor (ds : List DV) (P : PyData → Prop) (h : wFac ds P) : ds.length = 1 := by obtain ⟨_, rfl, _⟩ := h; rfl
theorem len_law_factor {n : Nat} (ds : List DV) (P : PyData → Prop) (h : wLF n ds P) : ds.length = 2 := by obtain ⟨_, _, _, rfl, _⟩ := h; rfl
end LW

namespace LW
open PySem PySem.Spec PyProof.Rows L2 GL
/-! what is told of a column, of an atom -/
theorem path_end {q : Qs} (ok : QOk q) (ti : Tidy q) (ne : Nest q.as) {a : Atm} (ha : a ∈ q.as) {x : Str} (h : lastF q a = some x) : pathF q x = dn q a.2.2 := by
  have sub := ok.sub a ha
  have hx : x ∈ a.2.2 := dn_mem.mp (List.mem_of_getLast? h)
  have hxc := sub x hx
  have nda := (ti.2 a ha).1
  have mx : ∀ y ∈ a.2.2, rkq q y ≤ rkq q x := fun y hy => by
    obtain ⟨l, e⟩ : ∃ l, dn q a.2.2 = l ++ [x] := by
      have h : (dn q a.2.2).getLast? = some x := h
      exact List.getLast?_eq_some_iff.mp h
    have hm := dn_mem (q := q).mpr hy
    have pw := dn_pw q a.2.2
    rw [e] at hm pw
    rcases List.mem_append.mp hm with hm | hm
    · exact (List.pairwise_append.mp pw).2.2 y hm x List.mem_cons_self
    · rw [List.mem_singleton.mp hm]
      exact Nat.le_refl _
  have memu : ∀ y, y ∈ up q x ↔ y ∈ a.2.2 ∧ y ≠ x := fun y => by
    rw [up_mem]
    constructor
    · rintro ⟨hy, hab⟩
      have g := (abv_iff ok hy hxc).mp hab
      refine ⟨?_, fun e => by rw [e] at g; exact Nat.lt_irrefl _ g.2⟩
      obtain ⟨n, hn⟩ := List.getElem?_of_mem ha
      obtain ⟨n1, a1, e1, h1, m1⟩ := idx_mem.mp (g.1 n (idx_mem.mpr ⟨n, a, rfl, hn, hx⟩))
      have e1 : n = n1 := by omega
      subst e1
      rw [hn] at h1
      cases h1
      exact m1
    · rintro ⟨hy, hn⟩
      have l1 := mx y hy
      have l2 : rkq q y ≠ rkq q x := fun e => hn (rkq_inj ok (sub y hy) hxc e)
      exact ⟨sub y hy, abv_cmp ok ne ha hy hx (by omega)⟩
  have ndu : (up q x).Nodup := ti.1.filter _
  have ndd : (dn q (up q x) ++ [x]).Nodup := by
    rw [List.nodup_append]
    exact ⟨(dn_perm q _).nodup_iff.mpr ndu, List.pairwise_singleton _ _, fun y hy z hz => by
      rw [List.mem_singleton.mp hz]
      exact ((memu y).mp (dn_mem.mp hy)).2⟩
  refine dn_of ok sub ?_ ?_
  · refine (List.perm_ext_iff_of_nodup ndd nda).mpr fun y => ?_
    rw [List.mem_append, dn_mem, memu, List.mem_singleton]
    constructor
    · rintro (⟨h, _⟩ | rfl)
      · exact h
      · exact hx
    · intro h
      by_cases e : y = x
      · exact .inr e
      · exact .inl ⟨h, e⟩
  · show (dn q (up q x) ++ [x]).Pairwise _
    rw [List.pairwise_append]
    exact ⟨dn_pw q _, List.pairwise_singleton _ _, fun y hy z hz => by
      rw [List.mem_singleton.mp hz]
      exact mx y ((memu y).mp (dn_mem.mp hy)).1⟩
def TDm (q : Qs) (c : Str) (o : Option Str) (n : Nat) : PyData := .list [.tuple ((pathF q c).map .str), strO o, .tuple ((kidsF q (some c)).map .str), .tuple ((thrF q c).map pI), .tuple ((endF q c).map pI), .int (n : Nat)]
def TD (q : Qs) (c : Str) : PyData := TDm q c (parF q c) (facC q 6 c)
theorem strs_ok {q : Qs} (ok : QOk q) {l : List Str} (h : ∀ x ∈ l, x ∈ q.cs) (hl : l.length ≤ 7) : Ok 77 1 (.tuple (l.map .str)) := (Ok.tuple (OkAll.map fun x hx => (ok.cb x (h x hx)).ok)).mono (by omega) (Nat.le_refl _)
theorem pIs_ok {q : Qs} (ok : QOk q) (p : Atm × Nat → Bool) : Ok 336 1 (.tuple ((q.as.zipIdx.filter p).map pI)) := by
  have l : (q.as.zipIdx.filter p).length ≤ 8 := Nat.le_trans (List.length_filter_le _ _) (by rw [zip_len]; exact ok.al)
  refine (Ok.tuple (OkAll.map (w := 41) fun x hx => Ok.int ?_)).mono (by omega) (Nat.le_refl _)
  have := (List.getElem?_eq_some_iff.mp (zip_at (List.mem_filter.mp hx).1)).1
  have := ok.al
  omega
theorem strO_ok {q : Qs} (ok : QOk q) (c : Str) : Ok 10 0 (strO (parF q c)) := by
  cases e : parF q c with
  | none => exact Ok.none.mono (by omega) (Nat.le_refl _)
  | some x => exact (parF_sm ok x e).ok
theorem path_mem {q : Qs} {c x : Str} (hc : c ∈ q.cs) (h : x ∈ pathF q c) : x ∈ q.cs := by
  unfold pathF at h
  rcases List.mem_append.mp h with h | h
  · exact (up_mem.mp (dn_mem.mp h)).1
  · rw [List.mem_singleton.mp h]; exact hc
theorem td_ok {q : Qs} (ok : QOk q) {c : Str} (hc : c ∈ q.cs) : Ok 2000 2 (TD q c) := by
  have h1 : Ok 77 1 (.tuple ((pathF q c).map .str)) := strs_ok ok (fun x hx => path_mem hc hx) (by rw [pathF_len]; have := up_len ok c; omega)
  have h2 := (strO_ok ok c).mono (Nat.le_refl _) (Nat.zero_le 1)
  have h3 : Ok 77 1 (.tuple ((kidsF q (some c)).map .str)) := strs_ok ok (fun x hx => (kid_mem.mp hx).1) (by have := kids_len ok (some c); omega)
  have h4 : Ok 336 1 (.tuple ((thrF q c).map pI)) := pIs_ok ok _
  have h5 : Ok 336 1 (.tuple ((endF q c).map pI)) := pIs_ok ok _
  have h6 : Ok 41 1 (.int (facC q 6 c : Nat)) := (Ok.int (by
    have h1 := facC_le ok 6 c
    have h2 : 16 * 7 ^ 6 < 10 ^ 12 := by decide
    rw [Int.natAbs_natCast]
    exact Nat.lt_of_le_of_lt h1 h2)).mono (Nat.le_refl _) (Nat.zero_le 1)
  exact (Ok.list (h1.cons' (h2.cons' (h3.cons' (h4.cons' (h5.cons' (h6.cons' (OkAll.nil 1)))))))).mono (by omega) (Nat.le_refl _)
theorem row_ok {r : List Int} (hl : r.length ≤ 6) (h : ∀ x ∈ r, x.natAbs ≤ 1000) : Ok 252 1 (rowI r) := (Ok.tuple (OkAll.map (w := 41) fun x hx => Ok.int (by have := h x hx; omega))).mono (by omega) (Nat.le_refl _)
theorem on_sm {pl : List Nat} {r : List Int} (h : ∀ x ∈ r, x.natAbs ≤ 1000) : ∀ x ∈ onF pl r, x.natAbs ≤ 1000 := fun x hx => by
  obtain ⟨k, _, rfl⟩ := List.mem_map.mp hx
  cases e : r[k]? with
  | none => decide
  | some y => exact h y (List.mem_of_getElem? e)
theorem led_ok {t : Tb} (tok : TOk t) {pl : List Nat} (hl : pl.length ≤ 6) : Ok 11000 2 (.tuple (ledF pl t)) := by
  obtain ⟨m, em, pm, _⟩ := sortD_map rowI (t.2.2.map (onF pl))
  unfold ledF
  rw [em]
  have lm : m.length ≤ 40 := by rw [pm.length_eq, List.length_map]; exact tok.n
  refine (Ok.tuple (OkAll.map (w := 252) (dp := 1) fun r hr => ?_)).mono (by omega) (Nat.le_refl _)
  obtain ⟨s, hs, rfl⟩ := List.mem_map.mp (pm.mem_iff.mp hr)
  exact row_ok (by rw [on_len]; exact hl) (on_sm fun x hx => by have := (tok.r s hs).2 x hx; omega)
/-! tables, told -/
theorem tb_ok {t : Tb} (tok : TOk t) : Ok 11000 3 (tbV t) := by
  have h1 : Ok 41 2 (.int (t.2.1 : Nat)) := (Ok.int (by have := tok.w6; omega)).mono (Nat.le_refl _) (Nat.zero_le 2)
  have h2 : Ok 10120 2 (.tuple (t.2.2.map rowI)) := (Ok.tuple (OkAll.map (w := 252) (dp := 1) fun r hr => row_ok (by have := (tok.r r hr).1; have := tok.w6; omega) fun x hx => by have := (tok.r r hr).2 x hx; omega)).mono (by have := tok.n; omega) (Nat.le_refl _)
  exact (Ok.tuple (h1.cons' (h2.cons' (OkAll.nil 2)))).mono (by omega) (Nat.le_refl _)
theorem nl_map {α : Type} {f : α → PyData} : ∀ {l : List α}, (∀ a ∈ l, nlD (f a) = true) → nlAll (l.map f) = true
  | [], _ => by simp [nlAll]
  | a :: l, h => by
    rw [List.map_cons]
    simp only [nlAll, Bool.and_eq_true]
    exact ⟨h a List.mem_cons_self, nl_map fun b hb => h b (List.mem_cons_of_mem _ hb)⟩
theorem nl_o (o : Option Int) : nlD (oD o) = true := by cases o <;> simp [oD, nlD]
theorem nl_q (q : Qs) : nlD (qD q) = true := by
  have h1 : nlAll (q.cs.map .str) = true := nl_map fun _ _ => by simp [nlD]
  have h2 : nlAll (q.as.map atD) = true := nl_map fun a _ => by
    have : nlAll (a.2.2.map .str) = true := nl_map fun _ _ => by simp [nlD]
    simp [atD, nlD, nlAll, this]
  have h3 : nlAll (q.rs.map rD) = true := nl_map fun r _ => by simp [rD, nlD, nlAll, nl_o]
  simp [qD, nlD, nlAll, h1, h2, h3]
theorem nl_ts (ts : List Tb) : nlD (tsD ts) = true := by
  have : ∀ ts : List Tb, nlKv ((ts.map tbKv).map fun e => (PyData.str e.1, e.2)) = true := fun ts => by
    induction ts with
    | nil => simp [nlKv]
    | cons t ts ih =>
      have h1 : nlAll (t.2.2.map rowI) = true := nl_map fun r _ => by
        have : nlAll (r.map .int) = true := nl_map fun _ _ => by simp [nlD]
        simp [rowI, nlD, this]
      rw [List.map_cons, List.map_cons]
      simp only [nlKv, Bool.and_eq_true]
      refine ⟨rfl, ?_, ih⟩
      show nlD (tbV t) = true
      simp [tbV, nlD, nlAll, h1]
  exact this ts
theorem ts_shows {q : Qs} (ok : QOk q) {ts : List Tb} (h : TsOk q ts) : ShowsW (.list [qD q, tsD ts]) := by
  have h1 : OkW 3000 4 (qD q) := ok.ok.w
  have h2 : OkW 200000 4 (tsD ts) := by
    have h : OkWKv (ts.length * (2 * 11000 + 2)) 3 (ts.map fun t => (PyData.str t.1, tbV t)) := OkWKv.map fun t ht => ⟨(h.ok t ht).s.ok.w.mono (by omega) (by omega), (tb_ok (h.ok t ht)).w⟩
    have e : tsD ts = .dict (ts.map fun t => (PyData.str t.1, tbV t)) := by
      show PyData.dict ((ts.map tbKv).map fun e => (PyData.str e.1, e.2)) = _
      rw [List.map_map]
      rfl
    rw [e]
    exact (OkW.dict h).mono (by have := ‹TsOk q ts›.n; omega) (Nat.le_refl _)
  exact (OkW.list (h1.cons' (h2.cons' (OkWAll.nil 4)))).shows (by omega) (by omega)
theorem nl_two (q : Qs) (ts : List Tb) : nlAll [qD q, tsD ts] = true := by simp [nlAll, nl_q, nl_ts]
/-! the promises -/
def wColR : List DV → (PyData → Prop) → Prop := fun ds P => ∃ (q : Qs) (c : Str), ds = [.im (qD q), .im (.str c)] ∧ QOk q ∧ Tidy q ∧ Nest q.as ∧ Cov q ∧ c ∈ q.cs ∧ P (.bool true)
def wAtR : List DV → (PyData → Prop) → Prop := fun ds P => ∃ (q : Qs) (ts : List Tb) (i : Nat) (a : Atm), ds = [.bag, .im (qD q), .im (tsD ts), .im (.int (i : Nat))] ∧ QOk q ∧ Tidy q ∧ Nest q.as ∧ TsOk q ts ∧ q.as[i]? = some a ∧ P (.bool true)
theorem len_law_is_column_right (ds : List DV) (P : PyData → Prop) (h : wColR ds P) : ds.length = 2 := by obtain ⟨_, _, rfl, _⟩ := h; rfl
theorem len_law_is_atom_right (ds : List DV) (P : PyData → Prop) (h : wAtR ds P) : ds.length = 4 := by obtain ⟨_, _, _, _, rfl, _⟩ := h; rfl
end LW

/-! t[::-1], t a tuple -/
namespace HT
open PySem PySem.Spec PyProof.Rows PySem.Calls
section
variable {prog : Program} {w : World} {A : Around} {E : Value → Shared → Prop} {s : Shared}
theorem rev_adjust (n : Nat) : Builtin.Slice.sliceAdjust none none (-1) (n : Int) = ((n : Int) - 1, -1) := by
  unfold Builtin.Slice.sliceAdjust
  simp
theorem rev_places (n : Nat) : Builtin.Slice.slicePlaces ((n : Int) - 1) (-1) (-1) = n := by
  unfold Builtin.Slice.slicePlaces
  have h1 : ¬ ((-1 : Int) > 0) := by omega
  simp only [h1, if_false]
  rw [show (-(-1 : Int)) = 1 by decide, Int.ediv_one]
  split <;> omega
theorem rev_pick (xs : Array Value) : ((List.range xs.size).filterMap fun (m : Nat) => xs[(((xs.size : Int) - 1) + (m : Int) * (-1)).toNat]?).toArray = xs.toList.reverse.toArray := by
  congr 1
  have e : (List.range xs.size).filterMap (fun (m : Nat) => xs[(((xs.size : Int) - 1) + (m : Int) * (-1)).toNat]?) = ((List.range xs.size).map fun k => xs.size - 1 - k).filterMap (xs[·]?) := by
    rw [List.filterMap_map]
    have cg : ∀ (l : List Nat), (∀ m ∈ l, m < xs.size) → l.filterMap (fun (m : Nat) => xs[(((xs.size : Int) - 1) + (m : Int) * (-1)).toNat]?) = l.filterMap ((xs[·]?) ∘ fun k => xs.size - 1 - k) := fun l => by
      induction l with
      | nil => exact fun _ => rfl
      | cons m l ih =>
        intro h
        have e2 : (((xs.size : Int) - 1) + (m : Int) * (-1)).toNat = xs.size - 1 - m := by have := h m List.mem_cons_self; omega
        rw [List.filterMap_cons, List.filterMap_cons, ih fun k hk => h k (List.mem_cons_of_mem _ hk), e2]
        rfl
    exact cg _ fun m hm => List.mem_range.mp hm
  rw [e, PySem.W.krv_range, List.filterMap_reverse, PySem.W.krv_all]
theorem sliceApplied_rev {sl : Addr} {vs : Value} {n : Nat} {Q : Int × Int × Nat → Shared → Prop} (hs : s.heap.IsSliceOf sl .none .none vs) (ps : IsPart vs (some (-1)))
    (h : Q ((n : Int) - 1, -1, n) s) : wpAny (model prog w) A (Builtin.Slice.sliceApplied (.ref sl) (pure (n : Int))) Q E s := by
  obtain ⟨os, hos, hcs, hds⟩ := id hs
  unfold Builtin.Slice.sliceApplied Builtin.Slice.sliceFields
  refine wpAny_bind (wpAny_bind (wpAny_field hos hds (x := .none) rfl (wpAny_bind (wpAny_field hos hds (x := .none) rfl (wpAny_bind (wpAny_field hos hds (x := vs) rfl (wpAny_pure ?_)))))))
  refine wpAny_bind (slicePart_ ps ?_)
  show wpAny _ _ (if ((-1 : Int) == 0) = true then _ else _) _ _ s
  rw [if_neg (by decide)]
  refine wpAny_bind (slicePart_none (wpAny_bind (slicePart_none (wpAny_bind (wpAny_pure ?_)))))
  show wpAny _ _ (match Builtin.Slice.sliceAdjust none none (-1) (n : Int) with | (lo, hi) => pure (lo, (-1 : Int), Builtin.Slice.slicePlaces lo hi (-1))) _ _ s
  rw [rev_adjust n]
  show wpAny _ _ (pure ((n : Int) - 1, (-1 : Int), Builtin.Slice.slicePlaces ((n : Int) - 1) (-1) (-1))) _ _ s
  rw [rev_places]
  exact wpAny_pure h
theorem getItem_tuple_rev {t sl : Addr} {items : Array Value} {vs : Value} {Q : Value → Shared → Prop} (ht : IsTup s.heap t items) (hs : s.heap.IsSliceOf sl .none .none vs) (ps : IsPart vs (some (-1)))
    (h : Q (.ref s.heap.objs.size) { s with heap := s.heap.push { cls := .type "tuple", data := .seq items.toList.reverse.toArray } })
    (hsz : items.size ≤ sizeLine) : wpAny (model prog w) A (getItem (.ref t) (.ref sl)) Q E s := by
  have htake : sizeOk (.seq items.toList.reverse.toArray) := by
    show items.toList.reverse.toArray.size ≤ sizeLine
    rw [List.size_toArray, List.length_reverse, Array.length_toList]
    exact hsz
  obtain ⟨os, hos, hcs, hds⟩ := id hs
  have hTs : s.TypeIs (.ref sl) "slice" := ⟨os, hos, hcs⟩
  unfold getItem
  try with_reducible refine wpAny_holding ?_
  first | refine wpAny_bind (wpAny_pure ?_) | skip
  refine wpAny_bind (wpAny_sequenceKey ht.typeIs (by decide) ?_)
  refine wpAny_bind (wpAny_callSpecial?_slot (name := Str.ofString "__getitem__") ht.typeIs PyProof.Rows.slot_tuple_getitem
    (wpAny_call_entry PyProof.Rows.slot_tuple_getitem ht.typeIs entry_tuple_getitem ?_ (args_tuple_getitem _ _)))
  show wpAny _ _ (Builtin.Tuple.tupleItemsOf (.ref t) >>= _) _ _ s
  refine wpAny_bind (tupleItemsOf_ ht ?_)
  refine wpAny_bind (wpAny_typeOf hTs ?_)
  rw [if_pos (by decide)]
  refine wpAny_bind (sliceApplied_rev hs ps ?_)
  have hno : ¬ ((((items.size : Int) - 1) == 0 && (-1 : Int) == 1 && items.size == items.size) = true) := by
    intro q
    rw [Bool.and_eq_true, Bool.and_eq_true] at q
    exact absurd q.1.2 (by decide)
  show wpAny _ _ (if (((items.size : Int) - 1) == 0 && (-1 : Int) == 1 && items.size == items.size) = true then _ else _) _ _ s
  rw [if_neg hno, rev_pick]
  first
    | exact wpAny_bind (m := Builtin.Tuple.tupleExact _) (wpAny_newObj_type (wpAny_pure ⟨_, rfl, wpAny_pure h⟩) htake)
    | exact wpAny_bind (m := Builtin.Tuple.tupleExact _) (wpAny_newObj_type (wpAny_bind (wpAny_pure (wpAny_pure ⟨_, rfl, wpAny_pure h⟩))) htake)
    | exact wpAny_bind (wpAny_bind (m := Builtin.Tuple.tupleExact _) (wpAny_newObj_type (wpAny_pure (wpAny_pure ⟨_, rfl, wpAny_pure h⟩)) htake))
    | exact wpAny_bind (wpAny_bind (m := Builtin.Tuple.tupleExact _) (wpAny_newObj_type (wpAny_pure ⟨_, rfl, wpAny_pure h⟩) htake))
end
end HT
namespace GL
open PySem PySem.Spec PyProof.Rows L2
section
variable {X : Cx}
def tRevT (K : PySem.W.Frag) (te : TE) : TE := fun σ H Q => te σ H fun x H1 => ∃ a xs, x = .ref a ∧ SqT K H1 a xs ∧ ∀ (p : Addr) (ob : Obj), H1 p = none → ob.dict = none → Q (.ref p) (upd H1 p (.frz ob (.tup xs.reverse)))
theorem pe_revT {e : Expr} {te : TE} {k : Nat} {p1 p2 p3 pos : Pos} (he : PE X e te) : PE X (.Subscript e (.Slice none none (some (.UnaryOp .USub (.Constant (.int 1) k p1) p2)) p3) pos) (tRevT X.K te) := by
  refine ⟨fun pins s σ H Q I h => ?_⟩
  refine Subscript_ (thn (he.run pins s σ H _ I h) fun v s1 ⟨x, H1, I1, r1, q1⟩ => ?_)
  obtain ⟨a, xs, ex, hx, q⟩ := q1
  subst ex
  cases r1
  have hst : PO X (some (.UnaryOp .USub (.Constant (.int 1) k p1) p2)) (tPart (tUn (rU fun i => .int (-i)) (tC (.int 1)))) := po_some (pe_un un_neg pe_int)
  refine wpAny_Slice (thn (po_none.run pins s1 σ H1 (fun o H2 => o = none ∧ H2 = H1) I1 ⟨rfl, rfl⟩) fun vl s2 ⟨l, H2, I2, pl, el, e2⟩ => ?_)
  subst el e2
  refine thn (po_none.run pins s2 σ H2 (fun o H3 => o = none ∧ H3 = H2) I2 ⟨rfl, rfl⟩) fun vu s3 ⟨u, H3, I3, pu, eu, e3⟩ => ?_
  subst eu e3
  refine thn (hst.run pins s3 σ H3 (fun o H4 => o = some (-1) ∧ H4 = H3) I3 ⟨1, rfl, -1, rfl, rfl, rfl⟩) fun vs s4 ⟨o, H4, I4, ps, eo, e4⟩ => ?_
  subst eo e4
  have I5 : Inv X pins σ H4 { s4 with heap := s4.heap.push { cls := .type "slice", data := .fields #[vl, vu, vs] } } := I4.kept (t' := s4.toks) fun b ob q => Heap.get?_push_of_some _ q
  obtain ⟨its, r, ht, hz⟩ := I5.tuple hx
  have hlen := r.length
  show wpAny (model X.prog X.w) X.A (subscriptTail e (.Slice none none (some (.UnaryOp .USub (.Constant (.int 1) k p1) p2)) p3) (.ref a) (.ref s4.heap.objs.size)) (EP X pins σ Q) X.xe { s4 with heap := s4.heap.push { cls := .type "slice", data := .fields #[vl, vu, vs] } }
  refine tail_any (ops := [.ref a, .ref s4.heap.objs.size]) ht.typeIs (PyProof.Rows.slot_tuple_getitem.lookup) ?_ (by with_unfolding_all rfl)
  cases pl
  cases pu
  refine HT.getItem_tuple_rev ht (Heap.IsSliceOf.new _ .none .none vs) ps ?_ (by rw [List.size_toArray]; omega)
  have at_ := Heap.get?_push_size ({ s4 with heap := s4.heap.push { cls := .type "slice", data := .fields #[.none, .none, vs] } } : Shared).heap (o := { cls := .type "tuple", data := .seq its.reverse.toArray }) rfl
  refine ⟨.ref _, _, I5.laid (t' := s4.toks) (o := .frz { cls := .type "tuple", data := .seq its.reverse.toArray } (.tup xs.reverse)) (fun b ob q => Heap.get?_push_of_some _ q) (Nat.le_refl _) ?_, rfl, q _ _ (I5.hok.fresh (Nat.le_refl _)) rfl⟩
  exact ⟨at_, by rw [List.length_reverse]; exact hz, _, r.reverse, ⟨_, at_, rfl, _, rfl⟩⟩
end
end GL

/-! things of any kind: == with (), dicts beside tuples, repr, the dict {(): 1} -/
namespace GL
open PySem PySem.Spec PyProof.Rows L2 PySem.Calls
open PySem.SeqAt (RcAt)
section
variable {prog : Program} {w : World} {A : Around} {E : Value → Shared → Prop} {s : Shared}
/-! ### a dict and a tuple are not equal -/
theorem tuple_eq_declines_obj (l b : Addr) (items : Array Value) (n : Nat) (dd : Option Addr) (sl : Array (Option Value)) (o : Obj) (ho : o.cls = .type "dict") :
    Meets (Builtin.«tuple.__eq__» ⟨[.ref l, .ref b], []⟩) (fun _ R s => s.heap.get? l = some { cls := .type "tuple", dict := dd, data := .seq items n, slots := sl } ∧ s.heap.get? b = some o ∧ R (.ok (.ret .notImplemented)) s) :=
  .of_wp fun prog w A R s h => by
    obtain ⟨hp, g, d, tk, os⟩ := s
    obtain ⟨hl, hb, h⟩ := h
    obtain ⟨c, d2, dt, s2⟩ := o
    simp only at ho
    subst ho
    have f1 := F.sub_dict_tuple
    wp_walk using AutoSeq1.wpAny_loadPart' hl, AutoSeq1.wpAny_loadPart' hb
    exact ⟨_, rfl, h⟩
theorem rc_dict_tuple {d b : Addr} {o : Obj} {items : Array Value} (hd : s.heap.get? d = some o) (hx : o.ExactDict) (hb : IsTup s.heap b items) (hu : A.units < cLine) (Q : Value → Shared → Prop) (h : Q (.bool false) s) :
    wpAny (model prog w) A (richCompare .Eq (.ref d) (.ref b)) Q E s := by
  obtain ⟨⟨cls2, dd2, data2, sl2⟩, ho2, hc2, n2, hd2⟩ := id hb
  simp only at hc2 hd2
  subst hc2 hd2
  have hne : d ≠ b := fun e => by
    subst e
    rw [hd] at ho2
    cases ho2
    exact absurd hx.1 (by simp)
  have td : s.TypeIs (.ref d) "dict" := ⟨_, hd, hx.1⟩
  refine (SeqAt.rc_eq_decline_or (k := false) td ⟨_, ho2, rfl⟩ (by decide) F.sub_tuple_dict F.slot_dict_eq F.slot_tuple_eq_refl
    (fun Q' hq => ?_)
    (fun _ hq => call_meets F.slot_tuple_eq_refl ⟨_, ho2, rfl⟩ F.entry_tuple_eq (F.args_tuple_eq_2 _ _) (tuple_eq_declines_obj b d items n2 dd2 sl2 o hx.1) ⟨ho2, hd, hq⟩)
    (fun _ hq => wpAny_isSame_ref_other hne hd ho2 (by rw [hx.1]; exact fun z => nomatch z) hq) (.inr hu) h)
  refine wpAny_call_entry F.slot_dict_eq td F.entry_dict_eq ?_ (F.args_dict_eq_2 _ _)
  show wpAny _ _ (Builtin.Dict.dictSlotArgs "__eq__" ⟨[.ref d, .ref b], []⟩ >>= _) _ _ s
  refine wpAny_bind ?_
  unfold Builtin.Dict.dictSlotArgs
  refine wpAny_bind (wpAny_notOrdered_dict td ?_)
  show wpAny _ _ (pure (Value.ref d, Value.ref b)) _ _ s
  refine wpAny_pure ?_
  refine wpAny_bind (wpAny_isInstance (T := "tuple") ⟨_, ho2, rfl⟩ F.sub_tuple_dict ?_)
  simp only [Bool.not_false, if_true]
  exact wpAny_bind (wpAny_rule (wpAny_bind (wpAny_pure (wpAny_pure ⟨_, rfl, hq⟩))))
end
section
variable {X : Cx}
/-- x == (), x a tuple or a dict -/
def rEqE (K : PySem.W.Frag) : R2 := fun x y H Q => ∃ a b, x = .ref a ∧ y = .ref b ∧ SqT K H b [] ∧ ((∃ xs, SqT K H a xs ∧ Q (.bl xs.isEmpty) H) ∨ ((∃ kvs, H a = some (.dK kvs)) ∨ ∃ kvs, H a = some (.dT kvs)) ∧ Q (.bl false) H)
theorem op_eqE (hu : X.A.units + 64 < cLine) : OpR X (compareOp .Eq) (rEqE X.K) := by
  intro pins s σ H x y v u Q I rx ry h
  obtain ⟨a, b, rfl, rfl, hb, h⟩ := h
  cases rx
  cases ry
  obtain ⟨i2, r2, p2, _⟩ := I.tuple hb
  have e2 : i2 = [] := r2.nil_iff.mpr rfl
  subst e2
  rcases h with ⟨xs, hx, q⟩ | ⟨hd, q⟩
  · obtain ⟨i1, r1, p1, _⟩ := I.tuple hx
    refine SeqAt.eq_tupleAt (e := fun _ => true) p1 p2 (by omega) (fun j h1 h2 => absurd h2 (Nat.not_lt_zero _)) ⟨.bl xs.isEmpty, H, I, ?_, q⟩
    show Value.bool _ = Value.bool _
    congr 1
    have hl := r1.length
    cases xs with
    | nil =>
      cases r1
      rfl
    | cons x xs =>
      cases r1
      rfl
  · have ex : ∃ o, s.heap.get? a = some o ∧ o.ExactDict := by
      rcases hd with ⟨kvs, e⟩ | ⟨kvs, e⟩
      · obtain ⟨_, _, vs, _, o, es, ep, ho, hx, _⟩ := dk_of I.hok e
        exact ⟨o, ho, hx⟩
      · obtain ⟨_, _, xs, _, o, es, ep, ho, hx, _⟩ := dt_of I.hok e
        exact ⟨o, ho, hx⟩
    obtain ⟨o, ho, hx⟩ := ex
    exact rc_dict_tuple ho hx p2 (by omega) _ ⟨.bl false, H, I, rfl, q⟩
end
end GL

/-! sorted of tuples of whole numbers, some of them empty -/
namespace PySem.W
open PySem PySem.Calls PyProof.Rows PySem.SeqAt
section
variable {prog : Program} {w : World} {A : Around} {E : Value → Shared → Prop} {s : Shared}
theorem call_tuple_ltE {Q : Value → Shared → Prop} {l b : Addr} {items items2 : Array Value} {e r : Nat → Bool} (hl : s.heap.IsTuple l items) (hb : s.heap.IsTuple b items2)
    (he : ∀ j (h1 : j < items.size) (h2 : j < items2.size), EqAt A.in1 s items[j] items2[j] (e j)) (hr : ∀ j (h1 : j < items.size) (h2 : j < items2.size), e j = false → RcLt A.in1 s items[j] items2[j] (r j))
    (h : Q (.bool (firstLt e r (decide (items.size < items2.size)) (List.range (min items.size items2.size)))) s) : wpAny (model prog w) A (call (.builtin "tuple.__lt__") [.ref l, .ref b]) Q E s := by
  obtain ⟨⟨cls, dd, data, sl⟩, ho, hc, n, hd⟩ := id hl
  obtain ⟨⟨cls2, dd2, data2, sl2⟩, ho2, hc2, n2, hd2⟩ := id hb
  simp only at hc hd hc2 hd2
  subst hc hd hc2 hd2
  exact call_meets F.slot_tuple_lt ⟨_, ho, rfl⟩ F.entry_tuple_lt (F.args_tuple_lt_2 _ _) (tuple_ltAt l b items items2 n n2 dd dd2 sl sl2 e r) ⟨ho, ho2, he, hr, h⟩
theorem oneLt_tup {f : Bool} {xs ys : List PyData} {a b : Value} {as bs : List Addr} {Q : Bool → Shared → Prop} (ra : Reads s.heap a (.tuple xs) as) (rb : Reads s.heap b (.tuple ys) bs) (h : alike (.tuple xs) (.tuple ys) = true)
    (hu : A.units + min (PyData.tuple xs).depth (PyData.tuple ys).depth < cLine) (hq : Q (dataLt (.tuple xs) (.tuple ys)) s) : wpAny (model prog w) A (oneLt' f a b) Q E s := by
  cases f with
  | false => exact oneLt_alike (fun z => nomatch z) ra rb h (fun z => nomatch z) hu hq
  | true =>
    have hal : alikeAll xs ys = true := by simpa [alike] using h
    cases ra with
    | @tuple l o vs n _ as₁ h1 h2 h3 h4 =>
      cases rb with
      | @tuple l' o' vs' n' _ bs₁ k1 k2 k3 k4 =>
        have n1 : vs.size = xs.length := by simpa using ReadsAll.length _ _ _ h4
        have n2 : vs'.size = ys.length := by simpa using ReadsAll.length _ _ _ k4
        rw [dataLt_tuple, ← firstLt_toks xs ys hal, ← n1, ← n2] at hq
        rw [oneLt'_eq]
        simp only [if_true]
        refine wpAny_bind (wpAny_cRoomFor (room_here hu) ?_)
        refine wpAny_bind (wpAny_callSpecialIfBound?_slot (T := "tuple") ⟨_, h1, h2⟩ F.slot_tuple_lt (call_tuple_ltE (e := pairEq xs ys) (r := fun j => dataLt (xs.getD j .none) (ys.getD j .none)) ⟨_, h1, h2, _, h3⟩ ⟨_, k1, k2, _, k3⟩ (fun j j1 j2 => ?_) (fun j j1 j2 hj => ?_) ?_))
        · have := eqAt_alikeAll xs ys A.in1 s vs.toList vs'.toList _ _ h4 k4 hal (room_in hu) j (by simpa using j1) (by simpa using j2)
          simpa using this
        · have := rcLt_alikeAll xs ys A.in1 s vs.toList vs'.toList _ _ h4 k4 hal (room_in hu) j (by simpa using j1) (by simpa using j2) hj
          simpa using this
        · exact wpAny_truthy_bool hq
theorem mapM_each {α β : Type} {M : Model} {f : α → Sem β} {g : α → β} : ∀ (l : List α) {Q : List β → Shared → Prop}, (∀ v ∈ l, ∀ (Q' : β → Shared → Prop), Q' (g v) s → wpAny M A (f v) Q' E s) → Q (l.map g) s → wpAny M A (l.mapM f) Q E s
  | [], _, _, h => by rw [List.mapM_nil]; exact wpAny_pure h
  | x :: l, Q, hf, h => by
    rw [List.mapM_cons]
    exact wpAny_bind (hf x (.head _) _ (wpAny_bind (mapM_each l (Q := fun bs s' => wpAny M A (pure (g x :: bs)) Q E s') (fun v hv => hf v (.tail _ hv)) (wpAny_pure h))))
/-- the first item of the tuple at a value -/
def fstAt (h : Heap) : Value → Option Value
  | .ref a => match h.get? a with
    | some o => match o.data with
      | .seq xs _ => xs[0]?
      | _ => none
    | none => none
  | _ => none
theorem fst_of {a : Addr} {items : Array Value} (h : IsTup s.heap a items) : fstAt s.heap (.ref a) = items[0]? := by
  obtain ⟨o, ho, hc, n, hd⟩ := h
  simp [fstAt, ho, hd]
theorem first_tup {M : Model} {a : Addr} {items : Array Value} (h : IsTup s.heap a items) {Q : Option Value → Shared → Prop} (q : Q (items[0]?) s) : wpAny M A (firstOfTuple' (.ref a)) Q E s := by
  obtain ⟨o, ho, hc, n, hd⟩ := h
  rw [kas_first_eq]
  refine wpAny_bind (wpAny_typeOf (T := "tuple") ⟨o, ho, hc⟩ ?_)
  rw [if_neg (by decide)]
  exact wpAny_bind (listItems_at ho hd (wpAny_pure q))
theorem kind_tups {vs : List Value} (h2 : 2 ≤ vs.length) (ht : ∀ v ∈ vs, ∃ a items, v = .ref a ∧ IsTup s.heap a items) (hn : ∃ v ∈ vs, fstAt s.heap v = none) {Q : SortKind → Shared → Prop}
    (q : Q (if ((vs.head?).bind (fstAt s.heap)).isSome then general' else oneType') s) : wpAny (model prog w) A (keyKind' vs.toArray) Q E s := by
  rw [keyKind'_eq, List.mapM_toArray, map_eq_pure_bind]
  refine wpAny_bind (wpAny_bind (mapM_each (g := fstAt s.heap) _ (fun v hv Q' hq => ?_) (wpAny_pure ?_)))
  · obtain ⟨a, items, rfl, hi⟩ := ht v hv
    rw [fst_of hi] at hq
    exact first_tup hi hq
  · have hna : ((vs.map (fstAt s.heap)).toArray.all fun x => x.isSome) = false := by
      obtain ⟨v, hv, e⟩ := hn
      rw [List.all_toArray, List.all_map, List.all_eq_false]
      exact ⟨v, hv, by simp [e]⟩
    rw [if_neg (by rw [hna]; exact Bool.false_ne_true)]
    have h0 : ((vs.map (fstAt s.heap)).toArray[0]?.bind id) = (vs.head?).bind (fstAt s.heap) := by
      cases vs with
      | nil => rfl
      | cons v vs => simp
    rw [h0]
    cases hb : ((vs.head?).bind (fstAt s.heap)).isSome with
    | true =>
      rw [hb] at q
      rw [if_pos rfl]
      exact wpAny_pure q
    | false =>
      rw [hb] at q
      rw [if_neg Bool.false_ne_true]
      rw [oneTypeOnly'_eq, List.mapM_toArray, map_eq_pure_bind]
      refine wpAny_bind (wpAny_bind (wpAny_bind (kas_mapM (r := Value.type "tuple") _ (fun v hv Q' hq => ?_) (wpAny_pure ?_))))
      · obtain ⟨a, items, rfl, o, ho, hc, _⟩ := ht v hv
        exact wpAny_typeOf (T := "tuple") ⟨o, ho, hc⟩ hq
      · have hall : ((List.map (fun _ => Value.type "tuple") vs).toArray.all fun x => x == Value.type "tuple") = true := by
          simp
        have h1 : (List.map (fun _ => Value.type "tuple") vs).toArray[0]? = some (Value.type "tuple") := by
          cases vs with
          | nil => simp at h2
          | cons v vs => simp
        rw [h1]
        simp only [hall, if_true]
        exact wpAny_pure (wpAny_pure q)
theorem each_right {α β : Type} {R : α → β → Prop} : ∀ {as : List α} {bs : List β}, EachIs R as bs → ∀ b ∈ bs, ∃ a, a ∈ as ∧ R a b
  | _, _, .nil, _, h => nomatch h
  | _, _, .cons r t, b, h => by
    rcases List.mem_cons.mp h with rfl | h
    · exact ⟨_, List.mem_cons_self, r⟩
    · obtain ⟨a, ha, q⟩ := each_right t b h
      exact ⟨a, List.mem_cons_of_mem _ ha, q⟩
theorem sortsTup {vs : List Value} {ds : List PyData} (e : EachIs (fun v d => ∃ as, Reads s.heap v d as) vs ds) (hal : AllAlike ds) (ht : ∀ d ∈ ds, ∃ xs, d = .tuple xs) (hu : ∀ d, d ∈ ds → A.units + d.depth < cLine) : SortsAt prog w A s (dataKind s.heap ds) vs := by
  by_cases ne : ∀ d ∈ ds, d ≠ .tuple []
  · refine SortsAt.data e hal (.inl fun d hd => ?_) hu
    obtain ⟨xs, rfl⟩ := ht d hd
    cases xs with
    | nil => exact absurd rfl (ne _ hd)
    | cons x r => exact ⟨x, r, rfl⟩
  · have room : ∀ {d d' : PyData}, d ∈ ds → A.units + min d.depth d'.depth < cLine := fun {d d'} hd => Nat.lt_of_le_of_lt (Nat.add_le_add_left (Nat.min_le_left _ _) _) (hu d hd)
    have tups : ∀ v ∈ vs, ∃ a items, v = .ref a ∧ IsTup s.heap a items ∧ ∃ xs, .tuple xs ∈ ds ∧ items.size = xs.length := fun v hv => by
      obtain ⟨d, hd, as, r⟩ := e.left v hv
      obtain ⟨xs, rfl⟩ := ht d hd
      cases r with
      | @tuple l o its n _ _ h1 h2 h3 h4 => exact ⟨l, its, rfl, ⟨o, h1, h2, n, h3⟩, xs, hd, by simpa using ReadsAll.length _ _ _ h4⟩
    refine ⟨fun v hv => ?_, (if ((vs.head?).bind (fstAt s.heap)).isSome then general' else oneType'), ?_, fun h2 E Q hq => kind_tups h2 (fun v hv => ?_) ?_ hq⟩
    · obtain ⟨d, hd, as, r⟩ := e.left v hv
      exact ⟨_, dataKind_some hal hd r⟩
    · intro E x y a b Q ha hb hq
      obtain ⟨d, as, hd, ra, rfl⟩ := dataKind_inv ha
      obtain ⟨d', as', hd', rb, rfl⟩ := dataKind_inv hb
      have hdd := hal d hd d' hd'
      have hroom := room (d' := d') hd
      obtain ⟨x1, rfl⟩ := ht d hd
      obtain ⟨x2, rfl⟩ := ht d' hd'
      split
      · exact oneLt_tup (f := false) ra rb hdd hroom hq
      · exact oneLt_tup (f := true) ra rb hdd hroom hq
    · obtain ⟨a, items, e1, e2, _⟩ := tups v hv
      exact ⟨a, items, e1, e2⟩
    · obtain ⟨d, hd, e1⟩ : ∃ d ∈ ds, d = .tuple [] := by
        refine Classical.byContradiction fun z => ne fun d hd e => z ⟨d, hd, e⟩
      subst e1
      obtain ⟨v, hv, as, r⟩ := each_right e _ hd
      cases r with
      | @tuple l o its n _ _ h1 h2 h3 h4 =>
        refine ⟨_, hv, ?_⟩
        rw [fst_of ⟨o, h1, h2, n, h3⟩]
        have : its.size = 0 := by simpa using ReadsAll.length _ _ _ h4
        rw [Array.getElem?_eq_none (by omega)]
end
end PySem.W
namespace GL
open PySem PySem.Spec PyProof.Rows L2
open PySem.W (sortsTup)
section
variable {prog : Program} {w : World} {A : Around} {E : Value → Shared → Prop} {s : Shared}
theorem sorted_gatherE {x : Value} {Q : Value → Shared → Prop} {bs : List (Value × List Int)}
    (hcol : ∀ (E' : Value → Shared → Prop) (Q' : List Value → Shared → Prop),
      (∀ s' out, (∀ b o, s.heap.get? b = some o → s'.heap.get? b = some o) → s.heap.objs.size ≤ s'.heap.objs.size → s'.gens = s.gens → s'.os = s.os →
        out.Perm (bs.map (·.1)) → Q' out s') → wpAny (model prog w) A.in1 (collect x) Q' E' s)
    (hr : ∀ b ∈ bs, ∃ as, Reads s.heap b.1 (encR b.2) as) (hL : bs.length ≤ sizeLine) (hu : A.units + 64 < cLine)
    (h : ∀ s' p c (bs' : List (Value × List Int)), (∀ b o, s.heap.get? b = some o → s'.heap.get? b = some o) → s'.gens = s.gens → s'.os = s.os →
      s.heap.objs.size ≤ p → s'.heap.get? p = some (seqObj "list" (bs'.map (·.1)).toArray c) → bs'.Perm bs → (bs'.map (·.2)).Pairwise (· ≤ ·) → Q (.ref p) s') :
    wpAny (model prog w) A (call (.builtin "sorted") [x]) Q E s := by
  refine Calls.call_function_entry kind_sorted plain_sorted entry_sorted (args_sorted1 _) ?_
  unfold Builtin.«sorted»
  refine wpAny_bind (m := checkCount "sorted" 1 1 _) (wpAny_pure ?_)
  refine wpAny_bind (hcol _ _ fun s1 out k1 z1 g1 o1 pm => ?_)
  obtain ⟨b1, e1, p1⟩ := perm_lift _ out bs pm
  subst e1
  have l1 : (b1.map (·.1)).length ≤ sizeLine := by rw [List.length_map, p1.length_eq]; exact hL
  refine wpAny_bind (wpAny_newList ?_ l1)
  have ho : (s1.heap.push (seqObj "list" (b1.map (·.1)).toArray 0)).get? s1.heap.objs.size = some (seqObj "list" (b1.map (·.1)).toArray 0) := Heap.get?_push_size _ rfl
  have old : ∀ b o, s.heap.get? b = some o → (PySem.W.sortingHeap (s1.heap.push (seqObj "list" (b1.map (·.1)).toArray 0)) s1.heap.objs.size (b1.map (·.1))).get? b = some o := by
    intro b o e
    have e2 := k1 b o e
    exact PySem.W.sortingHeap_old (Nat.ne_of_lt (Heap.lt_size e2)) (Heap.get?_push_of_some _ e2)
  have er : PySem.W.EachIs (fun v (b : Value × List Int) => ∃ as, Reads (PySem.W.sortingHeap (s1.heap.push (seqObj "list" (b1.map (·.1)).toArray 0)) s1.heap.objs.size (b1.map (·.1))) v (encR b.2) as) (b1.map (·.1)) b1 :=
    each_of fun b hb => by
      obtain ⟨as, r⟩ := hr b (p1.mem_iff.mp hb)
      exact ⟨as, PyProof.Rows.Reads.keeps old r⟩
  have hal : PySem.W.AllAlike (b1.map fun b => encR b.2) := PySem.W.AllAlike.of fun b c => by
    show PySem.W.alike (.tuple _) (.tuple _) = true
    rw [PySem.W.alike]
    exact PySem.W.alike_ints _ _
  have S := sortsTup (prog := prog) (w := w) (A := A.in1.in1) (s := { s1 with heap := PySem.W.sortingHeap (s1.heap.push (seqObj "list" (b1.map (·.1)).toArray 0)) s1.heap.objs.size (b1.map (·.1)) })
    (PySem.W.each_map (R := fun v d => ∃ as, Reads (PySem.W.sortingHeap (s1.heap.push (seqObj "list" (b1.map (·.1)).toArray 0)) s1.heap.objs.size (b1.map (·.1))) v d as) (fun b : Value × List Int => encR b.2) er) hal (fun d hd => by obtain ⟨b, _, rfl⟩ := List.mem_map.mp hd; exact ⟨_, rfl⟩) (fun d hd => by
      obtain ⟨b, _, rfl⟩ := List.mem_map.mp hd
      have dp : (encR b.2).depth = 1 := by
        show PyData.depth (.tuple _) = 1
        rw [PyData.depth, PySem.W.depth_ints]
      rw [dp]
      show A.units + 1 + 1 + 1 < cLine
      omega)
  refine wpAny_bind (wpAny_holding (wpAny_call_entry slot_list_sort ⟨_, ho, rfl⟩ entry_list_sort ?body (args_list_sort _)))
  case body =>
    refine PySem.W.list_sort_vals (s := { s1 with heap := s1.heap.push (seqObj "list" (b1.map (·.1)).toArray 0) }) ho S l1 ⟨_, rfl, wpAny_pure ⟨_, rfl, ?_⟩⟩
    have eo := PySem.W.sortVals_data (R := fun (v : Value) (b : Value × List Int) => v = b.1) false (each_fst b1) er hal
    have eo2 := fst_each eo
    rw [eo2]
    obtain ⟨c, hc⟩ := PyProof.Rows.sortedHeap_at (vs := b1.map (·.1)) (out := ((b1.mergeSort (PySem.W.dataLe false fun b => encR b.2)).map (·.1)).toArray) ho
    refine h _ s1.heap.objs.size c (b1.mergeSort (PySem.W.dataLe false fun b => encR b.2)) (fun b o e => ?_) g1 o1 z1 hc ((List.mergeSort_perm _ _).trans p1) ?_
    · have e2 := k1 b o e
      have e3 : (s1.heap.push (seqObj "list" (b1.map (·.1)).toArray 0)).get? b = some o := Heap.get?_push_of_some _ e2
      exact (PyProof.Rows.sortedHeap_old (Nat.ne_of_lt (Heap.lt_size e2)) (Heap.lt_size e3)).trans e3
    · have pw := PySem.W.sort_pairwise (le := PySem.W.dataLe false fun b : Value × List Int => encR b.2) (PySem.W.sortLe_total _ _ _) b1
      rw [List.pairwise_map]
      refine pw.imp fun {a b} hab => ?_
      have hab' : PySem.W.dataLe false (fun b : Value × List Int => encR b.2) a b = true := hab
      rw [dataLe_encR (fun b : Value × List Int => b.2)] at hab'
      exact of_decide_eq_true hab'

end
def RowAtE (K : PySem.W.Frag) (H : Hp) (b : V × List Int) : Prop := ∃ t, b.1 = .ref t ∧ SqT K H t (b.2.map V.int)
section
variable {X : Cx} {pins : List (Addr × Obj)} {σ : L2.St} {H : Hp} {s : Shared}
theorem row_readsE (I : Inv X pins σ H s) {b : V × List Int} {u : Value} (r : RelV b.1 u) (h : RowAtE X.K H b) : ∃ as, Reads s.heap u (encR b.2) as := by
  obtain ⟨t, e, ht⟩ := h
  have all : ∀ l : List Int, DpAll X.K H (l.map V.int) (l.map PyData.int) := by
    intro l
    induction l with
    | nil => exact .nil
    | cons i l ih => exact .cons (.int i) ih
  exact Dp.reads I (encR b.2) b.1 u (by rw [e]; exact .tup ht (all _)) r
/-- the end of each kind -/
theorem sort_finE (I : Inv X pins σ H s) (hu : X.A.units + 64 < cLine) {a : Addr} {Q : VK} {ts : List (V × Value × List Int)} (hz : ts.length ≤ sizeLine)
    (rel : ∀ t ∈ ts, RelV t.1 t.2.1) (hrow : ∀ b ∈ ts.map tV, RowAtE X.K H b)
    (q : ∀ (p : Addr) (bs' : List (V × List Int)), H p = none → bs'.Perm (ts.map tV) → (bs'.map (·.2)).Pairwise (· ≤ ·) → Q (.ref p) (upd H p (.lst (bs'.map (·.1)))))
    (hcol : ∀ (E' : Value → Shared → Prop) (Q' : List Value → Shared → Prop),
      (∀ s' out, (∀ b o, s.heap.get? b = some o → s'.heap.get? b = some o) → s.heap.objs.size ≤ s'.heap.objs.size → s'.gens = s.gens → s'.os = s.os →
        out.Perm (ts.map (·.2.1)) → Q' out s') → wpAny (model X.prog X.w) X.A.in1 (collect (.ref a)) Q' E' s) :
    wpAny (model X.prog X.w) X.A (call (.builtin "sorted") [.ref a]) (EP X pins σ Q) X.xe s := by
  refine sorted_gatherE (bs := ts.map tU) (fun E' Q' k => hcol E' Q' fun s' out k1 z1 g1 o1 pm => k s' out k1 z1 g1 o1 (by rw [List.map_map]; exact pm))
    (fun b hb => ?_) (by rw [List.length_map]; exact hz) hu fun s' p c bs' k1 g1 o1 hp hg pm pw => ?_
  · obtain ⟨t, ht, rfl⟩ := List.mem_map.mp hb
    exact row_readsE I (b := tV t) (rel t ht) (hrow _ (List.mem_map.mpr ⟨t, ht, rfl⟩))
  · obtain ⟨ts', e1, p1⟩ := perm_lift tU bs' ts pm
    subst e1
    have hn : H p = none := I.hok.fresh hp
    have rel' : ∀ l : List (V × Value × List Int), (∀ t ∈ l, t ∈ ts) → Vals ((l.map tV).map (·.1)) ((l.map tU).map (·.1)) := by
      intro l
      induction l with
      | nil => intro _; exact .nil
      | cons t l ih => intro hl; exact .cons (rel t (hl t List.mem_cons_self)) (ih fun b hb => hl b (List.mem_cons_of_mem _ hb))
    have hv := rel' ts' fun t ht => p1.mem_iff.mp ht
    have hlen : ((ts'.map tV).map (·.1)).length ≤ sizeLine := by
      rw [List.length_map, List.length_map, p1.length_eq]
      exact hz
    have J : Inv X pins σ (upd H p (.lst ((ts'.map tV).map (·.1)))) { s with heap := s'.heap, gens := s'.gens, drawn := s'.drawn, toks := s'.toks } :=
      I.call (ch := []) (Un.laid k1 hp hn) (I.hok.laid k1 hp ⟨hlen, _, c, hv, hg⟩) (by rw [g1]; exact I.bare) (fun _ z => nomatch z)
    have e : s' = { s with heap := s'.heap, gens := s'.gens, drawn := s'.drawn, toks := s'.toks } := by
      cases s'
      cases s
      cases o1
      rfl
    rw [e]
    refine ⟨.ref p, _, J, rfl, q p (ts'.map tV) hn (p1.map tV) ?_⟩
    have e2 : (ts'.map tV).map (·.2) = (ts'.map tU).map (·.2) := by rw [List.map_map, List.map_map]; rfl
    rw [e2]
    exact pw


/-- sorted(s), s a set of rows, some of them empty -/
def rSortSetE (K : PySem.W.Frag) (P : Program) (w : World) : List V → Hp → VK → Prop := fun vs H Q =>
  ∃ (a : Addr) (L : List (Addr × List Int)), vs = [.ref a] ∧ H a = some (SetTO P w a L) ∧ (∀ p ∈ L, SqT K H p.1 (p.2.map V.int)) ∧
    ∀ (p : Addr) (bs' : List (V × List Int)), H p = none → bs'.Perm (L.map fun p => (V.ref p.1, p.2)) → (bs'.map (·.2)).Pairwise (· ≤ ·) → (L.map (·.2)).Nodup →
      Q (.ref p) (upd H p (.lst (bs'.map (·.1))))
theorem cr_sortSetE (hc : X.calm = true) (hu : X.A.units + 64 < cLine) : CallR X (.builtin "sorted") (rSortSetE X.K X.prog X.w) := by
  intro pins s σ H vs us Q I r h
  obtain ⟨a, L, rfl, hs, hk, q⟩ := h
  rw [Vals.ref1 r]
  have R0 : SetT0 X.prog X.w s.heap a L := (I.hok a _ hs).1
  obtain ⟨es, ep, t, R⟩ := R0.full fun p hp => I.isT (hk p hp)
  obtain ⟨o, ho, hex, hd⟩ := R.ob
  have hsz := R.size
  have hfew := R.few
  let ts : List (V × Value × List Int) := L.map fun p => (V.ref p.1, Value.ref p.1, p.2)
  have ets : L.map (fun p => (V.ref p.1, p.2)) = ts.map tV := by rw [List.map_map]; rfl
  have hrow : ∀ b ∈ ts.map tV, RowAtE X.K H b := fun b hb => by
    rw [← ets] at hb
    obtain ⟨p, hp, rfl⟩ := List.mem_map.mp hb
    exact ⟨p.1, rfl, hk p hp⟩
  rw [ets] at q
  refine sort_finE I hu (ts := ts) (by rw [List.length_map, sizeLine_eq]; omega) (fun t ht => ?_) hrow (fun p bs' h1 h2 h3 => q p bs' h1 h2 h3 R.nd) fun E' Q' k => ?_
  · obtain ⟨p, _, rfl⟩ := List.mem_map.mp ht
    exact rfl
  · refine collect_set (A := X.A.in1) (I.ok.hd hc) ⟨o, ho, hex.1, hd⟩ R.fits (by unfold scanBound; omega) R.tab.ris R.led fun s1 vs k1 hz g1 o1 pm => k s1 vs k1 hz g1 o1 ?_
    have hes : es.toList.map (·.2) = ts.map (·.2.1) := by
      rw [R.rows]
      unfold rowsOf
      rw [List.map_map, List.map_map] <;> rfl
    rw [← hes]
    exact pm
end
end GL

/-! things of any kind, by data -/
namespace GL
open PySem PySem.Spec PyProof.Rows L2 PySem.Calls
/-! ### the dict {(): 1} -/
def tDT1 : TE := fun σ H Q => ∀ (d k : Addr), H d = none → upd H d (.dT []) k = none → Q (.ref d) (upd (upd (upd H d (.dT [])) k (.tup [])) d (.dT [([], .int 1)]))
theorem pe_dT1 {X : Cx} (hu : X.A.units < cLine) {k1 k2 : Nat} {p1 p2 pos : Pos} : PE X (.Dict [some (.Tuple [] k1 p1)] [.Constant (.int 1) k2 p2] pos) tDT1 := by
  refine ⟨fun pins s σ H Q I h => ?_⟩
  have hn := I.hok.fresh (Nat.le_refl s.heap.objs.size)
  have I1 := I.laid (a := s.heap.objs.size) (o := .dT []) (h' := s.heap.push { cls := .type "dict", data := .dict #[] }) (t' := s.toks) (fun _ _ q => Heap.get?_push_of_some _ q) (Nat.le_refl _) (dt_empty s.heap I.big)
  refine wpAny_Dict_any rfl rfl (fun z => nomatch z) (by show 1 ≤ 15; decide) ?_
  refine pairTrees_cons_walk (thn ((pe_tup pa_nil : PE X (.Tuple [] k1 p1) _).run pins _ σ _ (fun x H2 => ∃ k, x = .ref k ∧ upd H s.heap.objs.size (.dT []) k = none ∧ H2 = upd (upd H s.heap.objs.size (.dT [])) k (.tup [])) I1 ⟨Nat.zero_le _, fun k hk => ⟨k, rfl, hk, rfl⟩⟩) fun u s2 ⟨x, H2, I2, rx, k, ex, hk, eH⟩ => ?_)
  subst ex eH
  cases rx
  refine thn ((pe_int : PE X (.Constant (.int 1) k2 p2) _).run pins s2 σ _ (fun y H3 => y = .int 1 ∧ H3 = upd (upd H s.heap.objs.size (.dT [])) k (.tup [])) I2 ⟨rfl, rfl⟩) fun w2 s3 ⟨y, H3, I3, ry, ey, e3⟩ => ?_
  subst ey e3
  refine pairTrees_nil_walk ?_
  have ne : s.heap.objs.size ≠ k := fun z => by rw [← z, upd_same] at hk; cases hk
  have ed : upd (upd H s.heap.objs.size (.dT [])) k (.tup []) s.heap.objs.size = some (.dT []) := by rw [upd_ne ne, upd_same]
  obtain ⟨z, hd, xs, rel, dd⟩ := dt_of I3.hok ed
  cases rel
  have ek : upd (upd H s.heap.objs.size (.dT [])) k (.tup []) k = some (.tup (([] : List Key).map kV)) := upd_same
  show wpAny _ _ (forIn [(Value.ref k, w2)] PUnit.unit fun (x : Value × Value) (_ : PUnit) => (do dictSet s.heap.objs.size x.1 x.2; pure (ForInStep.yield PUnit.unit) : Sem (ForInStep PUnit))) _ _ s3
  rw [List.forIn_cons]
  refine wpAny_bind (wpAny_bind (wpAny_dictSet_heap (k := ([] : List Key)) (show X.A.units < cLine from hu) (key_of I3.hok ek) dd (fun h' dd' hs => ?_) (Nat.zero_le _)))
  refine wpAny_pure ?_
  show wpAny _ _ (forIn ([] : List (Value × Value)) PUnit.unit _) _ _ _
  rw [List.forIn_nil]
  refine wpAny_pure ?_
  obtain ⟨q, es, ep, hq, h2, h3, h4, _, h5⟩ := dd'
  refine ⟨.ref s.heap.objs.size, _, d_write (ob := .dT [([], .int 1)]) I3 (by rw [ed]; exact True.intro) hs ⟨q, hq⟩ ?_, rfl, h _ k hn hk⟩
  refine ⟨by show 1 ≤ sizeLine; decide, hd, [([], k, w2)], .cons ⟨rfl, ?_, ry⟩ .nil, q, es, ep, hq, h2, h3, h4, h5⟩
  show upd _ _ _ k = _
  rw [upd_ne (fun z => ne z.symm), upd_same]
  rfl
theorem re_dT1 {K : PySem.W.Frag} : RE K tDT1 (fun _ P => P (.dict [(.tuple [], .int 1)])) := by
  intro C M H σ ρ P Q e p q d k nd nk
  have s1 := Stp.new (bg := C.bg) e.vis nd (.dT [])
  have s2 := Stp.new (bg := C.bg) s1.vis nk (.tup [])
  have ne : k ≠ d := fun z => by rw [z, upd_same] at nk; cases nk
  have hM : M d = none := none_of_vis e.vis nd
  have hM2 : upd M d (.dT []) k = none := none_of_vis s1.vis nk
  have eq1 : upd (upd (upd H d (.dT [])) k (.tup [])) d (.dT [([], .int 1)]) = upd (upd H d (.dT [([], .int 1)])) k (.tup []) := by
    funext b
    by_cases z : b = d
    · subst z
      rw [upd_same, upd_ne (fun w => ne w.symm), upd_same]
    · by_cases z2 : b = k
      · subst z2
        rw [upd_ne z, upd_same, upd_same]
      · rw [upd_ne z, upd_ne z2, upd_ne z, upd_ne z2, upd_ne z]
  rw [eq1]
  have s3 := Stp.new (bg := C.bg) e.vis nd (.dT [([], .int 1)])
  have nk3 : upd H d (.dT [([], .int 1)]) k = none := by
    rw [upd_ne ne] at nk ⊢
    exact nk
  have s4 := Stp.new (bg := C.bg) s3.vis nk3 (.tup [])
  refine q _ _ _ _ p (s3.trans s4) (.dt rfl ?_)
  rw [upd_ne (fun w => ne w.symm), upd_same]
/-! ### repr, no list within -/
def Rdb (K : PySem.W.Frag) (H : Hp) (v : V) (d : PyData) : Prop := ∀ (X : Cx) (pins : List (Addr × Obj)) (σ : L2.St) (s : Shared) (u : Value), X.K = K → Inv X pins σ H s → RelV v u → ∃ as, Reads s.heap u d as ∧ sysModules ∉ as
def rReprZ (K : PySem.W.Frag) : List V → Hp → VK → Prop := fun xs H Q => ∃ a d, xs = [.ref a] ∧ Rdb K H (.ref a) d ∧ ShowsW d ∧ Q (.str d.shown) H
theorem call_reprZ {X : Cx} (hG : X.A.guards = some []) (hu : X.A.units + 64 < cLine) : CallR X (.builtin "repr") (rReprZ X.K) := by
  intro pins s σ H xs us Q I r h
  obtain ⟨a, d, rfl, hd, ⟨h1, h3, h4⟩, q⟩ := h
  cases r with
  | cons rx rn =>
    cases rn
    cases rx
    obtain ⟨as, hr, hn⟩ := hd X pins σ s _ rfl I rfl
    refine repr_of_reads' hr h1 (fun _ => hn) hG (by omega) (fun _ _ e => e) (fun h' u tk hk => ?_) h4
    exact ⟨.str d.shown, H, I.kept hk, ⟨_, rfl⟩, q⟩
def rReprA (K : PySem.W.Frag) : List V → Hp → VK → Prop := fun xs H Q => rReprX K xs H Q ∨ rReprZ K xs H Q
theorem call_reprA {X : Cx} (hG : X.A.guards = some []) (hu : X.A.units + 64 < cLine) : CallR X (.builtin "repr") (rReprA X.K) := fun pins s σ H xs us Q I r h =>
  h.elim (fun h => call_reprX hG hu pins s σ H xs us Q I r h) fun h => call_reprZ hG hu pins s σ H xs us Q I r h
mutual
/-- no list within; a dict is empty, or {(): 1} -/
def nlZ : PyData → Bool
  | .list _ => false
  | .tuple ds => nlZs ds
  | .dict [] => true
  | .dict [(.tuple [], .int 1)] => true
  | .dict _ => false
  | _ => true
def nlZs : List PyData → Bool
  | [] => true
  | d :: ds => nlZ d && nlZs ds
end
section
variable {K : PySem.W.Frag} {M H : Hp}
mutual
theorem du_rdb (k : Same M H) : ∀ (d : PyData) (v : V), nlZ d = true → Du K M v d → Rdb K H v d
  | .none, _, _, h => by
    cases h
    intro X pins σ s u eK I r
    cases r
    exact ⟨_, .none, List.not_mem_nil⟩
  | .bool b, _, _, h => by
    cases h
    intro X pins σ s u eK I r
    cases r
    exact ⟨_, .bool b, List.not_mem_nil⟩
  | .int i, _, _, h => by
    cases h
    intro X pins σ s u eK I r
    obtain ⟨t, rfl⟩ := r
    exact ⟨_, .int i t, List.not_mem_nil⟩
  | .str x, _, _, h => by
    cases h
    intro X pins σ s u eK I r
    obtain ⟨t, rfl⟩ := r
    exact ⟨_, .str x t, List.not_mem_nil⟩
  | .list ds, _, n, h => by simp [nlZ] at n
  | .tuple ds, _, n, h => by
    cases h with
    | tup hs ha _ =>
      have ih := duA_rdb k ds _ (by simpa [nlZ] using n) ha
      intro X pins σ s u eK I r
      subst eK
      cases r
      obtain ⟨its, rv, ⟨o, ho, hc, n2, hd⟩, _⟩ := I.tuple (TupK.same k _ _ _ hs)
      obtain ⟨as, hr, hn⟩ := ih X pins σ s its rfl I rv
      exact ⟨_, .tuple ho hc hd hr, hn⟩
  | .dict ds, _, n, h => by
    cases h with
    | dk hs nd ha =>
      intro X pins σ s u eK I r
      subst eK
      cases r
      have e0 : ds = [] := by
        cases ha with
        | nil => rfl
        | @cons k1 v1 kvs kd d1 ds1 ek _ t =>
          exfalso
          cases k1 <;> (simp only at ek; subst ek; cases ds1 <;> simp [nlZ] at n)
      subst e0
      cases ha
      obtain ⟨_, ya, vs, rv, o, es, ep, ho, hc, hd, _, hp, _⟩ := dk_of I.hok (k _ _ hs)
      cases rv
      cases hes : es.toList with
      | nil =>
        refine ⟨_, .dict ho hc.1 hd (as := []) (bs := []) (by rw [hes]; exact .nil) (by rw [hes]; exact .nil), fun z => ?_⟩
        rcases List.mem_cons.mp z with e | z
        · exact beq_eq_false_iff_ne.mp ya e.symm
        · cases z
      | cons x l =>
        rw [hes] at hp
        cases hp
    | dt e hs =>
      subst e
      intro X pins σ s u eK I r
      subst eK
      cases r
      obtain ⟨_, ya, xs, rel, o, es, ep, ho, hc, hd, hes, his, _⟩ := dt_of I.hok (k _ _ hs)
      cases rel with
      | @cons p q ps qs hq t =>
        cases t
        obtain ⟨k1, a1, u1⟩ := q
        obtain ⟨e1, e2, e3⟩ := hq
        have e1 : [] = k1 := e1
        subst e1
        obtain ⟨t1, rfl⟩ := e3
        obtain ⟨z1, its, r1, o1, h1, h2, n1, h3⟩ := (show ObjOk X.prog X.w H s.heap a1 (.tup []) from I.hok a1 _ e2)
        cases r1
        have q1 : Reads s.heap (.ref a1) (.tuple []) [] := .tuple h1 h2 h3 .nil
        refine ⟨_, .dict ho hc.1 hd (as := [] ++ []) (bs := [] ++ []) ?_ ?_, fun z => ?_⟩
        · rw [hes]
          exact .cons q1 .nil
        · rw [hes]
          exact .cons (.int 1 t1) .nil
        · rcases List.mem_cons.mp z with e | z
          · exact beq_eq_false_iff_ne.mp ya e.symm
          · cases z
theorem duA_rdb (k : Same M H) : ∀ (ds : List PyData) (vs : List V), nlZs ds = true → DuAll K M vs ds → ∀ (X : Cx) (pins : List (Addr × Obj)) (σ : L2.St) (s : Shared) (us : List Value), X.K = K → Inv X pins σ H s → Vals vs us → ∃ as, ReadsAll s.heap us ds as ∧ sysModules ∉ as
  | [], _, _, h => by
    cases h
    intro X pins σ s us eK I r
    cases r
    exact ⟨_, .nil, List.not_mem_nil⟩
  | d :: ds, _, n, h => by
    cases h with
    | cons h1 h2 =>
      simp only [nlZs, Bool.and_eq_true] at n
      intro X pins σ s us eK I r
      cases r with
      | cons r1 r2 =>
        obtain ⟨as, q1, n1⟩ := du_rdb k d _ n.1 h1 X pins σ s _ eK I r1
        obtain ⟨bs, q2, n2⟩ := duA_rdb k ds _ n.2 h2 X pins σ s _ eK I r2
        refine ⟨_, .cons q1 q2, fun z => ?_⟩
        rcases List.mem_append.mp z with z | z
        · exact n1 z
        · exact n2 z
end
def refD : PyData → Bool
  | .tuple _ => true
  | .dict _ => true
  | _ => false
/-- what repr can tell -/
def RepOk (a : PyData) : Prop := ((Shows a ∧ itemsD a ≠ none) ∨ (ShowsW a ∧ (flatD a = true ∨ a = .dict []))) ∨ (ShowsW a ∧ nlZ a = true ∧ refD a = true)
theorem rq_reprA : RCb K (rReprA K) (fun ds P => as1 ds fun a => RepOk a ∧ P (.str a.shown)) := by
  intro bg M H xs ds P Q k hx h q
  obtain ⟨a, rfl, h, p⟩ := as1_of h
  rcases h with h | ⟨h1, h2, h3⟩
  · exact .inl (rq_reprX bg M H xs [a] P Q k hx ⟨h, p⟩ q)
  · refine .inr ?_
    cases hx with
    | @cons v vs _ _ h t =>
      cases t
      have hd : Du K M v a := by
        rcases h with h | ⟨_, _, _, _, e, _⟩
        · exact h
        · subst e
          cases h3
      obtain ⟨p1, e1⟩ : ∃ p, v = V.ref p := by
        cases hd <;> first | (cases h3; done) | exact ⟨_, rfl⟩
      subst e1
      exact ⟨p1, a, rfl, du_rdb k _ _ h2 hd, h1, q _ _ M H p (.refl k) (.str _)⟩
/-! ### == () -/
def nilT : PyData → Bool
  | .tuple [] => true
  | _ => false
theorem eqv_nilT (a : PyData) : a.eqv (.tuple []) = nilT a := by
  cases a with
  | tuple ds => cases ds <;> simp [PyData.eqv, PyData.eqvAll, nilT]
  | _ => simp [PyData.eqv, nilT]
def rEqX (K : PySem.W.Frag) : R2 := fun x y H Q => rEqD K x y H Q ∨ rEqE K x y H Q
theorem op_eqX {X : Cx} (hu : X.A.units + 64 < cLine) : OpR X (compareOp .Eq) (rEqX X.K) := fun pins s σ H x y v u Q I rx ry h =>
  h.elim (fun h => op_eqD hu pins s σ H x y v u Q I rx ry h) fun h => op_eqE hu pins s σ H x y v u Q I rx ry h
def isDic : PyData → Bool
  | .dict _ => true
  | _ => false
theorem rp_eqX : ROp K (rEqX K) (fun a b P => b = .tuple [] ∧ (a.hasDict = false ∧ SeqAt.shaped a = true ∨ isTup a = true ∨ isDic a = true) ∧ P (.bool (nilT a))) := by
  rintro bg M H x y a b P Q k hx hy ⟨rfl, h, p⟩ q
  rcases h with ⟨na, sa⟩ | h | h
  · refine .inl ⟨a, _, hx.dp k na, hy.dp k rfl, sa, rfl, ?_⟩
    rw [eqv_nilT]
    exact q _ _ M H p (.refl k) (.bl _)
  · obtain ⟨t, vs, rfl, hs, ha⟩ := hy.tuple k
    cases ha
    cases a <;> first | (cases h; done) | skip
    rename_i ds
    obtain ⟨t1, vs1, rfl, hs1, ha1⟩ := hx.tuple k
    refine .inr ⟨t1, t, rfl, rfl, hs, .inl ⟨vs1, hs1, ?_⟩⟩
    have e : vs1.isEmpty = nilT (.tuple ds) := by
      cases ha1 <;> rfl
    rw [e]
    exact q _ _ M H p (.refl k) (.bl _)
  · obtain ⟨t, vs, rfl, hs, ha⟩ := hy.tuple k
    cases ha
    cases a <;> first | (cases h; done) | skip
    rename_i dds
    have hd : Du K M x (.dict dds) := by
      rcases hx with h | ⟨_, _, _, _, e, _⟩
      · exact h
      · cases e
    cases hd with
    | dk h1 _ _ => exact .inr ⟨_, t, rfl, rfl, hs, .inr ⟨.inl ⟨_, k _ _ h1⟩, q _ _ M H p (.refl k) (.bl _)⟩⟩
    | dt _ h1 => exact .inr ⟨_, t, rfl, rfl, hs, .inr ⟨.inr ⟨_, k _ _ h1⟩, q _ _ M H p (.refl k) (.bl _)⟩⟩
/-! ### in, of data -/
def rInX (K : PySem.W.Frag) : R2 := fun x y H Q => rInD K x y H Q ∨ rInT K x y H Q
theorem op_inX {X : Cx} (hu : X.A.units + 65 < cLine) : OpR X (compareOp .In) (rInX X.K) := fun pins s σ H x y v u Q I rx ry h =>
  h.elim (fun h => op_inD hu pins s σ H x y v u Q I rx ry h) fun h => op_inTD hu pins s σ H x y v u Q I rx ry h
theorem rp_inX : ROp K (rInX K) (fun a b P => asQ b fun ds => a.hasDict = false ∧ b.hasDict = false ∧ SeqAt.shaped a = true ∧ SeqAt.shaped b = true ∧ P (.bool (ds.any fun z => z.eqv a))) := by
  intro bg M H x y a b P Q k hx hy h q
  obtain ⟨ds, e, na, nb, sa, sb, p⟩ := asQ_of h
  cases b <;> first | (cases e; done) | skip
  · cases e
    exact .inl ⟨a, ds, hx.dp k na, hy.dp k nb, sa, sb, q _ _ M H p (.refl k) (.bl _)⟩
  · cases e
    exact .inr ⟨a, ds, hx.dp k na, hy.dp k nb, sa, sb, q _ _ M H p (.refl k) (.bl _)⟩
/-! ### any, str, list * int, t[::-1] -/
theorem rq_any : RCb K (rAny K) (fun ds P => as1 ds fun a => asL a fun es => ∃ bs : List Bool, es = bs.map .bool ∧ P (.bool (bs.any id))) := by
  intro bg M H xs ds P Q k hx h q
  obtain ⟨a, rfl, h⟩ := as1_of h
  obtain ⟨es, rfl, bs, rfl, p⟩ := asL_of h
  cases hx with
  | cons h t =>
    cases t
    obtain ⟨t, vs, rfl, hs, ha⟩ := h.list k
    rw [bls_vals ha] at hs
    exact ⟨t, bs, rfl, SqL.of hs, q _ _ M H p (.refl k) (.bl _)⟩
def rStrI : List V → Hp → VK → Prop := fun xs H Q => ∃ i : Int, xs = [.int i] ∧ i.natAbs.log2 < 1920 ∧ Q (.str (toString i)) H
theorem call_strI {X : Cx} : CallR X (.type "str") rStrI := call_str_int
theorem rq_strI : RCb K rStrI (fun ds P => as1 ds fun a => asI a fun i => i.natAbs < 10 ^ 12 ∧ P (.str (toString i))) := by
  intro bg M H xs ds P Q k hx h q
  obtain ⟨a, rfl, h⟩ := as1_of h
  obtain ⟨i, rfl, hi, p⟩ := asI_of h
  cases hx with
  | cons h t =>
    cases t
    cases h.int
    refine ⟨i, rfl, ?_, q _ _ M H p (.refl k) (.str _)⟩
    by_cases z : i.natAbs = 0
    · rw [z]; decide
    · have : i.natAbs.log2 < 40 := (Nat.log2_lt z).mpr (Nat.lt_trans hi (by decide))
      omega
theorem duA_rep {M : Hp} {vs : List V} {ds : List PyData} (h : DuAll K M vs ds) : ∀ n : Nat, DuAll K M (List.replicate n vs).flatten (List.replicate n ds).flatten
  | 0 => .nil
  | n + 1 => by
    rw [List.replicate_succ, List.replicate_succ, List.flatten_cons, List.flatten_cons]
    exact h.append (duA_rep h n)
theorem rp_rep : ROp K rRep (fun a b P => asL a fun ds => asI b fun k => 0 ≤ k ∧ k ≤ 1000 ∧ ds.length ≤ 10 ∧ P (.list (List.replicate k.toNat ds).flatten)) := by
  intro bg M H x y a b P Q k hx hy h q
  obtain ⟨ds, rfl, h⟩ := asL_of h
  obtain ⟨n, rfl, n0, n1, l, p⟩ := asI_of h
  obtain ⟨t, vs, rfl, hs, ha⟩ := hx.list k
  cases hy.int
  refine ⟨t, n, vs, rfl, rfl, hs, by omega, by omega, ?_, fun z nz => ?_⟩
  · rw [ha.length]
    have : ds.length * n.toNat ≤ 10 * 1000 := Nat.mul_le_mul l (by omega)
    exact Nat.le_trans this (by decide)
  · have s := Stp.new (bg := bg) k nz (.lst (List.replicate n.toNat vs).flatten)
    exact q _ _ _ _ p s (.lst upd_same (duA_same s.sm _ _ (duA_rep ha _)))
theorem duA_rev {M : Hp} : ∀ {ds : List PyData} {vs : List V}, DuAll K M vs ds → DuAll K M vs.reverse ds.reverse
  | [], _, h => by cases h; exact .nil
  | d :: ds, _, h => by
    cases h with
    | cons a b =>
      rw [List.reverse_cons, List.reverse_cons]
      exact (duA_rev b).append (.cons a .nil)
section
variable {te ta tb tc : TE} {we wa wb wc : W}
theorem re_revT (h : RE K te we) : RE K (tRevT K te) (fun ρ P => we ρ fun d => asT d fun ds => P (.tuple ds.reverse)) := by
  intro C M H σ ρ P Q e hw q
  refine h C M H σ ρ _ _ e hw fun v d M1 H1 p1 s1 d1 => ?_
  obtain ⟨ds, rfl, p⟩ := asT_of p1
  cases d1 with
  | @tup t vs _ hs ha _ =>
    refine ⟨t, vs, rfl, TupK.same s1.vis _ _ _ hs, fun z ob nz hd => ?_⟩
    have s := Stp.new (bg := C.bg) s1.vis nz (.frz ob (.tup vs.reverse))
    exact q _ _ _ _ p (s1.trans s) (.tup (sqF upd_same) (duA_same s.sm _ _ (duA_rev ha)) fun _ => ⟨ob, _, upd_same, hd⟩)
/-- a < b < c -/
theorem re_chain {r r' : R2} {g g' : PyData → PyData → (PyData → Prop) → Prop} (ho : ROp K r g) (ho' : ROp K r' g') (ha : RE K ta wa) (hb : RE K tb wb) (hc : RE K tc wc) :
    RE K (tChain r r' ta tb tc) (fun ρ P => wa ρ fun a => wb ρ fun b => g a b fun z => asB z fun k => if k = true then wc ρ fun c => g' b c P else P (.bool false)) := by
  intro C M H σ ρ P Q e hw q
  refine ha C M H σ ρ _ _ e hw fun v a M1 H1 p1 s1 d1 => ?_
  refine hb C M1 H1 σ ρ _ _ (e.step s1) p1 fun u b M2 H2 p2 s2 d2 => ?_
  refine ho C.bg M2 H2 v u a b _ _ s2.vis (.inl (du_same s2.sm _ _ d1)) (.inl d2) p2 fun z d M3 H3 p3 s3 d3 => ?_
  obtain ⟨k, rfl, p3⟩ := asB_of p3
  cases d3
  refine ⟨k, rfl, ?_⟩
  cases k with
  | false =>
    have p3 : P (.bool false) := p3
    show Q (.bl false) H3
    exact q _ _ _ _ p3 ((s1.trans s2).trans s3) (.bl _)
  | true =>
    have p3 : wc ρ fun c => g' b c P := p3
    show tc σ H3 fun w' H4 => r' u w' H4 Q
    refine hc C M3 H3 σ ρ _ _ (((e.step s1).step s2).step s3) p3 fun w c M4 H4 p4 s4 d4 => ?_
    exact ho' C.bg M4 H4 u w b c P Q s4.vis (.inl (du_same s4.sm _ _ (du_same s3.sm _ _ d2))) (.inl d4) p4 fun z d M5 H5 p5 s5 d5 => q z d M5 H5 p5 ((((s1.trans s2).trans s3).trans s4).trans s5) d5
/-! ### sorted(set(..)): whole numbers; rows -/
theorem re_sortSetI {w : World} (h : RB K te we) : RE K (tCB (rSortedSet w) (tCons (tCB (rSetInts K w) (tCons te tNil)) tNil))
    (fun ρ P => we ρ fun a => asL a fun es => ∃ ns : List Int, es = ns.map .int ∧ ns.length < 64 ∧ ∀ ms : List Int, ms.Pairwise (· < ·) → (∀ r, r ∈ ms ↔ r ∈ ns) → P (.list (ms.map .int))) := by
  intro C M H σ ρ P Q e hw q
  refine h C M H σ ρ _ _ e hw fun v d M1 H1 p1 s1 d1 => ?_
  obtain ⟨es, rfl, ns, rfl, l64, p1⟩ := asL_of p1
  obtain ⟨l, vs, rfl, hl, ha⟩ := d1.list s1.vis
  rw [ints_vals ha] at hl
  refine ⟨l, ns, rfl, SqL.of hl, by omega, fun a c na hc => ?_⟩
  have s2 := Stp.hidden (bg := C.bg) s1.vis na (SetO w a (fun j => decide (j ∈ ns)) c)
  refine ⟨a, _, c, rfl, upd_same, by omega, fun ms z pw hm _ nz => ?_⟩
  have s3 := Stp.new (bg := C.bg) s2.vis nz (.lst (ms.map V.int))
  refine q _ _ _ _ (p1 ms pw fun r => (hm r).trans ⟨fun h => of_decide_eq_true h, fun h => decide_eq_true h⟩) ((s1.trans s2).trans s3) (.lst upd_same ?_)
  have all : ∀ (M : Hp) (l : List Int), DuAll K M (l.map V.int) (l.map .int) := fun M l => by
    induction l with
    | nil => exact .nil
    | cons m l ih => exact .cons (.int _) ih
  exact all _ _
theorem re_sortSetE {P0 : Program} {w : World} (h : RB K te we) : RE K (tCB (rSortSetE K P0 w) (tCons (tCB (rSetOfT K P0 w) (tCons te tNil)) tNil))
    (fun ρ P => we ρ fun a => asL a fun es => ∃ rows : List (List Int), es = rows.map rowI ∧ rows.length < 64 ∧ ∀ rs : List (List Int), rs.Pairwise (· ≤ ·) → rs.Nodup → (∀ r, r ∈ rs ↔ r ∈ rows) → P (.list (rs.map rowI))) := by
  intro C M H σ ρ P Q e hw q
  refine h C M H σ ρ _ _ e hw fun v d M1 H1 p1 s1 d1 => ?_
  obtain ⟨es, rfl, rows, rfl, l64, p1⟩ := asL_of p1
  obtain ⟨l, vs, rfl, hl, ha⟩ := d1.list s1.vis
  have ex : ∀ (rows : List (List Int)) (vs : List V), DuAll K M1 vs (rows.map rowI) → ∃ ks : List (Addr × List Int), vs = ks.map (fun p => V.ref p.1) ∧ rows = ks.map (·.2) ∧ ∀ p ∈ ks, Du K M1 (.ref p.1) (rowI p.2) := by
    intro rows
    induction rows with
    | nil =>
      intro vs h
      cases h
      exact ⟨[], rfl, rfl, fun _ z => nomatch z⟩
    | cons r rows ih =>
      intro vs h
      cases h with
      | cons a b =>
        obtain ⟨ks, rfl, e2, h⟩ := ih _ b
        obtain ⟨t, rfl, _⟩ := row_vals s1.vis a
        exact ⟨(t, r) :: ks, rfl, by rw [List.map_cons, ← e2], fun c hc => by
          rcases List.mem_cons.mp hc with rfl | hc
          · exact a
          · exact h c hc⟩
  obtain ⟨ks, rfl, rfl, hk⟩ := ex rows vs ha
  have sq : ∀ p ∈ ks, SqT K H1 p.1 (p.2.map V.int) := fun p hp => by
    obtain ⟨a, e, h⟩ := row_vals s1.vis (hk p hp)
    cases e
    exact h
  rw [List.length_map] at l64
  refine ⟨l, ks, rfl, SqL.of hl, sq, l64, fun a L na hL hK => ?_⟩
  have s2 := Stp.hidden (bg := C.bg) s1.vis na (SetTO P0 w a L)
  refine ⟨a, L, rfl, upd_same, fun p hp => TupK.new na _ _ _ _ (sq p (hL p hp)), fun z bs nz pm pw nd => ?_⟩
  have s3 := Stp.new (bg := C.bg) s2.vis nz (.lst (bs.map (·.1)))
  have mem : ∀ r, r ∈ bs.map (·.2) ↔ r ∈ ks.map (·.2) := fun r => by
    rw [(pm.map (·.2)).mem_iff, List.map_map]
    constructor
    · intro h
      obtain ⟨p, hp, e⟩ := List.mem_map.mp h
      exact List.mem_map.mpr ⟨p, hL p hp, e⟩
    · intro h
      obtain ⟨p, hp, e⟩ := List.mem_map.mp h
      have := hK p hp
      rw [e] at this
      obtain ⟨p2, hp2, e2⟩ := List.mem_map.mp this
      exact List.mem_map.mpr ⟨p2, hp2, e2⟩
  have nd2 : (bs.map (·.2)).Nodup := by
    rw [(pm.map (·.2)).nodup_iff, List.map_map]
    exact nd
  refine q _ _ _ _ (p1 (bs.map (·.2)) pw nd2 mem) ((s1.trans s2).trans s3) (.lst upd_same ?_)
  have : DuAll K M1 (bs.map (·.1)) ((bs.map (·.2)).map rowI) := by
    have hb : ∀ b ∈ bs, Du K M1 b.1 (rowI b.2) := fun b hb => by
      have := pm.mem_iff.mp hb
      obtain ⟨p, hp, e⟩ := List.mem_map.mp this
      rw [← e]
      exact hk p (hL p hp)
    clear pm pw nd nd2 mem s3 nz p1
    induction bs with
    | nil => exact .nil
    | cons b bs ih => exact .cons (hb b List.mem_cons_self) (ih fun c hc => hb c (List.mem_cons_of_mem _ hc))
  exact duA_same s3.sm _ _ this
end
end
end GL

namespace LW
open PySem PySem.Spec PyProof.Rows L2 GL
/-! things of any kind, their size -/
mutual
/-- no tuple within has more than twenty items -/
def LN : PyData → Bool
  | .tuple ds => decide (ds.length ≤ 20) && LNs ds
  | .str x => (PyData.str x).canLay0
  | _ => true
def LNs : List PyData → Bool
  | [] => true
  | d :: ds => LN d && LNs ds
end
structure E (w dp : Nat) (d : PyData) : Prop where
  sh : d.showable = true
  sm : d.leavesShort 60 = true
  dep : d.depth ≤ dp
  wt : d.weight ≤ w
  ln : LN d = true
def clA (d : PyData) : Prop := d.hasDict = false ∧ d.canLay0 = true
def clB (d : PyData) : Prop := nlZ d = true
def AV (w dp : Nat) (d : PyData) : Prop := E w dp d ∧ (clA d ∨ clB d)
theorem E.mono {w w' dp dp' : Nat} {d : PyData} (h : E w dp d) (a : w ≤ w') (b : dp ≤ dp') : E w' dp' d := ⟨h.sh, h.sm, Nat.le_trans h.dep b, Nat.le_trans h.wt a, h.ln⟩
theorem AV.mono {w w' dp dp' : Nat} {d : PyData} (h : AV w dp d) (a : w ≤ w') (b : dp ≤ dp') : AV w' dp' d := ⟨h.1.mono a b, h.2⟩
structure Es (w dp : Nat) (ds : List PyData) : Prop where
  sh : PyData.showableAll ds = true
  sm : PyData.leavesShortAll 60 ds = true
  dep : PyData.depthAll ds ≤ dp
  wt : PyData.weightAll ds ≤ ds.length * (w + 1)
  ln : LNs ds = true
theorem Es.of {w dp : Nat} : ∀ {ds : List PyData}, (∀ d ∈ ds, E w dp d) → Es w dp ds
  | [], _ => ⟨by simp [PyData.showableAll], by simp [PyData.leavesShortAll], by simp [PyData.depthAll], by simp [PyData.weightAll], by simp [LNs]⟩
  | d :: ds, h => by
    have a := h d List.mem_cons_self
    have b := Es.of (ds := ds) fun e he => h e (List.mem_cons_of_mem _ he)
    refine ⟨by simp [PyData.showableAll, a.sh, b.sh], by simp [PyData.leavesShortAll, a.sm, b.sm], ?_, ?_, by simp [LNs, a.ln, b.ln]⟩
    · simp only [PyData.depthAll]; exact Nat.max_le.mpr ⟨a.dep, b.dep⟩
    · have := a.wt; have := b.wt
      simp only [PyData.weightAll]
      rw [List.length_cons, Nat.succ_mul]
      omega
theorem clA_all : ∀ {ds : List PyData}, (∀ d ∈ ds, clA d) → PyData.hasDictAll ds = false ∧ PyData.canLayAll0 ds = true
  | [], _ => ⟨by simp [PyData.hasDictAll], by simp [PyData.canLayAll0]⟩
  | d :: ds, h => by
    obtain ⟨a, b⟩ := h d List.mem_cons_self
    obtain ⟨c, e⟩ := clA_all (ds := ds) fun e he => h e (List.mem_cons_of_mem _ he)
    exact ⟨by simp [PyData.hasDictAll, a, c], by simp [PyData.canLayAll0, b, e]⟩
theorem clB_all : ∀ {ds : List PyData}, (∀ d ∈ ds, clB d) → nlZs ds = true
  | [], _ => by simp [nlZs]
  | d :: ds, h => by
    have a : nlZ d = true := h d List.mem_cons_self
    have b := clB_all (ds := ds) fun e he => h e (List.mem_cons_of_mem _ he)
    simp [nlZs, a, b]
theorem av_tup {w dp n : Nat} {l : List PyData} (hl : l.length ≤ n) (hn : n ≤ 20) (h : ∀ e ∈ l, E w dp e) (c : (∀ e ∈ l, clA e) ∨ (∀ e ∈ l, clB e)) : AV (n * (w + 1)) (dp + 1) (.tuple l) := by
  have hs := Es.of h
  refine ⟨⟨by simp [PyData.showable, hs.sh], by simp [PyData.leavesShort, hs.sm], ?_, ?_, ?_⟩, ?_⟩
  · have := hs.dep
    simp only [PyData.depth]
    omega
  · simp only [PyData.weight]
    exact Nat.le_trans hs.wt (Nat.mul_le_mul_right _ hl)
  · have : l.length ≤ 20 := by omega
    simp [LN, this, hs.ln]
  · rcases c with c | c
    · obtain ⟨a, b⟩ := clA_all c
      exact .inl ⟨by simp [PyData.hasDict, a], by simp [PyData.canLay0, b]⟩
    · have := clB_all c
      exact .inr (show nlZ _ = true by simp [nlZ, this])
theorem av_list {w dp n : Nat} {l : List PyData} (hl : l.length ≤ n) (h : ∀ e ∈ l, E w dp e) (c : ∀ e ∈ l, clA e) : AV (n * (w + 1)) (dp + 1) (.list l) := by
  have hs := Es.of h
  refine ⟨⟨by simp [PyData.showable, hs.sh], by simp [PyData.leavesShort, hs.sm], ?_, ?_, by simp [LN]⟩, ?_⟩
  · have := hs.dep
    simp only [PyData.depth]
    omega
  · simp only [PyData.weight]
    exact Nat.le_trans hs.wt (Nat.mul_le_mul_right _ hl)
  · obtain ⟨a, b⟩ := clA_all c
    exact .inl ⟨by simp [PyData.hasDict, a], by simp [PyData.canLay0, b]⟩
def avB (d : PyData) : Bool := d.showable && (d.leavesShort 60 && (decide (d.depth ≤ 3) && (decide (d.weight ≤ 400) && (LN d && ((!d.hasDict && d.canLay0) || nlZ d)))))
theorem avB_of {d : PyData} (h : avB d = true) : AV 400 3 d := by
  unfold avB at h
  simp only [Bool.and_eq_true, decide_eq_true_eq, Bool.or_eq_true, Bool.not_eq_true'] at h
  obtain ⟨h1, h2, h3, h4, h5, h6⟩ := h
  exact ⟨⟨h1, h2, h3, h4, h5⟩, h6⟩
theorem AV.rep {w dp : Nat} {d : PyData} (h : AV w dp d) (hw : w ≤ 200000) (hd : dp ≤ 30) : RepOk d := by
  obtain ⟨e, c⟩ := h
  have le := PyData.shown_le 60 (by decide) d e.sm
  have lw := e.wt
  have ld := e.dep
  have l2 : d.shown.length ≤ sizeLine := by rw [sizeLine_eq]; omega
  have sw : ShowsW d := ⟨e.sh, by omega, l2⟩
  have A : clA d → RepOk d := fun c => by
    have so : Shows d := ⟨e.sh, c.1, by omega, l2⟩
    cases d with
    | list ds => exact .inl (.inl ⟨so, fun z => nomatch z⟩)
    | tuple ds => exact .inl (.inl ⟨so, fun z => nomatch z⟩)
    | dict ds => have := c.1; simp [PyData.hasDict] at this
    | _ => exact .inl (.inr ⟨sw, .inl rfl⟩)
  rcases c with c | c
  · exact A c
  · cases d with
    | list ds => exact absurd (show nlZ (.list ds) = true from c) (by simp [nlZ])
    | tuple ds => exact .inr ⟨sw, c, rfl⟩
    | dict ds => exact .inr ⟨sw, c, rfl⟩
    | _ => exact .inl (.inr ⟨sw, .inl rfl⟩)
theorem LNs_mem : ∀ {ds : List PyData}, LNs ds = true → ∀ d ∈ ds, LN d = true
  | _ :: _, h, d, hd => by
    rw [LNs, Bool.and_eq_true] at h
    rcases List.mem_cons.mp hd with rfl | hd
    · exact h.1
    · exact LNs_mem h.2 d hd
theorem LN_tup {ds : List PyData} (h : LN (.tuple ds) = true) : ds.length ≤ 20 ∧ ∀ d ∈ ds, LN d = true := by
  rw [LN, Bool.and_eq_true, decide_eq_true_eq] at h
  exact ⟨h.1, LNs_mem h.2⟩
theorem LN_len {d : PyData} (h : LN d = true) : ∀ es, d = .tuple es → es.length ≤ 1000 := fun es e => by
  subst e
  have := (LN_tup h).1
  omega
/-! looks as nests -/
def BI : Nat → PyData → Prop
  | 0, d => d = .none ∨ ∃ i : Int, d = .int i ∧ i.natAbs ≤ 20
  | k + 1, d => (d = .none ∨ ∃ i : Int, d = .int i ∧ i.natAbs ≤ 20) ∨ ∃ es, d = .tuple es ∧ es.length ≤ 7 ∧ ∀ e ∈ es, BI k e
def wBI : Nat → Nat
  | 0 => 5
  | k + 1 => 7 * (wBI k + 1)
theorem e_int {i : Int} (h : i.natAbs ≤ 20) : E 5 0 (.int i) ∧ clA (.int i) ∧ clB (.int i) := by
  have l2 : i.natAbs.log2 < 5 := by
    by_cases z : i.natAbs = 0
    · rw [z]; decide
    · exact (Nat.log2_lt z).mpr (by omega)
  refine ⟨⟨?_, ?_, by simp [PyData.depth], ?_, by simp [LN]⟩, ⟨by simp [PyData.hasDict], by simp [PyData.canLay0]⟩, show nlZ _ = true by simp [nlZ]⟩
  · simp only [PyData.showable, decide_eq_true_eq]
    omega
  · simp only [PyData.leavesShort, decide_eq_true_eq]
    exact Nat.le_trans (PyData.shown_int_le (by omega)) (by decide)
  · simp only [PyData.weight]
    split <;> omega
theorem e_none : E 5 0 .none ∧ clA .none ∧ clB .none := ⟨⟨by simp [PyData.showable], by simp [PyData.leavesShort], by simp [PyData.depth], by simp [PyData.weight], by simp [LN]⟩, ⟨by simp [PyData.hasDict], by simp [PyData.canLay0]⟩, show nlZ _ = true by simp [nlZ]⟩
theorem bi_e : ∀ (k : Nat) {d : PyData}, BI k d → E (wBI k) k d ∧ clA d ∧ clB d
  | 0, _, .inl e => by subst e; exact e_none
  | 0, _, .inr ⟨i, e, h⟩ => by subst e; exact e_int h
  | k + 1, _, .inl (.inl e) => by
    subst e
    obtain ⟨a, b⟩ := e_none
    exact ⟨a.mono (by show 5 ≤ 7 * (wBI k + 1); omega) (by omega), b⟩
  | k + 1, _, .inl (.inr ⟨i, e, h⟩) => by
    subst e
    obtain ⟨a, b⟩ := e_int h
    exact ⟨a.mono (by show 5 ≤ 7 * (wBI k + 1); omega) (by omega), b⟩
  | k + 1, _, .inr ⟨es, e, hl, h⟩ => by
    subst e
    have a := av_tup (n := 7) hl (by decide) (fun e he => (bi_e k (h e he)).1) (.inl fun e he => (bi_e k (h e he)).2.1)
    have c := clA_all fun e he => (bi_e k (h e he)).2.1
    have b := clB_all fun e he => (bi_e k (h e he)).2.2
    exact ⟨a.1, ⟨by simp [PyData.hasDict, c.1], by simp [PyData.canLay0, c.2]⟩, show nlZ _ = true by simp [nlZ, b]⟩
/-- items of a nest, one of them another thing -/
theorem av_ins {k w dp n : Nat} {l : List PyData} {o : PyData} (h : ∀ e ∈ l, BI k e ∨ e = o) (ho : AV w dp o) (hk : k ≤ dp) (hw : wBI k ≤ w) (hl : l.length ≤ n) (hn : n ≤ 20) : AV (n * (w + 1)) (dp + 1) (.tuple l) := by
  refine av_tup hl hn (fun e he => ?_) ?_
  · rcases h e he with h | rfl
    · exact (bi_e k h).1.mono hw hk
    · exact ho.1
  · rcases ho.2 with c | c
    · exact .inl fun e he => by
        rcases h e he with h | rfl
        · exact (bi_e k h).2.1
        · exact c
    · exact .inr fun e he => by
        rcases h e he with h | rfl
        · exact (bi_e k h).2.2
        · exact c
theorem av_bi {k n : Nat} {l : List PyData} (h : ∀ e ∈ l, BI k e) (hl : l.length ≤ n) (hn : n ≤ 20) : AV (n * (wBI k + 1)) (k + 1) (.tuple l) :=
  av_tup hl hn (fun e he => (bi_e k (h e he)).1) (.inl fun e he => (bi_e k (h e he)).2.1)
theorem avl_bi {k n : Nat} {l : List PyData} (h : ∀ e ∈ l, BI k e) (hl : l.length ≤ n) : AV (n * (wBI k + 1)) (k + 1) (.list l) :=
  av_list hl (fun e he => (bi_e k (h e he)).1) fun e he => (bi_e k (h e he)).2.1
/-- the weight of what comes of a nest -/
def wOut : Nat → Nat
  | 0 => 400
  | k + 1 => 9 * (wOut k + 1)
theorem wBI_out : ∀ k, wBI k ≤ wOut k
  | 0 => by decide
  | k + 1 => by
    have := wBI_out k
    show 7 * (wBI k + 1) ≤ 9 * (wOut k + 1)
    omega
/-! texts of whole numbers -/
theorem str_small : ∀ n : Nat, n ≤ 40 → avB (.str (toString ((n : Int) - 20))) = true := by decide +kernel
theorem str_av {i : Int} (h : i.natAbs ≤ 20) : AV 400 3 (.str (toString i)) := by
  have := str_small (i + 20).toNat (by omega)
  have e : (((i + 20).toNat : Int) - 20) = i := by omega
  rw [e] at this
  exact avB_of this
/-! what is there -/
def isStr : PyData → Bool
  | .str _ => true
  | _ => false
theorem kit_str : ∀ d : PyData, kitB (tyN d) "str" = some (isStr d)
  | .none => (by decide +kernel : kitB "NoneType" "str" = some false)
  | .bool _ => (by decide +kernel : kitB "bool" "str" = some false)
  | .int _ => (by decide +kernel : kitB "int" "str" = some false)
  | .str _ => (by decide +kernel : kitB "str" "str" = some true)
  | .list _ => (by decide +kernel : kitB "list" "str" = some false)
  | .tuple _ => (by decide +kernel : kitB "tuple" "str" = some false)
  | .dict _ => (by decide +kernel : kitB "dict" "str" = some false)
theorem eqvA_ints : ∀ (a b : List Int), PyData.eqvAll (a.map .int) (b.map .int) = (a == b)
  | [], [] => by simp [PyData.eqvAll]
  | [], b :: bs => by simp [PyData.eqvAll]
  | a :: as, [] => by simp [PyData.eqvAll]
  | a :: as, b :: bs => by
    rw [List.map_cons, List.map_cons, PyData.eqvAll, eqvA_ints as bs, PyData.eqv, List.cons_beq_cons]
theorem eqv_row (a b : List Int) : (rowI a).eqv (rowI b) = (a == b) := by
  unfold rowI
  rw [PyData.eqv]
  exact eqvA_ints a b
theorem any_row (p : List Int) (R : List (List Int)) : ((R.map rowI).any fun z => z.eqv (rowI p)) = decide (p ∈ R) := by
  induction R with
  | nil => rfl
  | cons r R ih =>
    rw [List.map_cons, List.any_cons, ih, eqv_row, Bool.eq_iff_iff]
    simp only [Bool.or_eq_true, beq_iff_eq, decide_eq_true_eq, List.mem_cons]
    exact ⟨fun h => h.elim (fun h => .inl h.symm) .inr, fun h => h.elim (fun h => .inl h.symm) .inr⟩
theorem shaped_row {r : List Int} : SeqAt.shaped (rowI r) = true := by
  have h1 : ∀ l : List Int, PyData.canLayAll0 (l.map .int) = true := fun l => by
    induction l with
    | nil => simp [PyData.canLayAll0]
    | cons a l ih => rw [List.map_cons, PyData.canLayAll0, ih]; simp [PyData.canLay0]
  have h2 := depth_rowI r
  unfold SeqAt.shaped
  rw [decide_eq_true (by omega), Bool.and_true]
  unfold rowI
  simp [PyData.canLay0, h1]
theorem lay_rows : ∀ R : List (List Int), PyData.canLayAll0 (R.map rowI) = true ∧ PyData.hasDictAll (R.map rowI) = false ∧ PyData.depthAll (R.map rowI) ≤ 2
  | [] => by simp [PyData.canLayAll0, PyData.hasDictAll, PyData.depthAll]
  | r :: R => by
    obtain ⟨a, b, c⟩ := lay_rows R
    have h := shaped_row (r := r)
    unfold SeqAt.shaped at h
    rw [Bool.and_eq_true] at h
    refine ⟨by rw [List.map_cons, PyData.canLayAll0, a, h.1]; rfl, by rw [List.map_cons, PyData.hasDictAll, b, hd_rowI]; rfl, ?_⟩
    rw [List.map_cons, PyData.depthAll]
    exact Nat.max_le.mpr ⟨depth_rowI r, c⟩
theorem shaped_rows (R : List (List Int)) : SeqAt.shaped (.tuple (R.map rowI)) = true ∧ SeqAt.shaped (.list (R.map rowI)) = true ∧ (PyData.tuple (R.map rowI)).hasDict = false ∧ (PyData.list (R.map rowI)).hasDict = false := by
  obtain ⟨a, b, c⟩ := lay_rows R
  refine ⟨?_, ?_, by simp [PyData.hasDict, b], by simp [PyData.hasDict, b]⟩
  · unfold SeqAt.shaped
    rw [decide_eq_true (by simp only [PyData.depth]; omega), Bool.and_true]
    simp [PyData.canLay0, a]
  · unfold SeqAt.shaped
    rw [decide_eq_true (by simp only [PyData.depth]; omega), Bool.and_true]
    simp [PyData.canLay0, a]
def rowV : PyData → List Int
  | .tuple es => es.map intV
  | _ => []
theorem rowV_row (r : List Int) : rowV (rowI r) = r := by
  show (r.map PyData.int).map intV = r
  rw [List.map_map]
  exact List.map_id'' (fun _ => rfl) r
def ledI (pl : List Nat) (t : Tb) : List (List Int) := (ledF pl t).map rowV
theorem led_I (pl : List Nat) (t : Tb) : ledF pl t = (ledI pl t).map rowI ∧ (ledI pl t).Perm (t.2.2.map (onF pl)) := by
  obtain ⟨m, em, pm, _⟩ := sortD_map rowI (t.2.2.map (onF pl))
  have e : ledF pl t = m.map rowI := em
  have e2 : ledI pl t = m := by
    unfold ledI
    rw [e, List.map_map]
    have : (rowV ∘ rowI) = id := funext rowV_row
    rw [this, List.map_id]
  rw [e2]
  exact ⟨e, pm⟩
/-- the rows of an atom, on its way -/
def RR (q : Qs) (ts : List Tb) (i : Nat) : List (List Int) := match q.as[i]? with
  | some a => match ts.find? fun t => t.1 == a.2.1 with
    | some t => ledI (plcF q a) t
    | none => []
  | none => []
theorem RR_of {q : Qs} {ts : List Tb} {i : Nat} {a : Atm} {t : Tb} (nd : (ts.map (·.1)).Nodup) (ha : q.as[i]? = some a) (ht : t ∈ ts) (e : t.1 = a.2.1) : RR q ts i = ledI (plcF q a) t := by
  have : ts.find? (fun t => t.1 == a.2.1) = some t := by
    induction ts with
    | nil => cases ht
    | cons u ts ih =>
      rw [List.map_cons, List.nodup_cons] at nd
      rw [List.find?_cons]
      rcases List.mem_cons.mp ht with rfl | h
      · rw [e, beq_self_eq_true]
      · have : (u.1 == a.2.1) = false := beq_eq_false_iff_ne.mpr fun z => nd.1 (by rw [z, ← e]; exact List.mem_map_of_mem h)
        rw [this]
        exact ih nd.2 h
  unfold RR
  rw [ha]
  simp only
  rw [this]
structure RwOk (R : List (List Int)) (m : Nat) : Prop where
  n : R.length ≤ 10
  l : ∀ r ∈ R, r.length = m
  b : ∀ r ∈ R, ∀ x ∈ r, x.natAbs ≤ 7
/-- tables of few rows, drawn -/
structure TsS (q : Qs) (ts : List Tb) : Prop where
  ok : TsOk q ts
  n : ∀ t ∈ ts, t.2.2.length ≤ 10
theorem RR_ok {q : Qs} (ok : QOk q) (ti : Tidy q) {ts : List Tb} (h : TsS q ts) {i : Nat} {a : Atm} (ha : q.as[i]? = some a) :
    (∃ t ∈ ts, t.1 = a.2.1 ∧ t.2.1 = a.2.2.length ∧ ledF (plcF q a) t = (RR q ts i).map rowI) ∧ RwOk (RR q ts i) a.2.2.length := by
  obtain ⟨t, h1, h2, h3⟩ := h.ok.fit a (List.mem_of_getElem? ha)
  obtain ⟨e1, e2⟩ := led_I (plcF q a) t
  rw [RR_of h.ok.nd ha h1 h2]
  refine ⟨⟨t, h1, h2, h3, e1⟩, by rw [e2.length_eq, List.length_map]; exact h.n t h1, fun r hr => ?_, fun r hr x hx => ?_⟩
  · obtain ⟨s, hs, rfl⟩ := List.mem_map.mp (e2.mem_iff.mp hr)
    rw [on_len, plc_len]
  · obtain ⟨s, hs, rfl⟩ := List.mem_map.mp (e2.mem_iff.mp hr)
    obtain ⟨k, hk, rfl⟩ := List.mem_map.mp hx
    cases e : s[k]? with
    | none => decide
    | some y =>
      have := ((h.ok.ok t h1).r s hs).2 y (List.mem_of_getElem? e)
      show y.natAbs ≤ 7
      omega
def isThr (R : List (List Int)) (p : List Int) : Bool := p.isEmpty || R.any fun r => r.take p.length == p
def behL (R : List (List Int)) (p : List Int) : List Int := (R.filter fun r => r.take p.length == p).map fun r => (r[p.length]?).getD 0
/-! looks -/
inductive Lk where
  | nt (i : Nat) (r : List Int)
  | hs (i : Nat) (p : List Int) (x : Option Int)
def Lk.ix : Lk → Nat
  | .nt i _ => i
  | .hs i _ _ => i
def lkD : Lk → PyData
  | .nt i r => .tuple [.int (i : Nat), rowI r]
  | .hs i p x => .tuple [.int (i : Nat), rowI p, oD x]
def LkOk (q : Qs) (ts : List Tb) : Lk → Prop
  | .nt i r => ∃ a, q.as[i]? = some a ∧ a.1 = notS ∧ r.length = a.2.2.length ∧ ∀ x ∈ r, x.natAbs ≤ 20
  | .hs i p x => ∃ a, q.as[i]? = some a ∧ a.1 ≠ notS ∧ p.length < a.2.2.length ∧ (∀ x ∈ p, x.natAbs ≤ 20) ∧ isThr (RR q ts i) p = true ∧ ∀ v, x = some v → v.natAbs ≤ 20
abbrev thereS : PyData := .str (Str.ofString "there")
abbrev awayS : PyData := .str (Str.ofString "away")
abbrev gapS : PyData := .str (Str.ofString "gap")
def GapR (vs : List Int) : Option Int → Option Int → Option Int → Prop
  | none, lo, hi => lo = none ∧ K2.IsLo vs hi
  | some v, lo, hi => K2.IsHi (vs.filter fun z => decide (z < v)) lo ∧ K2.IsLo (vs.filter fun z => decide (z > v)) hi
def ToldR (R : List (List Int)) : Lk → PyData → Prop
  | .nt _ r, d => d = .tuple [if r ∈ R then thereS else awayS]
  | .hs _ p x, d => (∃ v, x = some v ∧ v ∈ behL R p ∧ d = .tuple [thereS]) ∨ ((∀ v, x = some v → v ∉ behL R p) ∧ ∃ lo hi, GapR (behL R p) x lo hi ∧ d = .tuple [gapS, oD lo, oD hi])
theorem GapR.one {vs : List Int} {x lo hi lo' hi' : Option Int} (h : GapR vs x lo hi) (g : GapR vs x lo' hi') : lo = lo' ∧ hi = hi' := by
  cases x with
  | none => exact ⟨h.1.trans g.1.symm, h.2.one g.2 fun _ => Iff.rfl⟩
  | some v => exact ⟨h.1.one g.1 fun _ => Iff.rfl, h.2.one g.2 fun _ => Iff.rfl⟩
theorem ToldR.one {R : List (List Int)} {lk : Lk} {d e : PyData} (h : ToldR R lk d) (g : ToldR R lk e) : d = e := by
  cases lk with
  | nt i r => exact h.trans g.symm
  | hs i p x =>
    rcases h with ⟨v, rfl, hv, rfl⟩ | ⟨hn, lo, hi, hg, rfl⟩
    · rcases g with ⟨u, e1, _, rfl⟩ | ⟨gn, _⟩
      · rfl
      · exact absurd hv (gn v rfl)
    · rcases g with ⟨u, rfl, hu, _⟩ | ⟨gn, lo', hi', gg, rfl⟩
      · exact absurd hu (hn u rfl)
      · obtain ⟨rfl, rfl⟩ := hg.one gg
        rfl
/-- the box of a look -/
def boxD : Lk → PyData → PyData
  | .nt i r, .tuple [d] => if d.eqv thereS then .tuple [.str (Str.ofString "row"), .int (i : Nat), rowI r] else .none
  | .hs i p _, .tuple [_, lo, hi] => .tuple [gapS, .int (i : Nat), rowI p, lo, hi]
  | _, _ => .none
/-! whether any value is a look -/
def atmI (q : Qs) (i : Int) : Option Atm := if 0 ≤ i then q.as[i.toNat]? else none
def bndD (d : PyData) : Bool := isNone d || intD d
def prefD (d : PyData) : Bool := nilT d || rowD d
def lenT : PyData → Nat
  | .tuple es => es.length
  | _ => 0
def hasF2 (a : Atm) (b : PyData) (r : List PyData) : Bool := if (a.1 == notS) = true then (decide (r.length = 0) && (rowD b && decide (lenT b = a.2.2.length))) else (match r with
  | [c] => prefD b && (decide (lenT b < a.2.2.length) && bndD c)
  | _ => false)
def hasF (q : Qs) : PyData → Bool
  | .tuple (.int i :: b :: r) => match atmI q i with
    | some a => hasF2 a b r
    | none => false
  | _ => false
def thrD (R : List (List Int)) : PyData → Bool
  | .tuple es => isThr R (es.map intV)
  | _ => false
def lkB2 (q : Qs) (ts : List Tb) : PyData → Bool
  | .tuple [_, _] => true
  | .tuple (.int i :: b :: _) => thrD (RR q ts i.toNat) b
  | _ => false
def lkB (q : Qs) (ts : List Tb) (d : PyData) : Bool := hasF q d && lkB2 q ts d
/-! the promises -/
def fromD (d : PyData) (n : Int) : Bool := intD d && decide (intV d ≥ n)
def wFrom : List DV → (PyData → Prop) → Prop := fun ds P => ∃ (d : PyData) (n : Int), ds = [.im d, .im (.int n)] ∧ P (.bool (fromD d n))
def wBnd : List DV → (PyData → Prop) → Prop := fun ds P => ∃ d : PyData, ds = [.im d] ∧ P (.bool (bndD d))
def tupOf (d : PyData) (n : Nat) : Bool := match d with
  | .tuple es => decide (es.length = n)
  | _ => false
def wTupOf : List DV → (PyData → Prop) → Prop := fun ds P => ∃ (d : PyData) (n : Nat), ds = [.im d, .im (.int (n : Nat))] ∧ P (.bool (tupOf d n))
def wAtIx : List DV → (PyData → Prop) → Prop := fun ds P => ∃ (q : Qs) (d : PyData), ds = [.im (qD q), .im d] ∧ P (.bool (intD d && (atmI q (intV d)).isSome))
def wPref : List DV → (PyData → Prop) → Prop := fun ds P => ∃ d : PyData, ds = [.im d] ∧ ((d.hasDict = false ∧ SeqAt.shaped d = true) ∨ isTup d = true ∨ isDic d = true) ∧ LN d = true ∧ P (.bool (prefD d))
def wThereP : List DV → (PyData → Prop) → Prop := fun ds P => ∃ (R : List (List Int)) (p : List Int), ds = [.im (.tuple (R.map rowI)), .im (rowI p)] ∧ R.length ≤ 10 ∧ P (.bool (isThr R p))
def wNearP : List DV → (PyData → Prop) → Prop := fun ds P => ∃ (R : List (List Int)) (p : List Int) (x : Option Int) (m : Nat), ds = [.im (.tuple (R.map rowI)), .im (rowI p), .im (oD x)] ∧ RwOk R m ∧ p.length < m ∧
  ∀ lo hi, GapR (behL R p) x lo hi → P (.tuple [.bool (decide (∃ v, x = some v ∧ v ∈ behL R p)), oD lo, oD hi])
def wToldP : List DV → (PyData → Prop) → Prop := fun ds P => ∃ (q : Qs) (ts : List Tb) (lk : Lk), ds = [.im (qD q), .im (tsD ts), .im (lkD lk)] ∧ QOk q ∧ Tidy q ∧ TsS q ts ∧ LkOk q ts lk ∧ ∀ d, ToldR (RR q ts lk.ix) lk d → P d
def wBoxP : List DV → (PyData → Prop) → Prop := fun ds P => ∃ (R : List (List Int)) (lk : Lk) (d : PyData), ds = [.im (lkD lk), .im d] ∧ ToldR R lk d ∧ P (boxD lk d)
def wHasF : List DV → (PyData → Prop) → Prop := fun ds P => ∃ (q : Qs) (d : PyData), ds = [.im (qD q), .im d] ∧ QOk q ∧ (∃ w dp, dp ≤ 30 ∧ AV w dp d) ∧ P (.bool (hasF q d))
def wIsLook : List DV → (PyData → Prop) → Prop := fun ds P => ∃ (q : Qs) (ts : List Tb) (d : PyData), ds = [.im (qD q), .im (tsD ts), .im d] ∧ QOk q ∧ Tidy q ∧ TsS q ts ∧ (∃ w dp, dp ≤ 30 ∧ AV w dp d) ∧ P (.bool (lkB q ts d))
def wVb : List DV → (PyData → Prop) → Prop := fun ds P => ∃ (R : List (List Int)) (p : List Int) (m : Nat), ds = [.im (.list (R.map rowI)), .im (rowI p)] ∧ RwOk R m ∧ p.length < m ∧
  ∀ ms : List Int, ms.Pairwise (· < ·) → (∀ v, v ∈ ms ↔ v ∈ behL R p) → P (.list (ms.map .int))
def wGapL : List DV → (PyData → Prop) → Prop := fun ds P => ∃ (ms : List Int) (x : Option Int), ds = [.im (.list (ms.map .int)), .im (oD x)] ∧ ms.length ≤ 100 ∧ ms.Pairwise (· < ·) ∧ ∀ lo hi, GapR ms x lo hi → P (.tuple [oD lo, oD hi])
def wToldL : List DV → (PyData → Prop) → Prop := fun ds P => ∃ (q : Qs) (ts : List Tb) (lk : Lk), ds = [.im (qD q), .im (tsD ts), .im (lkD lk)] ∧ QOk q ∧ Tidy q ∧ TsS q ts ∧ LkOk q ts lk ∧ ∀ d, ToldR (RR q ts lk.ix) lk d → P d
def rowsD (q : Qs) (ts : List Tb) : PyData := .list ((List.range q.as.length).map fun i => .list ((RR q ts i).map rowI))
def wRowsOf : List DV → (PyData → Prop) → Prop := fun ds P => ∃ (q : Qs) (ts : List Tb), ds = [.im (qD q), .im (tsD ts)] ∧ QOk q ∧ Tidy q ∧ TsS q ts ∧ P (rowsD q ts)
def wPfx : List DV → (PyData → Prop) → Prop := fun ds P => ∃ (R : List (List Int)) (m : Nat), ds = [.im (.list (R.map rowI)), .im (.int (m : Nat))] ∧ RwOk R m ∧ 1 ≤ m ∧ m ≤ 6 ∧
  ∀ rs : List (List Int), (∀ p, p ∈ rs ↔ p.length < m ∧ isThr R p = true) → rs.length ≤ 61 → P (.list (rs.map rowI))
def wOdd : List DV → (PyData → Prop) → Prop := fun ds P => ds = [.bag] ∧ ∀ d, AV 400 3 d → P d
def wBent : Nat → List DV → (PyData → Prop) → Prop
  | 0 => fun ds _ => ds.length = 3 ∧ False
  | k + 1 => fun ds P => ∃ d : PyData, ds = [.bag, .im d, .im (.int ((k + 1 : Nat) : Int))] ∧ BI k d ∧ k ≤ 5 ∧ ∀ e, AV (wOut k) (3 + k) e → P e
def wDrawnL : List DV → (PyData → Prop) → Prop := fun ds P => ∃ (q : Qs) (ts : List Tb), ds = [.bag, .im (qD q), .im (rowsD q ts)] ∧ QOk q ∧ Tidy q ∧ q.as ≠ [] ∧ TsS q ts ∧ ∀ lk, LkOk q ts lk → P (lkD lk)
def wNearL : List DV → (PyData → Prop) → Prop := fun ds P => ∃ (q : Qs) (ts : List Tb), ds = [.bag, .im (qD q), .im (rowsD q ts)] ∧ QOk q ∧ Tidy q ∧ q.as ≠ [] ∧ TsS q ts ∧ ∀ d, AV (wOut 2) 10 d → P d
def wIsLookL : List DV → (PyData → Prop) → Prop := fun ds P => ∃ (q : Qs) (ts : List Tb) (d : PyData), ds = [.im (qD q), .im (rowsD q ts), .im d] ∧ QOk q ∧ Tidy q ∧ TsS q ts ∧ (∃ w dp, dp ≤ 30 ∧ AV w dp d) ∧ P (.bool (lkB q ts d))
def wShown : List DV → (PyData → Prop) → Prop := fun ds P => ∃ (q : Qs) (ts : List Tb), ds = [.im (qD q), .im (tsD ts)] ∧ QOk q ∧ TsOk q ts ∧ P (.str (PyData.list [qD q, tsD ts]).shown)
theorem lenis_from (ds : List DV) (P : PyData → Prop) (h : wFrom ds P) : ds.length = 2 := by obtain ⟨_, _, rfl, _⟩ := h; rfl
theorem lenis_bound (ds : List DV) (P : PyData → Prop) (h : wBnd ds P) : ds.length = 1 := by obtain ⟨_, rfl, _⟩ := h; rfl
theorem lenis_tuple_of (ds : List DV) (P : PyData → Prop) (h : wTupOf ds P) : ds.length = 2 := by obtain ⟨_, _, rfl, _⟩ := h; rfl
theorem lenis_atom_index (ds : List DV) (P : PyData → Prop) (h : wAtIx ds P) : ds.length = 2 := by obtain ⟨_, _, rfl, _⟩ := h; rfl
theorem lenis_prefix (ds : List DV) (P : PyData → Prop) (h : wPref ds P) : ds.length = 1 := by obtain ⟨_, rfl, _⟩ := h; rfl
theorem lenis_there (ds : List DV) (P : PyData → Prop) (h : wThereP ds P) : ds.length = 2 := by obtain ⟨_, _, rfl, _⟩ := h; rfl
theorem lennearest_by_all (ds : List DV) (P : PyData → Prop) (h : wNearP ds P) : ds.length = 3 := by obtain ⟨_, _, _, _, rfl, _⟩ := h; rfl
theorem lentold (ds : List DV) (P : PyData → Prop) (h : wToldP ds P) : ds.length = 3 := by obtain ⟨_, _, _, rfl, _⟩ := h; rfl
theorem lenbox_of (ds : List DV) (P : PyData → Prop) (h : wBoxP ds P) : ds.length = 2 := by obtain ⟨_, _, _, rfl, _⟩ := h; rfl
theorem len_has_form (ds : List DV) (P : PyData → Prop) (h : wHasF ds P) : ds.length = 2 := by obtain ⟨_, _, rfl, _⟩ := h; rfl
theorem lenis_look (ds : List DV) (P : PyData → Prop) (h : wIsLook ds P) : ds.length = 3 := by obtain ⟨_, _, _, rfl, _⟩ := h; rfl
theorem len_law_values_behind (ds : List DV) (P : PyData → Prop) (h : wVb ds P) : ds.length = 2 := by obtain ⟨_, _, _, rfl, _⟩ := h; rfl
theorem len_law_gap (ds : List DV) (P : PyData → Prop) (h : wGapL ds P) : ds.length = 2 := by obtain ⟨_, _, rfl, _⟩ := h; rfl
theorem len_law_told (ds : List DV) (P : PyData → Prop) (h : wToldL ds P) : ds.length = 3 := by obtain ⟨_, _, _, rfl, _⟩ := h; rfl
theorem len_law_rows_of (ds : List DV) (P : PyData → Prop) (h : wRowsOf ds P) : ds.length = 2 := by obtain ⟨_, _, rfl, _⟩ := h; rfl
theorem len_law_prefixes (ds : List DV) (P : PyData → Prop) (h : wPfx ds P) : ds.length = 2 := by obtain ⟨_, _, rfl, _⟩ := h; rfl
theorem len_law_odd (ds : List DV) (P : PyData → Prop) (h : wOdd ds P) : ds.length = 1 := by obtain ⟨rfl, _⟩ := h; rfl
theorem len_law_bent {n : Nat} (ds : List DV) (P : PyData → Prop) (h : wBent n ds P) : ds.length = 3 := by
  cases n with
  | zero => exact h.1
  | succ k => obtain ⟨_, rfl, _⟩ := h; rfl
theorem len_law_drawn_look (ds : List DV) (P : PyData → Prop) (h : wDrawnL ds P) : ds.length = 3 := by obtain ⟨_, _, rfl, _⟩ := h; rfl
theorem len_law_near_look (ds : List DV) (P : PyData → Prop) (h : wNearL ds P) : ds.length = 3 := by obtain ⟨_, _, rfl, _⟩ := h; rfl
theorem len_law_is_look (ds : List DV) (P : PyData → Prop) (h : wIsLookL ds P) : ds.length = 3 := by obtain ⟨_, _, _, rfl, _⟩ := h; rfl
theorem len_law_shown_case (ds : List DV) (P : PyData → Prop) (h : wShown ds P) : ds.length = 2 := by obtain ⟨_, _, rfl, _⟩ := h; rfl
end LW

namespace LW
open PySem PySem.Spec PyProof.Rows L2 GL
theorem intD_of {d : PyData} (h : intD d = true) : ∃ i, d = .int i := by
  cases d with
  | int i => exact ⟨i, rfl⟩
  | _ => exact absurd h (by simp [intD, GL.isInt, GL.isBool])
theorem eqvN (a b : Nat) : PyData.eqv (.int (a : Nat)) (.int (b : Nat)) = decide (a = b) := by
  rw [Bool.eq_iff_iff, decide_eq_true_eq]
  simp only [PyData.eqv, beq_iff_eq]
  omega
theorem atmI_some {q : Qs} {i : Int} {a : Atm} (h : atmI q i = some a) : ∃ n : Nat, i = n ∧ q.as[n]? = some a := by
  unfold atmI at h
  split at h
  · exact ⟨i.toNat, by omega, h⟩
  · cases h
theorem atmI_nat {q : Qs} {n : Nat} {a : Atm} (h : q.as[n]? = some a) : atmI q (n : Int) = some a := by
  unfold atmI
  rw [if_pos (by omega), Int.toNat_natCast, h]
theorem atmI_none {q : Qs} {i : Int} (h : atmI q i = none) : i < 0 ∨ (q.as.length : Int) ≤ i := by
  unfold atmI at h
  split at h
  · have := List.getElem?_eq_none_iff.mp h
    omega
  · omega
theorem hasF_no {q : Qs} {a : PyData} {l : List PyData} (h : intD a = false) : hasF q (.tuple (a :: l)) = false := by
  cases a with
  | int i => exact absurd h (by simp [intD, GL.isInt, GL.isBool])
  | _ => rfl
theorem hasF_out {q : Qs} {i : Int} {l : List PyData} (h : atmI q i = none) : hasF q (.tuple (.int i :: l)) = false := by
  cases l with
  | nil => rfl
  | cons b r =>
    show (match atmI q i with | some a => hasF2 a b r | none => false) = false
    rw [h]
theorem hasF_in {q : Qs} {i : Int} {a : Atm} {b : PyData} {r : List PyData} (h : atmI q i = some a) : hasF q (.tuple (.int i :: b :: r)) = hasF2 a b r := by
  show (match atmI q i with | some a => hasF2 a b r | none => false) = _
  rw [h]
theorem hasF2_not {a : Atm} {b : PyData} {r : List PyData} (h : (a.1 == notS) = true) : hasF2 a b r = (decide (r.length = 0) && (rowD b && decide (lenT b = a.2.2.length))) := by
  unfold hasF2
  rw [if_pos h]
theorem hasF2_has {a : Atm} {b : PyData} {r : List PyData} (h : (a.1 == notS) = false) : hasF2 a b r = (match r with
  | [c] => prefD b && (decide (lenT b < a.2.2.length) && bndD c)
  | _ => false) := by
  unfold hasF2
  rw [if_neg (by rw [h]; exact Bool.false_ne_true)]
  all_goals
    cases r with
    | nil => rfl
    | cons c t => cases t <;> rfl
theorem rowD_ints {b : PyData} (h : rowD b = true) : ∃ p : List Int, b = rowI p ∧ p ≠ [] := by
  cases b with
  | tuple es =>
    have h : (decide (1 ≤ es.length) && es.all intD) = true := h
    rw [Bool.and_eq_true] at h
    have e := ints_of h.2
    refine ⟨es.map intV, by show PyData.tuple es = .tuple _; rw [← e], fun z => ?_⟩
    have := of_decide_eq_true h.1
    have z := congrArg List.length z
    rw [List.length_map] at z
    simp at z
    rw [z] at this
    simp at this
  | _ => cases h
theorem prefD_ints {b : PyData} (h : prefD b = true) : ∃ p : List Int, b = rowI p := by
  unfold prefD at h
  rw [Bool.or_eq_true] at h
  rcases h with h | h
  · cases b with
    | tuple es =>
      cases es with
      | nil => exact ⟨[], rfl⟩
      | cons a l => cases h
    | _ => cases h
  · obtain ⟨p, e, _⟩ := rowD_ints h
    exact ⟨p, e⟩
theorem thrD_row (R : List (List Int)) (p : List Int) : thrD R (rowI p) = isThr R p := by
  show isThr R ((p.map PyData.int).map intV) = _
  rw [List.map_map]
  congr 1
  exact List.map_id'' (fun _ => rfl) p
theorem all_intD (p : List Int) : (p.map PyData.int).all intD = true := by
  rw [List.all_map, List.all_eq_true]
  exact fun _ _ => rfl
theorem prefD_row (p : List Int) : prefD (rowI p) = true := by
  cases p with
  | nil => rfl
  | cons a l =>
    show (false || (decide (1 ≤ ((a :: l).map PyData.int).length) && ((a :: l).map PyData.int).all intD)) = true
    rw [all_intD]
    simp
theorem rowD_row {p : List Int} (h : p ≠ []) : rowD (rowI p) = true := by
  show (decide (1 ≤ (p.map PyData.int).length) && (p.map PyData.int).all intD) = true
  rw [all_intD, List.length_map, Bool.and_true, decide_eq_true_eq]
  exact List.length_pos_iff.mpr h
theorem lenT_row (p : List Int) : lenT (rowI p) = p.length := List.length_map ..
/-- a drawn look is one -/
theorem lk_is {q : Qs} (ti : Tidy q) {ts : List Tb} {lk : Lk} (h : LkOk q ts lk) : lkB q ts (lkD lk) = true := by
  cases lk with
  | nt i r =>
    obtain ⟨a, ha, hw, hl, _⟩ := h
    have hh : hasF q (lkD (.nt i r)) = hasF2 a (rowI r) [] := hasF_in (atmI_nat ha)
    have hr : r ≠ [] := fun z => (ti.2 a (List.mem_of_getElem? ha)).2 (List.length_eq_zero_iff.mp (by rw [← hl, z]; rfl))
    unfold lkB
    rw [hh, hasF2_not (by rw [hw]; exact beq_self_eq_true _), rowD_row hr, lenT_row, hl, decide_eq_true (show a.2.2.length = a.2.2.length from rfl), decide_eq_true (show ([] : List PyData).length = 0 from rfl)]
    rfl
  | hs i p x =>
    obtain ⟨a, ha, hw, hl, _, ht, _⟩ := h
    have hh : hasF q (lkD (.hs i p x)) = hasF2 a (rowI p) [oD x] := hasF_in (atmI_nat ha)
    have hb : bndD (oD x) = true := by cases x <;> rfl
    have h2 : lkB2 q ts (lkD (.hs i p x)) = true := by
      show thrD (RR q ts ((i : Int)).toNat) (rowI p) = true
      rw [Int.toNat_natCast, thrD_row]
      exact ht
    unfold lkB
    rw [hh, hasF2_has (beq_eq_false_iff_ne.mpr hw)]
    show ((prefD (rowI p) && (decide (lenT (rowI p) < a.2.2.length) && bndD (oD x))) && lkB2 q ts (lkD (.hs i p x))) = true
    rw [h2, prefD_row, lenT_row, decide_eq_true hl, hb]
    rfl
theorem beh_len (R : List (List Int)) (p : List Int) : (behL R p).length ≤ R.length := by
  unfold behL
  rw [List.length_map]
  exact List.length_filter_le _ _
theorem beh_b {R : List (List Int)} {m : Nat} (h : RwOk R m) (p : List Int) : ∀ v ∈ behL R p, v.natAbs ≤ 7 := fun v hv => by
  obtain ⟨r, hr, rfl⟩ := List.mem_map.mp hv
  have hr := (List.mem_filter.mp hr).1
  cases e : r[p.length]? with
  | none => decide
  | some y => exact h.b r hr y (List.mem_of_getElem? e)
theorem hi_le {ns : List Int} {o : Option Int} (h : K2.IsHi ns o) {B : Nat} (hb : ∀ v ∈ ns, v.natAbs ≤ B) : ∀ v, o = some v → v.natAbs ≤ B := fun v e => by
  rcases h with ⟨_, rfl⟩ | ⟨m, rfl, hm, _⟩
  · cases e
  · cases e; exact hb _ hm
theorem lo_le {ns : List Int} {o : Option Int} (h : K2.IsLo ns o) {B : Nat} (hb : ∀ v ∈ ns, v.natAbs ≤ B) : ∀ v, o = some v → v.natAbs ≤ B := fun v e => by
  rcases h with ⟨_, rfl⟩ | ⟨m, rfl, hm, _⟩
  · cases e
  · cases e; exact hb _ hm
theorem gap_le {vs : List Int} {x lo hi : Option Int} (h : GapR vs x lo hi) (hb : ∀ v ∈ vs, v.natAbs ≤ 7) : SmO lo ∧ SmO hi := by
  cases x with
  | none =>
    obtain ⟨rfl, h2⟩ := h
    exact ⟨fun _ z => (nomatch z), fun v e => by have := lo_le h2 hb v e; omega⟩
  | some x =>
    obtain ⟨h1, h2⟩ := h
    exact ⟨fun v e => by have := hi_le h1 (B := 7) (fun u hu => hb u (List.mem_filter.mp hu).1) v e; omega, fun v e => by have := lo_le h2 (B := 7) (fun u hu => hb u (List.mem_filter.mp hu).1) v e; omega⟩
/-- gaps by values, each once, ascending -/
theorem gap_same {vs ms : List Int} (e : ∀ v, v ∈ ms ↔ v ∈ vs) {x lo hi : Option Int} (h : GapR ms x lo hi) : GapR vs x lo hi := by
  have hi_of : ∀ {ns ks : List Int} {o : Option Int}, K2.IsHi ns o → (∀ z, z ∈ ns ↔ z ∈ ks) → K2.IsHi ks o := fun h e => by
    rcases h with ⟨h, rfl⟩ | ⟨m, rfl, hm, hz⟩
    · subst h
      exact .inl ⟨List.eq_nil_iff_forall_not_mem.mpr fun z hz => (List.not_mem_nil ((e z).mpr hz)), rfl⟩
    · exact .inr ⟨m, rfl, (e m).mp hm, fun z w => hz z ((e z).mpr w)⟩
  have lo_of : ∀ {ns ks : List Int} {o : Option Int}, K2.IsLo ns o → (∀ z, z ∈ ns ↔ z ∈ ks) → K2.IsLo ks o := fun h e => by
    rcases h with ⟨h, rfl⟩ | ⟨m, rfl, hm, hz⟩
    · subst h
      exact .inl ⟨List.eq_nil_iff_forall_not_mem.mpr fun z hz => (List.not_mem_nil ((e z).mpr hz)), rfl⟩
    · exact .inr ⟨m, rfl, (e m).mp hm, fun z w => hz z ((e z).mpr w)⟩
  cases x with
  | none => exact ⟨h.1, lo_of h.2 e⟩
  | some x => exact ⟨hi_of h.1 fun z => by rw [List.mem_filter, List.mem_filter, e z], lo_of h.2 fun z => by rw [List.mem_filter, List.mem_filter, e z]⟩
theorem told_ok {q : Qs} {ts : List Tb} {lk : Lk} {R : List (List Int)} {m : Nat} (hR : RwOk R m) {d : PyData} (h : ToldR R lk d) : Ok 200 1 d := by
  have one : ∀ x : Str, SmS x → Ok 200 1 (.tuple [.str x]) := fun x hx => (Ok.tuple (hx.ok.cons' (OkAll.nil 0))).mono (by omega) (Nat.le_refl _)
  have t1 : SmS (Str.ofString "there") := smSB_of (by decide +kernel)
  have t2 : SmS (Str.ofString "away") := smSB_of (by decide +kernel)
  have t3 : SmS (Str.ofString "gap") := smSB_of (by decide +kernel)
  cases lk with
  | nt i r =>
    have h : d = _ := h
    subst h
    split
    · exact one _ t1
    · exact one _ t2
  | hs i p x =>
    rcases h with ⟨_, _, _, rfl⟩ | ⟨_, lo, hi, hg, rfl⟩
    · exact one _ t1
    · obtain ⟨h1, h2⟩ := gap_le hg (beh_b hR p)
      exact (Ok.tuple (t3.ok.cons' (h1.ok.cons' (h2.ok.cons' (OkAll.nil 0))))).mono (by omega) (Nat.le_refl _)
theorem lk_bi {q : Qs} (ok : QOk q) {ts : List Tb} {lk : Lk} (h : LkOk q ts lk) : ∃ es, lkD lk = .tuple es ∧ es.length ≤ 3 ∧ ∀ e ∈ es, BI 1 e := by
  have hi : ∀ {i : Nat} {a : Atm}, q.as[i]? = some a → BI 1 (.int (i : Nat)) := fun {i a} ha => .inl (.inr ⟨_, rfl, by
    have := (List.getElem?_eq_some_iff.mp ha).1
    have := ok.al
    omega⟩)
  have hr : ∀ {r : List Int}, r.length ≤ 6 → (∀ x ∈ r, x.natAbs ≤ 20) → BI 1 (rowI r) := fun {r} hl hb => .inr ⟨_, rfl, by rw [List.length_map]; omega, fun e he => by
    obtain ⟨x, hx, rfl⟩ := List.mem_map.mp he
    exact .inr ⟨x, rfl, hb x hx⟩⟩
  cases lk with
  | nt i r =>
    obtain ⟨a, ha, hw, hl, hb⟩ := h
    have := (ok.ab a (List.mem_of_getElem? ha)).n
    refine ⟨_, rfl, by show 2 ≤ 3; decide, fun e he => ?_⟩
    simp only [List.mem_cons, List.not_mem_nil, or_false] at he
    rcases he with rfl | rfl
    · exact hi ha
    · exact hr (by omega) hb
  | hs i p x =>
    obtain ⟨a, ha, hw, hl, hb, _, hx⟩ := h
    have := (ok.ab a (List.mem_of_getElem? ha)).n
    refine ⟨_, rfl, by show 3 ≤ 3; decide, fun e he => ?_⟩
    simp only [List.mem_cons, List.not_mem_nil, or_false] at he
    rcases he with rfl | rfl | rfl
    · exact hi ha
    · exact hr (by omega) hb
    · cases x with
      | none => exact .inl (.inl rfl)
      | some v => exact .inl (.inr ⟨v, rfl, hx v rfl⟩)
end LW

namespace LW
open PySem PySem.Spec PyProof.Rows L2 GL
theorem iteF {A B : Prop} (h : B) : if false = true then A else B := h
theorem cutD_from (ds : List PyData) (k : Nat) : cutD ds (some (k : Int)) none = ds.drop k := by
  have := cut_from id ds k
  rw [List.map_id, List.map_id] at this
  exact this
theorem cutD_to (ds : List PyData) (k : Nat) : cutD ds none (some (k : Int)) = ds.take k := by
  have := cut_to id ds k
  rw [List.map_id, List.map_id] at this
  exact this
theorem cutD_one (ds : List PyData) (k : Nat) : ∃ m, cutD ds (some (k : Int)) (some ((k : Int) + 1)) = m ∧ (∀ d ∈ m, d ∈ ds) ∧ m.length ≤ 1 := by
  obtain ⟨m, e, sl, h⟩ := cut_map id ds (some (k : Int)) (some ((k + 1 : Nat) : Int))
  rw [List.map_id, List.map_id] at e
  refine ⟨m, e, fun d hd => sl.subset hd, ?_⟩
  rw [h, HT.sIx_nat, HT.sIx_nat, List.length_take]
  omega
theorem inD_none (ns : List Int) : inD .none (ns.map .int) = false := by
  unfold inD
  rw [List.any_map, List.any_eq_false]
  intro n _
  simp [PyData.eqv]
theorem inD23 (n : Nat) : inD (.int (n : Nat)) [.int 2, .int 3] = (decide (n = 2) || decide (n = 3)) := by
  unfold inD
  simp only [List.any_cons, List.any_nil, Bool.or_false]
  rw [show PyData.int 2 = .int ((2 : Nat) : Int) from rfl, show PyData.int 3 = .int ((3 : Nat) : Int) from rfl, eqvN, eqvN]
  rw [Bool.eq_iff_iff]
  simp only [Bool.or_eq_true, decide_eq_true_eq]
  omega
theorem last_hi {l : List Int} (pw : l.Pairwise (· < ·)) : (l = [] ∧ K2.IsHi l none) ∨ (l ≠ [] ∧ ∃ m, atI (l.map PyData.int) (-1) = some (.int m) ∧ K2.IsHi l (some m)) := by
  cases e : l.getLast? with
  | none =>
    have := List.getLast?_eq_none_iff.mp e
    exact .inl ⟨this, .inl ⟨this, rfl⟩⟩
  | some m =>
    obtain ⟨k, rfl⟩ := List.getLast?_eq_some_iff.mp e
    refine .inr ⟨by simp, m, ?_, K2.hi_last pw⟩
    have lp : 1 ≤ (k ++ [m]).length := by simp
    rw [show (-1 : Int) = -((1 : Nat) : Int) from rfl, at_back (by decide) (by rw [List.length_map]; exact lp), List.length_map, List.getElem?_map]
    rw [List.getLast?_eq_getElem?] at e
    rw [e]
    rfl
theorem head_lo {l : List Int} (pw : l.Pairwise (· < ·)) : (l = [] ∧ K2.IsLo l none) ∨ (l ≠ [] ∧ ∃ m, atI (l.map PyData.int) 0 = some (.int m) ∧ K2.IsLo l (some m)) := by
  cases l with
  | nil => exact .inl ⟨rfl, .inl ⟨rfl, rfl⟩⟩
  | cons m l =>
    refine .inr ⟨by simp, m, at_head, .inr ⟨m, rfl, List.mem_cons_self, fun z hz => ?_⟩⟩
    rcases List.mem_cons.mp hz with rfl | hz
    · exact Int.le_refl _
    · exact Int.le_of_lt ((List.pairwise_cons.mp pw).1 z hz)
theorem isEmpty_ne {l : List Int} (h : l ≠ []) : l.isEmpty = false := by
  cases l with
  | nil => exact absurd rfl h
  | cons a l => rfl
/-- rows that are told -/
theorem pfx_mem {R : List (List Int)} {m : Nat} (ok : RwOk R m) (m1 : 1 ≤ m) (p : List Int) : p ∈ ([] :: R.flatMap fun r => (List.range m).map fun s => r.take s) ↔ p.length < m ∧ isThr R p = true := by
  unfold isThr
  rw [List.mem_cons, List.mem_flatMap, Bool.or_eq_true, List.any_eq_true, List.isEmpty_iff]
  constructor
  · rintro (rfl | ⟨r, hr, hp⟩)
    · exact ⟨by show 0 < m; omega, .inl rfl⟩
    · obtain ⟨s, hs, rfl⟩ := List.mem_map.mp hp
      have hs := List.mem_range.mp hs
      have hl := ok.l r hr
      have hl2 : (r.take s).length = s := by rw [List.length_take]; omega
      exact ⟨by omega, .inr ⟨r, hr, by rw [hl2]; exact beq_self_eq_true _⟩⟩
  · rintro ⟨hl, h | ⟨r, hr, h⟩⟩
    · exact .inl h
    · exact .inr ⟨r, hr, List.mem_map.mpr ⟨p.length, List.mem_range.mpr hl, LawfulBEq.eq_of_beq h⟩⟩
theorem flat_len {m : Nat} (R : List (List Int)) : (R.flatMap fun r => (List.range m).map fun s => r.take s).length = R.length * m := by
  induction R with
  | nil => simp
  | cons r R ih => rw [List.flatMap_cons, List.length_append, ih, List.length_map, List.length_range, List.length_cons, Nat.succ_mul]; omega
/-! what is no look -/
theorem lk_len {q : Qs} {ts : List Tb} {es : List PyData} (h2 : es.length ≠ 2) (h3 : es.length ≠ 3) : lkB q ts (.tuple es) = false := by
  have : hasF q (.tuple es) = false := by
    match es with
    | [] => rfl
    | [a] => cases a <;> rfl
    | [a, b] => exact absurd rfl h2
    | [a, b, c] => exact absurd rfl h3
    | a :: b :: c :: d :: r =>
      cases hi : intD a with
      | false => exact hasF_no hi
      | true =>
        obtain ⟨i, rfl⟩ := intD_of hi
        cases ha : atmI q i with
        | none => exact hasF_out ha
        | some a0 =>
          rw [hasF_in ha]
          cases hw : (a0.1 == notS) with
          | true => rw [hasF2_not hw]; rfl
          | false => rw [hasF2_has hw]
  unfold lkB
  rw [this, Bool.false_and]
theorem lk_no {q : Qs} {ts : List Tb} {a : PyData} {l : List PyData} (h : intD a = false) : lkB q ts (.tuple (a :: l)) = false := by
  unfold lkB
  rw [hasF_no h, Bool.false_and]
theorem lk_out {q : Qs} {ts : List Tb} {i : Int} {l : List PyData} (h : atmI q i = none) : lkB q ts (.tuple (.int i :: l)) = false := by
  unfold lkB
  rw [hasF_out h, Bool.false_and]
theorem lk_in {q : Qs} {ts : List Tb} {i : Int} {a : Atm} {b : PyData} {r : List PyData} (h : atmI q i = some a) : lkB q ts (.tuple (.int i :: b :: r)) = (hasF2 a b r && lkB2 q ts (.tuple (.int i :: b :: r))) := by
  unfold lkB
  rw [hasF_in h]
/-- where the second item is no row of whole numbers -/
theorem lk_bad {q : Qs} {ts : List Tb} {i : Int} {a : Atm} {b : PyData} {r : List PyData} (h : atmI q i = some a) (h1 : rowD b = false) (h2 : prefD b = false) : lkB q ts (.tuple (.int i :: b :: r)) = false := by
  rw [lk_in h]
  cases hw : (a.1 == notS) with
  | true => rw [hasF2_not hw, h1, Bool.false_and, Bool.and_false, Bool.false_and]
  | false =>
    rw [hasF2_has hw]
    match r with
    | [] => rfl
    | [c] =>
      show ((prefD b && _) && _) = false
      rw [h2, Bool.false_and, Bool.false_and]
    | _ :: _ :: _ => rfl
theorem bad_not {b : PyData} (h : isTup b = false) : rowD b = false ∧ prefD b = false := by
  cases b <;> first | exact ⟨rfl, rfl⟩ | cases h
theorem bad_all {bs : List PyData} (h : bs.all intD = false) : rowD (.tuple bs) = false ∧ prefD (.tuple bs) = false := by
  have h1 : rowD (.tuple bs) = false := by
    show (decide (1 ≤ bs.length) && bs.all intD) = false
    rw [h, Bool.and_false]
  refine ⟨h1, ?_⟩
  unfold prefD
  rw [h1, Bool.or_false]
  cases bs with
  | nil => exact absurd h (by decide)
  | cons _ _ => rfl
theorem lk_nt {q : Qs} (ti : Tidy q) {ts : List Tb} {n : Nat} {a : Atm} {p : List Int} {r : List PyData} (ha : q.as[n]? = some a) (hw : (a.1 == notS) = true) :
    lkB q ts (.tuple (.int (n : Nat) :: rowI p :: r)) = (decide (r.length = 0) && decide (p.length = a.2.2.length)) := by
  rw [lk_in (atmI_nat ha), hasF2_not hw, lenT_row]
  have ne := (ti.2 a (List.mem_of_getElem? ha)).2
  cases r with
  | cons c r => rfl
  | nil =>
    show ((true && (rowD (rowI p) && decide (p.length = a.2.2.length))) && true) = (true && decide (p.length = a.2.2.length))
    rw [Bool.true_and, Bool.and_true, Bool.true_and]
    by_cases z : p.length = a.2.2.length
    · have : p ≠ [] := fun w => ne (List.length_eq_zero_iff.mp (by rw [← z, w]; rfl))
      rw [rowD_row this, Bool.true_and]
    · rw [decide_eq_false z, Bool.and_false]
theorem lk_hs {q : Qs} {ts : List Tb} {n : Nat} {a : Atm} {p : List Int} {c : PyData} (ha : q.as[n]? = some a) (hw : (a.1 == notS) = false) :
    lkB q ts (.tuple [.int (n : Nat), rowI p, c]) = (bndD c && decide (p.length < a.2.2.length ∧ isThr (RR q ts n) p = true)) := by
  rw [lk_in (atmI_nat ha), hasF2_has hw]
  show ((prefD (rowI p) && (decide (lenT (rowI p) < a.2.2.length) && bndD c)) && thrD (RR q ts ((n : Nat) : Int).toNat) (rowI p)) = _
  rw [prefD_row, lenT_row, Int.toNat_natCast, thrD_row, Bool.true_and, Bool.eq_iff_iff]
  simp only [Bool.and_eq_true, decide_eq_true_eq]
  exact ⟨fun ⟨⟨h1, h2⟩, h3⟩ => ⟨h2, h1, h3⟩, fun ⟨h2, h1, h3⟩ => ⟨⟨h1, h2⟩, h3⟩⟩
theorem lk_hs2 {q : Qs} {ts : List Tb} {n : Nat} {a : Atm} {b : PyData} {r : List PyData} (ha : q.as[n]? = some a) (hw : (a.1 == notS) = false) (hr : r.length ≠ 1) : lkB q ts (.tuple (.int (n : Nat) :: b :: r)) = false := by
  rw [lk_in (atmI_nat ha), hasF2_has hw]
  match r with
  | [] => rfl
  | [c] => exact absurd rfl hr
  | _ :: _ :: _ => rfl
/-- the form of a look -/
theorem form_of {q : Qs} {d : PyData} (h : hasF q d = true) : ∃ (n : Nat) (a : Atm) (b : PyData) (r : List PyData), d = .tuple (.int (n : Nat) :: b :: r) ∧ q.as[n]? = some a ∧ ((r = [] ∧ (a.1 == notS) = true) ∨ ∃ (p : List Int) (c : PyData), b = rowI p ∧ r = [c]) := by
  match d, h with
  | .tuple (x :: b :: r), h =>
    cases hi : intD x with
    | false => rw [hasF_no hi] at h; cases h
    | true =>
      obtain ⟨i, rfl⟩ := intD_of hi
      cases ha : atmI q i with
      | none => rw [hasF_out ha] at h; cases h
      | some a =>
        rw [hasF_in ha] at h
        obtain ⟨n, rfl, hn⟩ := atmI_some ha
        refine ⟨n, a, b, r, rfl, hn, ?_⟩
        cases hw : (a.1 == notS) with
        | true =>
          rw [hasF2_not hw, Bool.and_eq_true, decide_eq_true_eq] at h
          exact .inl ⟨List.length_eq_zero_iff.mp h.1, rfl⟩
        | false =>
          rw [hasF2_has hw] at h
          match r, h with
          | [c], h =>
            have h : (prefD b && (decide (lenT b < a.2.2.length) && bndD c)) = true := h
            rw [Bool.and_eq_true] at h
            obtain ⟨p, rfl⟩ := prefD_ints h.1
            exact .inr ⟨p, c, rfl, rfl⟩
  | .tuple [x], h => cases x <;> cases h
  | .tuple [], h => cases h
  | .none, h => cases h
  | .bool _, h => cases h
  | .int _, h => cases h
  | .str _, h => cases h
  | .list _, h => cases h
  | .dict _, h => cases h
theorem out_ge : ∀ n, 400 ≤ wOut n
  | 0 => Nat.le_refl _
  | n + 1 => by
    have := out_ge n
    show 400 ≤ 9 * (wOut n + 1)
    omega
theorem av_int {i : Int} (h : i.natAbs ≤ 100) : AV 400 3 (.int i) := by
  have l2 : i.natAbs.log2 < 7 := by
    by_cases z : i.natAbs = 0
    · rw [z]; decide
    · exact (Nat.log2_lt z).mpr (by omega)
  refine ⟨⟨?_, ?_, by simp [PyData.depth], ?_, by simp [LN]⟩, .inl ⟨by simp [PyData.hasDict], by simp [PyData.canLay0]⟩⟩
  · simp only [PyData.showable, decide_eq_true_eq]
    omega
  · simp only [PyData.leavesShort, decide_eq_true_eq]
    exact Nat.le_trans (PyData.shown_int_le (by omega)) (by decide)
  · simp only [PyData.weight]
    split <;> omega
theorem av_bool (b : Bool) : AV 400 3 (.bool b) := avB_of (by cases b <;> decide +kernel)
theorem ixT_bi {j : Nat} {l : List PyData} (h : ∀ e ∈ l, BI j e) : ixT l = false := by
  cases l with
  | nil => rfl
  | cons e l =>
    have := h e List.mem_cons_self
    cases j with
    | zero => rcases this with rfl | ⟨i, rfl, _⟩ <;> rfl
    | succ j => rcases this with (rfl | ⟨i, rfl, _⟩) | ⟨es, rfl, _⟩ <;> rfl
theorem lk_shape {q : Qs} (ok : QOk q) {ts : List Tb} {lk : Lk} (h : LkOk q ts lk) : ∃ (i : Nat) (a : Atm) (r : List Int) (rest : List PyData), lkD lk = .tuple (.int (i : Nat) :: rowI r :: rest) ∧ q.as[i]? = some a ∧ r.length ≤ 6 ∧ (∀ x ∈ r, x.natAbs ≤ 20) ∧ rest.length ≤ 1 ∧ ∀ e ∈ rest, BI 0 e := by
  cases lk with
  | nt i r =>
    obtain ⟨a, ha, hw, hl, hb⟩ := h
    have := (ok.ab a (List.mem_of_getElem? ha)).n
    exact ⟨i, a, r, [], rfl, ha, by omega, hb, Nat.zero_le _, fun _ z => nomatch z⟩
  | hs i p x =>
    obtain ⟨a, ha, hw, hl, hb, _, hx⟩ := h
    have := (ok.ab a (List.mem_of_getElem? ha)).n
    refine ⟨i, a, p, [oD x], rfl, ha, by omega, hb, Nat.le_refl _, fun e he => ?_⟩
    rw [List.mem_singleton.mp he]
    cases x with
    | none => exact .inl rfl
    | some v => exact .inr ⟨v, rfl, hx v rfl⟩
theorem box_ok {q : Qs} (ok : QOk q) {ts : List Tb} {lk : Lk} (h : LkOk q ts lk) {R : List (List Int)} {m : Nat} (hR : RwOk R m) {d : PyData} (hd : ToldR R lk d) : Ok 2000 2 (boxD lk d) := by
  have t1 : SmS (Str.ofString "row") := smSB_of (by decide +kernel)
  have t3 : SmS (Str.ofString "gap") := smSB_of (by decide +kernel)
  have hi : ∀ {i : Nat} {a : Atm}, q.as[i]? = some a → Ok 41 1 (.int (i : Nat)) := fun {i a} ha => (Ok.int (by
    have := (List.getElem?_eq_some_iff.mp ha).1
    have := ok.al
    omega)).mono (Nat.le_refl _) (by decide)
  cases lk with
  | nt i r =>
    obtain ⟨a, ha, hw, hl, hb⟩ := h
    have n6 := (ok.ab a (List.mem_of_getElem? ha)).n
    have hd : d = _ := hd
    subst hd
    split
    · simp only [boxD, eqv_str, if_true]
      exact (Ok.tuple ((t1.ok.mono (Nat.le_refl _) (by decide)).cons' ((hi ha).cons' ((row_ok (r := r) (by omega) (fun x hx => by have := hb x hx; omega)).cons' (OkAll.nil 1))))).mono (by omega) (by decide)
    · simp only [boxD, show PyData.eqv awayS thereS = false by decide +kernel, Bool.false_eq_true, if_false]
      exact Ok.none.mono (by omega) (by decide)
  | hs i p x =>
    obtain ⟨a, ha, hw, hl, hb, _, hx⟩ := h
    have n6 := (ok.ab a (List.mem_of_getElem? ha)).n
    rcases hd with ⟨_, _, _, rfl⟩ | ⟨_, lo, hi2, hg, rfl⟩
    · exact Ok.none.mono (by omega) (by decide)
    · obtain ⟨h1, h2⟩ := gap_le hg (beh_b hR p)
      exact (Ok.tuple ((t3.ok.mono (Nat.le_refl _) (by decide)).cons' ((hi ha).cons' ((row_ok (r := p) (by omega) (fun x hx => by have := hb x hx; omega)).cons' ((h1.ok.mono (Nat.le_refl _) (by decide)).cons' ((h2.ok.mono (Nat.le_refl _) (by decide)).cons' (OkAll.nil 1))))))).mono (by omega) (by decide)
theorem rep_len (n : Nat) (x : PyData) : (List.replicate n [x]).flatten.length = n := by
  induction n with
  | zero => rfl
  | succ n ih => rw [List.replicate_succ, List.flatten_cons, List.length_append, ih]; show 1 + n = n + 1; omega
theorem WIf.by {wc : En → (Bool → Prop) → Prop} {wa wb : W} {ρ : En} {P : PyData → Prop} (R : PyData → Prop) (h1 : ∀ P' : PyData → Prop, (∀ d, R d → P' d) → wc ρ fun b => if b = true then wa ρ P' else wb ρ P') (h2 : ∀ d, R d → P d) : WIf wc wa wb ρ P := ⟨h1 P h2⟩
def rowF (lk : Lk) (d : PyData) : PyData := match lk with
  | .nt i r => boxD (.nt i r) d
  | .hs _ _ _ => .none
end LW

/-! a dict that has None among its keys -/
namespace GL
open PySem PySem.Spec PyProof.Rows L2
def nV : Option Key → V
  | none => .non
  | some k => kV k
def NDat (P : Program) (w : World) (h : Heap) (a : Addr) (kvs : List (Option Key × V)) : Prop := kvs.length ≤ sizeLine ∧ ∃ vs : List (Option Key × Value), KV kvs vs ∧ h.DictOf (noneKind P w) a vs
def NDO (P : Program) (w : World) (a : Addr) (kvs : List (Option Key × V)) : HO := .ext fun h => NDat P w h a kvs
theorem ndo_ok {P : Program} {w : World} {H : Hp} {h : Heap} {a : Addr} {kvs : List (Option Key × V)} (d : NDat P w h a kvs) : ObjOk P w H h a (NDO P w a kvs) := by
  refine ⟨d, ?_, fun h1 h2 g k => ?_⟩
  · obtain ⟨_, vs, _, o, es, ep, ho, _⟩ := d
    exact ⟨o, ho⟩
  · obtain ⟨z, vs, r, o, es, ep, ho, t⟩ := g
    exact ⟨z, vs, r, o, es, ep, k o ho, t⟩
/-- the pairs of a dict with None behind them -/
def nkv (kvs : List (Key × V)) (v : V) : List (Option Key × V) := kvs.map (fun e => (some e.1, e.2)) ++ [(none, v)]
section
variable {P : Program} {w : World}
theorem some_dict {h : Heap} {a : Addr} {vs : List (Key × Value)} (d : h.DictOf (mixKind P w) a vs) : h.DictOf (noneKind P w) a (vs.map fun e => (some e.1, e.2)) := by
  obtain ⟨o, es, ep, ho, hx, hdt, hk, hp, hn⟩ := d
  refine ⟨o, es, ep, ho, hx, hdt, fun e he => ?_, ?_, ?_⟩
  · obtain ⟨k, h1, h2⟩ := hk e he
    exact ⟨some k, h1, h2⟩
  · have go : ∀ {es : List DictEntry} {vs : List (Key × Value)}, Pairs (mixKind P w) es vs → Pairs (noneKind P w) es (vs.map fun e => (some e.1, e.2)) := by
      intro es vs h
      induction h with
      | nil => exact .nil
      | cons h1 h2 _ ih => exact .cons h1 h2 ih
    exact go hp
  · have : (vs.map fun e => ((some e.1 : Option Key), e.2)).map (·.1) = (vs.map (·.1)).map some := by rw [List.map_map, List.map_map]; rfl
    rw [this]
    exact List.Pairwise.map _ (fun a b n z => n (Option.some.inj z)) hn
theorem kv_some {kvs : List (Key × V)} {vs : List (Key × Value)} (r : KV kvs vs) : KV (kvs.map fun e => ((some e.1 : Option Key), e.2)) (vs.map fun e => ((some e.1 : Option Key), e.2)) := by
  unfold KV at r ⊢
  induction r with
  | nil => exact .nil
  | cons h t ih => exact .cons ⟨congrArg some h.1, h.2⟩ ih
theorem stored_none {vs : List (Key × Value)} {r : Value} : stored (vs.map fun e => ((some e.1 : Option Key), e.2)) none r = (vs.map fun e => ((some e.1 : Option Key), e.2)) ++ [(none, r)] := by
  unfold stored
  rw [if_neg]
  intro z
  obtain ⟨kv, h1, h2⟩ := List.any_eq_true.mp z
  obtain ⟨e, _, rfl⟩ := List.mem_map.mp h1
  exact nomatch (of_decide_eq_true h2)
end
section
variable {X : Cx} {pins : List (Addr × Obj)} {σ : L2.St} {H : Hp} {s : Shared} {a : Addr} {y v : V} {u r : Value} {A : Around} {E : Value → Shared → Prop}
theorem n_setItem {kvs : List (Key × V)} {Q : Unit → Shared → Prop} (I : Inv X pins σ H s) (e : H a = some (.dK kvs)) (l : kvs.length < sizeLine) (rv : RelV v r)
    (h : ∀ s', Inv X pins σ (upd H a (NDO X.prog X.w a (nkv kvs v))) s' → Q () s') : wpAny (model X.prog X.w) A (setItem (.ref a) .none r) Q E s := by
  obtain ⟨z, hd, vs, rel, dd⟩ := dk_of I.hok e
  have lk := rel.length
  have dn := some_dict dd
  refine wpAny_setItem_pairs (hsz := by rw [List.length_map]; omega) (show (noneKind X.prog X.w).is none .none = true from rfl) dn fun h' dd' hs => h _ ?_
  rw [stored_none] at dd'
  have he : ∃ q, h'.get? a = some q := let ⟨q, _, _, hq, _⟩ := dd'; ⟨q, hq⟩
  refine d_write I (by rw [e]; exact True.intro) hs he (ndo_ok ⟨?_, _, ?_, dd'⟩)
  · show (nkv kvs v).length ≤ sizeLine
    unfold nkv
    rw [List.length_append, List.length_map, List.length_singleton]
    omega
  · exact Paired.snoc (kv_some rel) ⟨rfl, rv⟩
theorem nk_is {P : Program} {w : World} {k : Option Key} {u : Value} (r : RelV (nV k) u) : (noneKind P w).is k u = true := by
  cases k with
  | none =>
    have r : RelV V.non u := r
    cases r
    rfl
  | some k => exact kV_is (P := P) (w := w) r
theorem n_getItem {kvs : List (Option Key × V)} {k : Option Key} {Q : Value → Shared → Prop} (I : Inv X pins σ H s) (e : H a = some (NDO X.prog X.w a kvs)) (l : valV kvs k = some v) (ry : RelV (nV k) u)
    (h : ∀ w' s', Inv X pins σ H s' → RelV v w' → Q w' s') : wpAny (model X.prog X.w) A (getItem (.ref a) u) Q E s := by
  obtain ⟨⟨z, vs, rel, dd⟩, _⟩ := I.hok a _ e
  obtain ⟨w', hw, rw'⟩ := RelO.some_of (v := v) (o := valueAt vs k) (by rw [← l]; exact rel.val k)
  exact wpAny_getItem_of (nk_is ry) dd.mapOf hw (h w' _ (I.tok _) rw')
end
def tDGetN (P : Program) (w : World) (td ty : TE) : TE := fun σ H Q => td σ H fun x H1 => ty σ H1 fun y H2 => ∃ (a : Addr) (kvs : List (Option Key × V)) (k : Option Key) (v : V), x = .ref a ∧ H2 a = some (NDO P w a kvs) ∧ y = nV k ∧ valV kvs k = some v ∧ Q v H2
def sDPutN (P : Program) (w : World) (td tv : TE) : TS := fun D σ H => tv σ H fun v H1 => td σ H1 fun x H2 => ∃ (a : Addr) (kvs : List (Key × V)), x = .ref a ∧ H2 a = some (.dK kvs) ∧ kvs.length < sizeLine ∧ D.nx σ (upd H2 a (NDO P w a (nkv kvs v)))
section
variable {X : Cx} {o i value : Expr} {td ty tv : TE} {pos pos' p2 : Pos} {z : String}
theorem pe_dgetN (ho : PE X o td) (hi : PE X i ty) (hs : NoSl i) : PE X (.Subscript o i pos) (tDGetN X.prog X.w td ty) := by
  refine ⟨fun pins s σ H Q I h => ?_⟩
  refine subD_of PySem.F.slot_dict_getitem.lookup hs (thn (ho.run pins s σ H _ I h) fun u s1 ⟨x, H1, I1, rx, q1⟩ => thn (hi.run pins s1 σ H1 _ I1 q1) fun iv s2 ⟨y, H2, I2, ry, a, kvs, k, v, ex, g, ek, l, q2⟩ => ?_)
  subst ex ek
  obtain rfl : u = Value.ref a := rx
  have ty : s2.TypeIs (.ref a) "dict" := by
    obtain ⟨⟨z, vs, rel, dd⟩, _⟩ := I2.hok a _ g
    exact dd.typeIs
  exact ⟨ty, n_getItem I2 g l ry fun w' s3 I3 rw' => ⟨v, H2, I3, rw', q2⟩⟩
theorem ps_dputN (ho : PE X o td) (hi : PE X i (tC .non)) (hv : PE X value tv) (hs : swapsWith value (some (.Subscript o i pos')) pos.line X.env = pure false) :
    PS X (.Assign [.Subscript o i pos'] value pos) (sDPutN X.prog X.w td tv) := by
  refine ⟨fun pins s σ H D I h => ?_⟩
  refine wpAny_Assign_Subscript (thn (hv.run pins s σ H _ I h) fun r s1 ⟨v, H1, I1, rv, q1⟩ => thn (ho.run pins s1 σ H1 _ I1 q1) fun u s2 ⟨x, H2, I2, rx, a, kvs, ex, g, l, q2⟩ => thn (hi.run pins s2 σ H2 (fun y H' => y = .non ∧ H' = H2) I2 ⟨rfl, rfl⟩) fun iv s3 ⟨y, H3, I3, ry, ey, eH⟩ => ?_) hs
  subst ex ey eH
  obtain rfl : u = Value.ref a := rx
  obtain rfl : iv = Value.none := ry
  exact n_setItem I3 g l rv fun s4 I4 => ⟨σ, _, I4, q2⟩
end
end GL

/-! zip of two things, each of them a list or a tuple; the pairs told with their objects -/
namespace ZZ
open PySem PySem.Spec PyProof.Rows L2
def It (b : Bool) (h : Heap) (a l : Addr) (k : Nat) : Prop := match b with
  | true => h.IsListIter a l k
  | false => h.IsTupleIter a l k
def Sq (b : Bool) (h : Heap) (l : Addr) (xs : Array Value) : Prop := match b with
  | true => h.IsList l xs
  | false => h.IsTuple l xs
theorem It.keep {b : Bool} {h h' : Heap} {a l : Addr} {k : Nat} (g : It b h a l k) (e : ∀ o, h.get? a = some o → h'.get? a = some o) : It b h' a l k := by
  cases b
  · exact Heap.IsTupleIter.at g e
  · exact Heap.IsListIter.at g e
theorem It.ob {b : Bool} {h : Heap} {a l : Addr} {k : Nat} (g : It b h a l k) : ∃ o, h.get? a = some o ∧ ∃ fs, o.data = .fields fs := by
  cases b
  · obtain ⟨o, e, _, d⟩ := g
    exact ⟨o, e, _, d⟩
  · obtain ⟨o, e, _, d⟩ := g
    exact ⟨o, e, _, d⟩
theorem Sq.keep {b : Bool} {h h' : Heap} {l : Addr} {xs : Array Value} (g : Sq b h l xs) (e : ∀ o, h.get? l = some o → h'.get? l = some o) : Sq b h' l xs := by
  cases b
  · obtain ⟨o, e1, r⟩ := g
    exact ⟨o, e o e1, r⟩
  · obtain ⟨o, e1, r⟩ := g
    exact ⟨o, e o e1, r⟩
theorem Sq.lt {b : Bool} {h : Heap} {l : Addr} {xs : Array Value} (g : Sq b h l xs) : l < h.objs.size := by
  cases b
  · obtain ⟨o, e1, r⟩ := g
    exact Heap.lt_size e1
  · obtain ⟨o, e1, r⟩ := g
    exact Heap.lt_size e1
def itO (b : Bool) (l : Addr) : Obj := match b with
  | true => { cls := .type "list_iterator", data := .fields #[.ref l, .int 0 0] }
  | false => { cls := .type "tuple_iterator", data := .fields #[.ref l, .int 0 0] }
theorem itO_it {b : Bool} {h : Heap} {a l : Addr} (e : h.get? a = some (itO b l)) : It b h a l 0 := by
  cases b
  · exact ⟨_, e, rfl, rfl⟩
  · exact ⟨_, e, rfl, rfl⟩
section
variable {prog : Program} {w : World} {A : Around} {E : Value → Shared → Prop} {s : Shared}
theorem iter {b : Bool} {l : Addr} {xs : Array Value} {Q : Value → Shared → Prop} (g : Sq b s.heap l xs) (h : Q (.ref s.heap.objs.size) { s with heap := s.heap.push (itO b l) }) : wpAny (model prog w) A (pyIter (.ref l)) Q E s := by
  cases b
  · exact wpAny_pyIter_tuple g h
  · exact wpAny_pyIter_list g h
theorem draw {b : Bool} {a l : Addr} {k : Nat} {xs : Array Value} {x : Value} {Q : Value → Shared → Prop} (g : It b s.heap a l k) (gl : Sq b s.heap l xs) (gx : xs[k]? = some x)
    (h : ∀ h', It b h' a l (k + 1) → Heap.SameBut a s.heap h' → Q x { s with heap := h' }) : wpAny (model prog w) A (Builtin.SmallTypes.nextOf (.ref a)) Q E s := by
  cases b
  · exact RZ.nextOf_tuple_item g gl gx h
  · exact wpAny_nextOf_list_item g gl gx h
theorem stop {b : Bool} {a l : Addr} {k : Nat} {xs : Array Value} {Q : Value → Shared → Prop} (hh : A.handled = none) (g : It b s.heap a l k) (gl : Sq b s.heap l xs) (gx : xs[k]? = none)
    (h : ∀ h' e, Heap.ExtBut a s.heap h' → (∃ o, h'.get? e = some o ∧ o.cls = .type "StopIteration") → E (.ref e) { s with heap := h' }) : wpAny (model prog w) A (Builtin.SmallTypes.nextOf (.ref a)) Q E s := by
  cases b
  · exact RZ.nextOf_tuple_end hh g gl gx h
  · exact wpAny_nextOf_list_end hh g gl gx h
/-- what stands but for some places -/
def But (S : List Addr) (h h' : Heap) : Prop := ∀ c o, c ∉ S → h.get? c = some o → h'.get? c = some o
theorem But.one {a : Addr} {h h' : Heap} (g : Heap.SameBut a h h') : But [a] h h' := fun c o n e => (g.2 c (fun z => n (by rw [z]; exact List.mem_cons_self))).trans e
theorem But.ext {a : Addr} {h h' : Heap} (g : Heap.ExtBut a h h') : But [a] h h' := fun c o n e => g c o (fun z => n (by rw [z]; exact List.mem_cons_self)) e
theorem But.then {S T U : List Addr} {h h' h'' : Heap} (f : But S h h') (g : But T h' h'') (a : ∀ c ∈ S, c ∈ U) (b : ∀ c ∈ T, c ∈ U) : But U h h'' := fun c o n e => g c o (fun z => n (b c z)) (f c o (fun z => n (a c z)) e)
end

/-! ### made -/
def pairO (u v : Value) : Obj := { cls := .type "tuple", data := .seq #[u, v] }
def zipO (a b : Addr) : Obj := { cls := .type "zip", data := .fields #[.none, .bool false, .bool false, .ref a, .ref b] }
def hp1 (b1 : Bool) (l : Addr) (h : Heap) : Heap := h.push (itO b1 l)
def hp2 (b1 b2 : Bool) (l m : Addr) (h : Heap) : Heap := (hp1 b1 l h).push (itO b2 m)
def hp3 (b1 b2 : Bool) (l m : Addr) (h : Heap) : Heap := (hp2 b1 b2 l m h).push (pairO (.ref h.objs.size) (.ref (hp1 b1 l h).objs.size))
def hp4 (b1 b2 : Bool) (l m : Addr) (h : Heap) : Heap := (hp3 b1 b2 l m h).push (pairO .none .none)
def hp5 (b1 b2 : Bool) (l m : Addr) (h : Heap) : Heap := (hp4 b1 b2 l m h).push (zipO (hp2 b1 b2 l m h).objs.size (hp3 b1 b2 l m h).objs.size)
theorem made (b1 b2 : Bool) (l m : Addr) (xs ys : Array Value) :
    Meets (Builtin.«zip.__new__» ⟨[.type "zip", .ref l, .ref m], []⟩) (fun _ R st => (Sq b1 st.heap l xs ∧ Sq b2 st.heap m ys) ∧ R (.ok (.ret (.ref (hp4 b1 b2 l m st.heap).objs.size))) { st with heap := hp5 b1 b2 l m st.heap }) :=
  .of_wp fun prog w A R st hyp => by
    obtain ⟨h0, gn, dr, tk, os⟩ := st
    obtain ⟨⟨g1, g2⟩, hyp⟩ := hyp
    have isz := sub_zip
    have k1 : Sq b1 (Shared.heap ⟨h0, gn, dr, tk, os⟩) l xs := g1
    have k2 : Sq b2 (Shared.heap ⟨h0.push (itO b1 l), gn, dr, tk, os⟩) m ys := g2.keep fun o e => Heap.get?_push_of_some _ e
    wp_walk using iter k1, iter k2
    exact ⟨_, rfl, hyp⟩
section
variable {prog : Program} {w : World} {A : Around} {E : Value → Shared → Prop} {s : Shared}
/-- what a new zip is -/
structure New (b1 b2 : Bool) (n l m : Addr) (h h' : Heap) : Prop where
  z : IsZip h' (n + 4) (n + 2) (n + 3) .none
  src : IsPair h' (n + 2) (.ref n) (.ref (n + 1))
  out : IsPair h' (n + 3) .none .none
  i1 : It b1 h' n l 0
  i2 : It b2 h' (n + 1) m 0
  kp : ∀ c o, h.get? c = some o → h'.get? c = some o
theorem call_new {b1 b2 : Bool} {l m : Addr} {xs ys : Array Value} {Q : Value → Shared → Prop} (g1 : Sq b1 s.heap l xs) (g2 : Sq b2 s.heap m ys)
    (h : ∀ h', New b1 b2 s.heap.objs.size l m s.heap h' → Q (.ref (s.heap.objs.size + 4)) { s with heap := h' }) : wpAny (model prog w) A (call (.type "zip") [.ref l, .ref m]) Q E s := by
  refine callType_new F.called_zip (by decide) (F.typeCall_zip_2 _ _) (F.newCall_zip_2 _ _) (fun obj => F.args_object_init_3 obj _ _) F.entry_zip_new (made b1 b2 l m xs ys) ⟨⟨g1, g2⟩, ?_⟩
  have n1 : (hp1 b1 l s.heap).objs.size = s.heap.objs.size + 1 := Heap.size_push ..
  have n2 : (hp2 b1 b2 l m s.heap).objs.size = s.heap.objs.size + 2 := by unfold hp2; rw [Heap.size_push, n1]
  have n3 : (hp3 b1 b2 l m s.heap).objs.size = s.heap.objs.size + 3 := by unfold hp3; rw [Heap.size_push, n2]
  have n4 : (hp4 b1 b2 l m s.heap).objs.size = s.heap.objs.size + 4 := by unfold hp4; rw [Heap.size_push, n3]
  have up5 : ∀ c o, (hp4 b1 b2 l m s.heap).get? c = some o → (hp5 b1 b2 l m s.heap).get? c = some o := fun c o e => Heap.get?_push_of_some _ e
  have up4 : ∀ c o, (hp3 b1 b2 l m s.heap).get? c = some o → (hp4 b1 b2 l m s.heap).get? c = some o := fun c o e => Heap.get?_push_of_some _ e
  have up3 : ∀ c o, (hp2 b1 b2 l m s.heap).get? c = some o → (hp3 b1 b2 l m s.heap).get? c = some o := fun c o e => Heap.get?_push_of_some _ e
  have up2 : ∀ c o, (hp1 b1 l s.heap).get? c = some o → (hp2 b1 b2 l m s.heap).get? c = some o := fun c o e => Heap.get?_push_of_some _ e
  have up1 : ∀ c o, s.heap.get? c = some o → (hp1 b1 l s.heap).get? c = some o := fun c o e => Heap.get?_push_of_some _ e
  have at1 : (hp1 b1 l s.heap).get? s.heap.objs.size = some (itO b1 l) := Heap.get?_push_size _ (by cases b1 <;> rfl)
  have at2 : (hp2 b1 b2 l m s.heap).get? (s.heap.objs.size + 1) = some (itO b2 m) := by rw [← n1]; exact Heap.get?_push_size _ (by cases b2 <;> rfl)
  have at3 : (hp3 b1 b2 l m s.heap).get? (s.heap.objs.size + 2) = some (pairO (.ref s.heap.objs.size) (.ref (s.heap.objs.size + 1))) := by rw [← n2, ← n1]; exact Heap.get?_push_size _ rfl
  have at4 : (hp4 b1 b2 l m s.heap).get? (s.heap.objs.size + 3) = some (pairO .none .none) := by rw [← n3]; exact Heap.get?_push_size _ rfl
  have at5 : (hp5 b1 b2 l m s.heap).get? (s.heap.objs.size + 4) = some (zipO (s.heap.objs.size + 2) (s.heap.objs.size + 3)) := by rw [← n4, ← n3, ← n2]; exact Heap.get?_push_size _ rfl
  show _ ∧ _
  rw [n4]
  refine ⟨⟨_, at5, rfl⟩, h _ ⟨at5, up5 _ _ (up4 _ _ at3), up5 _ _ at4, ?_, ?_, fun c o e => up5 _ _ (up4 _ _ (up3 _ _ (up2 _ _ (up1 _ _ e))))⟩⟩
  · exact itO_it (up5 _ _ (up4 _ _ (up3 _ _ (up2 _ _ at1))))
  · exact itO_it (up5 _ _ (up4 _ _ (up3 _ _ at2)))
/-! ### a turn -/
theorem next_item {b1 b2 : Bool} {z T O i j l m : Addr} {k n : Nat} {xs ys : Array Value} {x y p q : Value} {Q : Option Value → Shared → Prop} (D : ZipApart z T O i j l m) (jz : IsZip s.heap z T O .none) (jT : IsPair s.heap T (.ref i) (.ref j)) (jO : IsPair s.heap O p q)
    (ji : It b1 s.heap i l k) (jj : It b2 s.heap j m n) (jl : Sq b1 s.heap l xs) (jm : Sq b2 s.heap m ys) (ex : xs[k]? = some x) (ey : ys[n]? = some y)
    (K : ∀ h', IsZip h' z T O (rawInt s.heap.objs.size) → IsPair h' O x y → It b1 h' i l (k + 1) → It b2 h' j m (n + 1) → IsPair h' s.heap.objs.size x y → But [z, O, i, j] s.heap h' → Q (some (.ref s.heap.objs.size)) { s with heap := h' }) :
    wpAny (model prog w) A (pyNext (.ref z)) Q E s := by
  have ty : s.TypeIs (.ref z) "zip" := ⟨_, jz, rfl⟩
  unfold pyNext
  refine wpAny_bind (wpAny_attempt (wpAny_callSpecial?_slot (name := Str.ofString "__next__") ty F.slot_zip_next (wpAny_call_entry F.slot_zip_next ty F.entry_zip_next ?_ (F.args_zip_next_1 _))))
  show wpAny _ _ (field (.ref z) 2 >>= _) _ _ _
  refine wpAny_bind (wpAny_field jz rfl (x := .bool false) rfl ?_)
  show wpAny _ _ (field (.ref z) 3 >>= _) _ _ _
  refine wpAny_bind (wpAny_field jz rfl (x := .ref T) rfl (wpAny_bind (wpAny_seqItems jT rfl ?_)))
  show wpAny _ _ (Builtin.SmallTypes.ownedTupleIsFree (.ref z) >>= _) _ _ _
  unfold Builtin.SmallTypes.ownedTupleIsFree
  refine wpAny_bind (wpAny_bind (wpAny_field jz rfl (x := .none) rfl (wpAny_pure ?_)))
  simp only [if_true]
  refine wpAny_bind (wpAny_rule (wpAny_bind (wpAny_field jz rfl (x := .ref O) rfl (wpAny_bind (wpAny_setField_rec jz (by simp) fun g1 a1 f1 => wpAny_bind ?_)))))
  have B1 := But.one f1
  simp only [List.forIn_cons, List.forIn_nil, List.zipIdx_cons, List.zipIdx_nil]
  have Z1 : IsZip g1 z T O .ellipsis := a1
  -- the first
  refine wpAny_bind (wpAny_bind (wpAny_onRaise ?_))
  show wpAny _ _ (Builtin.SmallTypes.nextOf (.ref i) >>= _) _ _ _
  refine wpAny_bind (draw (ji.keep fun o e => B1 i o (fun c => D.i1z (List.mem_singleton.mp c)) e) (jl.keep fun o e => B1 l o (fun c => D.l1z (List.mem_singleton.mp c)) e) ex fun g2 I2 f2 => wpAny_pure ?_)
  have B2 := But.one f2
  have O2 : IsPair g2 O p q := B2 O _ (fun c => D.TOi1 (List.mem_singleton.mp c)) (B1 O _ (fun c => D.TOz (List.mem_singleton.mp c)) jO)
  refine wpAny_bind (wpAny_seqItems O2 rfl (wpAny_bind (wpAny_updateSeq_pair O2 fun g3 a3 f3 => wpAny_bind (wpAny_letGo (wpAny_pure ?_)))))
  have O3 : IsPair g3 O x q := a3
  have B3 := But.one f3
  have B13 : But [z, i, O] s.heap g3 := (B1.then (U := [z, i]) B2 (by simp) (by simp)).then B3 (by simp) (by simp)
  -- the second
  refine wpAny_bind (wpAny_bind (wpAny_onRaise ?_))
  show wpAny _ _ (Builtin.SmallTypes.nextOf (.ref j) >>= _) _ _ _
  refine wpAny_bind (draw (jj.keep fun o e => B13 j o (by simp [D.i2z, D.i12.symm, D.TOi2.symm]) e) (jm.keep fun o e => B13 m o (by simp [D.l2z, D.l2i1, D.l2TO]) e) ey fun g4 I4 f4 => wpAny_pure ?_)
  have B4 := But.one f4
  have O4 : IsPair g4 O x q := B4 O _ (by simp [D.TOi2]) O3
  refine wpAny_bind (wpAny_seqItems O4 rfl (wpAny_bind (wpAny_updateSeq_pair O4 fun g5 a5 f5 => wpAny_bind (wpAny_letGo (wpAny_pure (wpAny_pure ?_))))))
  have O5 : IsPair g5 O x y := a5
  have B5 := But.one f5
  have B15 : But [z, O, i, j] s.heap g5 := (B13.then (U := [z, O, i, j]) B4 (by simp) (by simp)).then B5 (by simp) (by simp)
  have sz : g5.objs.size = s.heap.objs.size := by rw [f5.1, f4.1, f3.1, f2.1, f1.1]
  have Z5 : IsZip g5 z T O .ellipsis := B5 z _ (by simp [D.TOz.symm]) (B4 z _ (by simp [D.i2z.symm]) (B3 z _ (by simp [D.TOz.symm]) (B2 z _ (by simp [D.i1z.symm]) Z1)))
  have I5 : It b1 g5 i l (k + 1) := I2.keep fun o e => B5 i o (by simp [D.TOi1.symm]) (B4 i o (by simp [D.i12]) (B3 i o (by simp [D.TOi1.symm]) e))
  have J5 : It b2 g5 j m (n + 1) := I4.keep fun o e => B5 j o (by simp [D.TOi2.symm]) e
  -- handed out
  refine wpAny_bind (wpAny_seqItems O5 rfl (wpAny_bind (wpAny_newTuple ?_)))
  show wpAny _ _ (Builtin.SmallTypes.ownedTupleHandOut (.ref z) (.ref g5.objs.size) >>= _) _ _ _
  unfold Builtin.SmallTypes.ownedTupleHandOut
  have Z6 : IsZip (g5.push { cls := .type "tuple", data := .seq #[x, y] }) z T O .ellipsis := Heap.get?_push_of_some _ Z5
  refine wpAny_bind (wpAny_bind (wpAny_setField_rec Z6 (by simp) fun g7 a7 f7 => ?_))
  have Z7 : IsZip g7 z T O (rawInt g5.objs.size) := a7
  refine wpAny_setField_rec Z7 (by simp) fun g8 a8 f8 => ?_
  have Z8 : IsZip g8 z T O (rawInt g5.objs.size) := a8
  have B58 : But [z] g5 g8 := fun c o nc e => But.one f8 c o nc (But.one f7 c o nc (Heap.get?_push_of_some _ e))
  have ne : g5.objs.size ∉ [z] := fun c => Nat.ne_of_gt (Heap.lt_size Z5) (List.mem_singleton.mp c)
  have P8 : IsPair g8 g5.objs.size x y := But.one f8 _ _ ne (But.one f7 _ _ ne (Heap.get?_push_size _ rfl))
  rw [sz] at Z8 P8
  refine wpAny_pure ⟨.ref g5.objs.size, rfl, wpAny_pure ?_⟩
  rw [sz]
  exact K g8 Z8 (B58 O _ (by simp [D.TOz]) O5) (I5.keep fun o e => B58 i o (by simp [D.i1z]) e) (J5.keep fun o e => B58 j o (by simp [D.i2z]) e) P8 (B15.then B58 (fun c h => h) (by simp))
theorem next_end {b1 b2 : Bool} {z T O i j l m : Addr} {k n : Nat} {xs ys : Array Value} {p q : Value} {Q : Option Value → Shared → Prop} (hh : A.handled = none) (D : ZipApart z T O i j l m) (jz : IsZip s.heap z T O .none) (jT : IsPair s.heap T (.ref i) (.ref j)) (jO : IsPair s.heap O p q)
    (ji : It b1 s.heap i l k) (jj : It b2 s.heap j m n) (jl : Sq b1 s.heap l xs) (jm : Sq b2 s.heap m ys) (ee : xs[k]? = none ∨ ys[n]? = none)
    (K : ∀ h', But [z, O, i, j] s.heap h' → Q none { s with heap := h' }) : wpAny (model prog w) A (pyNext (.ref z)) Q E s := by
  have ty : s.TypeIs (.ref z) "zip" := ⟨_, jz, rfl⟩
  unfold pyNext
  refine wpAny_bind (wpAny_attempt (wpAny_callSpecial?_slot (name := Str.ofString "__next__") ty F.slot_zip_next (wpAny_call_entry F.slot_zip_next ty F.entry_zip_next ?_ (F.args_zip_next_1 _))))
  show wpAny _ _ (field (.ref z) 2 >>= _) _ _ _
  refine wpAny_bind (wpAny_field jz rfl (x := .bool false) rfl ?_)
  show wpAny _ _ (field (.ref z) 3 >>= _) _ _ _
  refine wpAny_bind (wpAny_field jz rfl (x := .ref T) rfl (wpAny_bind (wpAny_seqItems jT rfl ?_)))
  show wpAny _ _ (Builtin.SmallTypes.ownedTupleIsFree (.ref z) >>= _) _ _ _
  unfold Builtin.SmallTypes.ownedTupleIsFree
  refine wpAny_bind (wpAny_bind (wpAny_field jz rfl (x := .none) rfl (wpAny_pure ?_)))
  simp only [if_true]
  refine wpAny_bind (wpAny_rule (wpAny_bind (wpAny_field jz rfl (x := .ref O) rfl (wpAny_bind (wpAny_setField_rec jz (by simp) fun g1 a1 f1 => wpAny_bind ?_)))))
  have B1 := But.one f1
  have Z1 : IsZip g1 z T O .ellipsis := a1
  simp only [List.forIn_cons, List.forIn_nil, List.zipIdx_cons, List.zipIdx_nil]
  refine wpAny_bind (wpAny_bind (wpAny_onRaise ?_))
  show wpAny _ _ (Builtin.SmallTypes.nextOf (.ref i) >>= _) _ _ _
  have I1 := ji.keep fun o e => B1 i o (fun c => D.i1z (List.mem_singleton.mp c)) e
  have L1 := jl.keep fun o e => B1 l o (fun c => D.l1z (List.mem_singleton.mp c)) e
  cases ex : xs[k]? with
  | none =>
    refine wpAny_bind (stop hh I1 L1 ex fun g2 e f2 h2 => ?_)
    obtain ⟨oe, he, hc⟩ := h2
    have B2 := But.ext f2
    have Z2 : IsZip g2 z T O .ellipsis := B2 z _ (by simp [D.i1z.symm]) Z1
    have ne : e ∉ [z] := fun c => by rw [List.mem_singleton.mp c, Z2] at he; cases he; simp at hc
    refine wpAny_setField_rec Z2 (by simp) fun g3 _ f3 => ?_
    refine wpAny_bind (wpAny_isInstance (T := "StopIteration") (b := true) ⟨oe, But.one f3 e oe ne he, hc⟩ isSubtype_stop (wpAny_pure (K _ ?_)))
    exact (B1.then (U := [z, O, i, j]) B2 (by simp) (by simp)).then (But.one f3) (fun c h => h) (by simp)
  | some x =>
    have ey : ys[n]? = none := ee.resolve_left fun z => by rw [ex] at z; cases z
    refine wpAny_bind (draw I1 L1 ex fun g2 I2 f2 => wpAny_pure ?_)
    have B2 := But.one f2
    have O2 : IsPair g2 O p q := B2 O _ (fun c => D.TOi1 (List.mem_singleton.mp c)) (B1 O _ (fun c => D.TOz (List.mem_singleton.mp c)) jO)
    refine wpAny_bind (wpAny_seqItems O2 rfl (wpAny_bind (wpAny_updateSeq_pair O2 fun g3 a3 f3 => wpAny_bind (wpAny_letGo (wpAny_pure ?_)))))
    have B3 := But.one f3
    have B13 : But [z, i, O] s.heap g3 := (B1.then (U := [z, i]) B2 (by simp) (by simp)).then B3 (by simp) (by simp)
    refine wpAny_bind (wpAny_bind (wpAny_onRaise ?_))
    show wpAny _ _ (Builtin.SmallTypes.nextOf (.ref j) >>= _) _ _ _
    refine wpAny_bind (stop hh (jj.keep fun o e => B13 j o (by simp [D.i2z, D.i12.symm, D.TOi2.symm]) e) (jm.keep fun o e => B13 m o (by simp [D.l2z, D.l2i1, D.l2TO]) e) ey fun g4 e f4 h4 => ?_)
    obtain ⟨oe, he, hc⟩ := h4
    have B4 := But.ext f4
    have Z4 : IsZip g4 z T O .ellipsis := B4 z _ (by simp [D.i2z.symm]) (B3 z _ (by simp [D.TOz.symm]) (B2 z _ (by simp [D.i1z.symm]) Z1))
    have ne : e ∉ [z] := fun c => by rw [List.mem_singleton.mp c, Z4] at he; cases he; simp at hc
    refine wpAny_setField_rec Z4 (by simp) fun g5 _ f5 => ?_
    refine wpAny_bind (wpAny_isInstance (T := "StopIteration") (b := true) ⟨oe, But.one f5 e oe ne he, hc⟩ isSubtype_stop (wpAny_pure (K _ ?_)))
    exact (B13.then (U := [z, O, i, j]) B4 (by simp) (by simp)).then (But.one f5) (fun c h => h) (by simp)
end
/-! ### the walk -/
def SqV (K : PySem.W.Frag) (b : Bool) (H : Hp) (a : Addr) (xs : List V) : Prop := match b with
  | true => SqL K H a xs
  | false => SqT K H a xs
def PO (u v : Value) : Obj := { cls := .type "tuple", data := .seq #[u, v] }
/-- the things at a and b as they stand at each turn, the items in new pairs that are told -/
def ItZ (K : PySem.W.Frag) (b1 b2 : Bool) (a b : Addr) : L2.It :=
  ⟨fun i H => ∃ (xs ys : List V) (x y : V), SqV K b1 H a xs ∧ SqV K b2 H b ys ∧ xs[i]? = some x ∧ ys[i]? = some y,
   fun i H v H' => ∃ (t : Addr) (ob : Obj) (x y : V), v = .ref t ∧ H t = none ∧ ob.dict = none ∧ H' = upd H t (.frz ob (.tup [x, y])) ∧ (∀ xs, SqV K b1 H a xs → xs[i]? = some x) ∧ ∀ ys, SqV K b2 H b ys → ys[i]? = some y,
   fun i H => ∃ xs ys : List V, SqV K b1 H a xs ∧ SqV K b2 H b ys ∧ (xs.length ≤ i ∨ ys.length ≤ i)⟩
theorem SqV.sq {X : Cx} {pins : List (Addr × Obj)} {σ : L2.St} {H : Hp} {s : Shared} {b : Bool} {a : Addr} {xs : List V} (I : Inv X pins σ H s) (h : SqV X.K b H a xs) : ∃ its : List Value, Vals xs its ∧ Sq b s.heap a its.toArray := by
  cases b
  · obtain ⟨its, r, p, _⟩ := I.tuple h
    exact ⟨its, r, p⟩
  · obtain ⟨its, r, p, _⟩ := I.list h
    exact ⟨its, r, p.isList⟩
theorem SqV.inj {X : Cx} {pins : List (Addr × Obj)} {σ : L2.St} {H : Hp} {s : Shared} {b : Bool} {a : Addr} {xs ys : List V} (I : Inv X pins σ H s) (h : SqV X.K b H a xs) (g : SqV X.K b H a ys) : xs = ys := by
  cases b
  · exact I.tuple_inj h g
  · exact I.list_inj h g
theorem turn {P : Program} {w : World} {K : PySem.W.Frag} {elts : List Expr} {kk : Nat} {tpos : Pos} {b1 b2 : Bool} {a b z T O i j : Addr} (D : ZipApart z T O i j a b) :
    Turn P w K (.Tuple elts kk tpos) (ItZ K b1 b2 a b) [z, T, O, i, j] z (fun n h => IsZip h z T O .none ∧ IsPair h T (.ref i) (.ref j) ∧ (∃ x y, IsPair h O x y) ∧ It b1 h i a n ∧ It b2 h j b n) where
  mem := List.mem_cons_self
  obj := fun n h st c hc => by
    obtain ⟨c1, c2, ⟨x, y, c3⟩, c4, c5⟩ := st
    obtain ⟨o4, e4, f4, d4⟩ := c4.ob
    obtain ⟨o5, e5, f5, d5⟩ := c5.ob
    simp only [List.mem_cons, List.not_mem_nil, or_false] at hc
    rcases hc with rfl | rfl | rfl | rfl | rfl
    · exact ⟨_, c1, fun v e => nomatch e⟩
    · exact ⟨_, c2, fun v e => nomatch e⟩
    · exact ⟨_, c3, fun v e => nomatch e⟩
    · exact ⟨o4, e4, fun v e => by rw [d4] at e; cases e⟩
    · exact ⟨o5, e5, fun v e => by rw [d5] at e; cases e⟩
  keep := fun n h h' st k => by
    obtain ⟨c1, c2, ⟨x, y, c3⟩, c4, c5⟩ := st
    exact ⟨k z (by simp) _ c1, k T (by simp) _ c2, ⟨x, y, k O (by simp) _ c3⟩, c4.keep fun o e => k i (by simp) o e, c5.keep fun o e => k j (by simp) o e⟩
  item := by
    intro X hP hw hK hc n pins s σ H E I hf st hg
    subst hP hw hK
    obtain ⟨c1, c2, ⟨x0, y0, c3⟩, c4, c5⟩ := st
    obtain ⟨xs, ys, x, y, q1, q2, hx, hy⟩ := hg
    obtain ⟨us, r1, p1⟩ := q1.sq I
    obtain ⟨ws, r2, p2⟩ := q2.sq I
    obtain ⟨u, hu, ru⟩ := r1.get hx
    obtain ⟨v, hv, rv⟩ := r2.get hy
    have zl : z < s.heap.objs.size := Heap.lt_size c1
    refine next_item D c1 c2 c3 c4 c5 p1 p2 (x := u) (y := v) (by simpa using hu) (by simpa using hv) fun h' d1 d2 d3 d4 d5 d6 => ⟨_, rfl, wpAny_letOwnedTupleGo_zip (s := { s with heap := h' }) d1 fun h2 e1 e2 => ?_⟩
    have E2 := But.one e2
    have tnew : h2.get? s.heap.objs.size = some (PO u v) := E2 _ _ (by simp; exact Nat.ne_of_gt zl) d5
    have okn : ObjOk X.prog X.w (upd H s.heap.objs.size (.frz (PO u v) (.tup [x, y]))) h2 s.heap.objs.size (.frz (PO u v) (.tup [x, y])) :=
      ⟨tnew, by show 2 ≤ sizeLine; decide, [u, v], .cons ru (.cons rv .nil), ⟨_, tnew, rfl, _, rfl⟩⟩
    have all : But [z, T, O, i, j] s.heap h2 := d6.then E2 (by simp) (by simp)
    have I1 : Inv X pins σ (upd H s.heap.objs.size (.frz (PO u v) (.tup [x, y]))) { s with heap := h2 } := I.turnedNew (t' := s.toks) (ch := [z, T, O, i, j]) (fun c o nc e => all c o nc e) hf (Nat.le_refl _) okn
    refine ⟨.ref s.heap.objs.size, _, I1, rfl, ⟨_, PO u v, x, y, rfl, I.hok.fresh (Nat.le_refl _), rfl, rfl, fun l hl => by rw [SqV.inj I hl q1]; exact hx, fun l hl => by rw [SqV.inj I hl q2]; exact hy⟩, ⟨e1, ?_, ⟨u, v, ?_⟩, ?_, ?_⟩, fun c hcm => ?_⟩
    · exact E2 _ _ (by simp [D.TIz]) (d6 _ _ (by simp [D.TIz, D.TITO, D.TIi1, D.TIi2]) c2)
    · exact E2 _ _ (by simp [D.TOz]) d2
    · exact d3.keep fun o e => E2 _ _ (by simp [D.i1z]) e
    · exact d4.keep fun o e => E2 _ _ (by simp [D.i2z]) e
    · have lt : c < s.heap.objs.size := by
        simp only [List.mem_cons, List.not_mem_nil, or_false] at hcm
        rcases hcm with rfl | rfl | rfl | rfl | rfl
        · exact zl
        · exact Heap.lt_size c2
        · exact Heap.lt_size c3
        · obtain ⟨o, e, _⟩ := c4.ob; exact Heap.lt_size e
        · obtain ⟨o, e, _⟩ := c5.ob; exact Heap.lt_size e
      rw [upd_ne (Nat.ne_of_lt lt)]
      exact (hf c hcm).1
  done := by
    intro X hP hw hK hc n pins s σ H E I hf st hg
    subst hP hw hK
    obtain ⟨c1, c2, ⟨x0, y0, c3⟩, c4, c5⟩ := st
    obtain ⟨xs, ys, q1, q2, le⟩ := hg
    obtain ⟨us, r1, p1⟩ := q1.sq I
    obtain ⟨ws, r2, p2⟩ := q2.sq I
    have l1 := r1.length
    have l2 := r2.length
    refine next_end (I.ok.hd hc) D c1 c2 c3 c4 c5 p1 p2 (le.imp (fun q => by simp; omega) (fun q => by simp; omega)) fun h' k => ⟨rfl, I.turnedL (t' := s.toks) (ch := [z, T, O, i, j]) (fun c o nc e => k c o (fun m => nc ?_) e) hf⟩
    simp only [List.mem_cons, List.not_mem_nil, or_false] at m ⊢
    rcases m with rfl | rfl | rfl | rfl
    · exact .inl rfl
    · exact .inr (.inr (.inl rfl))
    · exact .inr (.inr (.inr (.inl rfl)))
    · exact .inr (.inr (.inr (.inr rfl)))
  self := fun A n s Q E st h => wpAny_pyIter_zip st.1 h
/-- zip of any two -/
def iZipZ (K : PySem.W.Frag) (ta : TA) : TI := fun σ H R => ta σ H fun vs H1 => ∃ (b1 b2 : Bool) (a b : Addr) (xs ys : List V), vs = [.ref a, .ref b] ∧ SqV K b1 H1 a xs ∧ SqV K b2 H1 b ys ∧ R (ItZ K b1 b2 a b) H1
theorem pi_zipZ {X : Cx} {e e2 : Expr} {ta : TA} {p pos tpos : Pos} {elts : List Expr} {kk : Nat} (hg : Gl X "zip") (hm : X.mg "zip" = none) (ha : PA X [e, e2] ta)
    (hs : starEach [e, e2] X.env = (false, eval e X.env) :: starEach [e2] X.env := by rfl) (hpl : (backTo pos (starEach [e2] X.env)).any (·.1) = false := by rfl) :
    PI X (.Tuple elts kk tpos) (.Call (.Name "zip" p) [e, e2] [] pos) (iZipZ X.K ta) := by
  refine ⟨fun pins s σ H R I h => Call_ (ld_blt I hg hm PyProof.Rows.boot_zip (PyProof.Rows.callWith_type1 (thn (ha.run pos pins s σ H _ I h) fun us s1 ⟨vs, H1, I1, r1, q1⟩ => ?_) hs hpl))⟩
  obtain ⟨b1, b2, a, b, xs, ys, rfl, k1, k2, q⟩ := q1
  cases r1 with
  | cons ra rr =>
    cases rr with
    | cons rb rr =>
      cases rr
      cases ra
      cases rb
      obtain ⟨u1, _, p1⟩ := k1.sq I1
      obtain ⟨u2, _, p2⟩ := k2.sq I1
      refine call_new p1 p2 fun h' N => wpAny_pyIter_zip N.z ?_
      have I2 : Inv X pins σ H1 { s1 with heap := h' } := I1.kept (t' := s1.toks) N.kp
      refine ⟨s1.heap.objs.size + 4, [s1.heap.objs.size + 4, s1.heap.objs.size + 2, s1.heap.objs.size + 3, s1.heap.objs.size, s1.heap.objs.size + 1], _, _, H1, rfl, I2, turn (PySem.W.ktu_apart s1.heap.objs.size a b p1.lt p2.lt), ⟨N.z, N.src, ⟨_, _, N.out⟩, N.i1, N.i2⟩, fun c hcm => ?_, q⟩
      have le : s1.heap.objs.size ≤ c := by
        simp only [List.mem_cons, List.not_mem_nil, or_false] at hcm
        rcases hcm with e | e | e | e | e <;> rw [e] <;> first | exact Nat.le_add_right _ _ | exact Nat.le_refl _
      exact I1.fpOk le (I1.hok.fresh le)
end ZZ

/-! the data layer: things of another kind (a dict with None among its keys); dicts by comprehension -/
namespace GL
open PySem PySem.Spec PyProof.Rows L2
section
variable {K : PySem.W.Frag} {C : Cb} {M M' M1 H H' H1 : Hp} {σ : L2.St} {ρ : En}
theorem Ev.setOb (e : Ev K C M H σ ρ) {a : Addr} {Φ : Hp → Addr → Prop} (mono : ∀ M M' a, Same M M' → Φ M a → Φ M' a) (h : Φ M a) (i : Nat) : Ev K C M H (σ.set i (some (.ref a))) (ρ.set i (some (.ob Φ mono))) where
  len := by rw [List.length_set, List.length_set, e.len]
  vis := e.vis
  bag := e.bag
  bg0 := e.bg0
  fr := e.fr
  sm := e.sm
  hid := e.hid
  live := e.live
  sl := fun j x hx => by
    by_cases z : i = j
    · subst z
      rw [List.getElem?_set] at hx ⊢
      rw [if_pos rfl] at hx ⊢
      rw [← e.len]
      by_cases l : i < ρ.length
      · rw [if_pos l] at hx ⊢
        cases hx
        exact ⟨_, rfl, a, rfl, h⟩
      · rw [if_neg l] at hx
        cases hx
    · rw [List.getElem?_set_ne z] at hx ⊢
      exact e.sl j x hx
  apart := fun j k x y p n h1 o1 h2 o2 h3 h4 => by
    have nj : i ≠ j := fun z => by
      subst z
      rw [List.getElem?_set, if_pos rfl] at h1
      split at h1 <;> cases h1 <;> cases o1
    have nk : i ≠ k := fun z => by
      subst z
      rw [List.getElem?_set, if_pos rfl] at h2
      split at h2 <;> cases h2 <;> cases o2
    rw [List.getElem?_set_ne nj] at h1 h3
    rw [List.getElem?_set_ne nk] at h2 h4
    exact e.apart j k x y p n h1 o1 h2 o2 h3 h4
end
/-- the promise of a def that gives such a thing -/
def spO (K : PySem.W.Frag) (w : List DV → ((Hp → Addr → Prop) → Prop) → Prop) : Sp := fun vs H Q _ => ∃ bg M ds P, Same M H ∧ BagOk bg M H ∧ Axs K bg M vs ds ∧ w ds P ∧ ∀ a Φ M' H', P Φ → Stp bg M H M' H' → Φ M' a → Q (.ref a) H'
theorem spO_len {K : PySem.W.Frag} {w : List DV → ((Hp → Addr → Prop) → Prop) → Prop} {n : Nat} (h : ∀ ds P, w ds P → ds.length = n) {vs : List V} {H : Hp} {Q : VK} {E : XK} (s : spO K w vs H Q E) : vs.length = n := by
  obtain ⟨bg, M, ds, P, _, _, a, hw, _⟩ := s
  rw [a.length]
  exact h _ _ hw
theorem rs_setOb {K : PySem.W.Frag} {w : List DV → ((Hp → Addr → Prop) → Prop) → Prop} {wr : En → (List DV → Prop) → Prop} {E : XK} {t : TA} (i : Nat) (ha : RA K t wr) :
    RS K (tAsg (tCall (spO K w) [] E t) (gName i)) (fun N ρ => wr ρ fun ds => w ds fun Φ => ∃ mono, N.nx (ρ.set i (some (.ob Φ mono)))) := by
  intro C M H σ ρ N D e hw q1 q2 q3 q4
  refine ha C M H σ ρ _ _ e hw fun vs ds M1 H1 p1 s1 d1 => ?_
  rw [List.append_nil]
  refine ⟨C.bg, M1, ds, _, s1.vis, s1.bag e.bag, d1, p1, fun a Φ M' H' p s hd => ?_⟩
  obtain ⟨mono, p⟩ := p
  exact q1 _ M' H' _ p (s1.sm.trans s.sm) (((e.step s1).step s).setOb mono hd i)
/-! ### a dict with None among its keys -/
def kO : Option Str → Option Key := Option.map Sum.inr
def fnΦ (P : Program) (w : World) (K : PySem.W.Frag) (kvs : List (Option Str × PyData)) : Hp → Addr → Prop := fun M a => ∃ ks : List (Option Key × V), M a = some (NDO P w a ks) ∧ ks.map (·.1) = kvs.map (fun e => kO e.1) ∧ DuAll K M (ks.map (·.2)) (kvs.map (·.2))
theorem fn_mono (P : Program) (w : World) (K : PySem.W.Frag) (kvs : List (Option Str × PyData)) (M M' : Hp) (a : Addr) (k : Same M M') (h : fnΦ P w K kvs M a) : fnΦ P w K kvs M' a := by
  obtain ⟨ks, h1, h2, h3⟩ := h
  exact ⟨ks, k _ _ h1, h2, duA_same k _ _ h3⟩
abbrev fnOb (P : Program) (w : World) (K : PySem.W.Frag) (kvs : List (Option Str × PyData)) : DV := .ob (fnΦ P w K kvs) (fn_mono P w K kvs)
def keyO : PyData → Option (Option Str)
  | .none => some none
  | .str x => some (some x)
  | _ => none
theorem fn_look {K : PySem.W.Frag} {M : Hp} : ∀ {ks : List (Option Key × V)} {kvs : List (Option Str × PyData)} {x : Option Str} {d : PyData}, ks.map (·.1) = kvs.map (fun e => kO e.1) → DuAll K M (ks.map (·.2)) (kvs.map (·.2)) → kvs.lookup x = some d → ∃ v, valV ks (kO x) = some v ∧ Du K M v d
  | [], kvs, x, d, h1, h2, e => by
    cases kvs with
    | nil => cases e
    | cons a kvs => cases h1
  | (k, v) :: ks, kvs, x, d, h1, h2, e => by
    cases kvs with
    | nil => cases e
    | cons a kvs =>
      obtain ⟨y, dd⟩ := a
      rw [List.map_cons, List.map_cons] at h1 h2
      injection h1 with e1 e2
      cases h2 with
      | cons hd tl =>
        have e1 : k = kO y := e1
        subst e1
        by_cases c : y = x
        · subst c
          rw [List.lookup_cons_self] at e
          cases e
          exact ⟨v, valV_pos rfl, hd⟩
        · have hb : (x == y) = false := beq_eq_false_iff_ne.mpr fun w => c w.symm
          rw [List.lookup_cons, hb] at e
          obtain ⟨u, hu, du⟩ := fn_look e2 tl e
          refine ⟨u, ?_, du⟩
          rw [valV_neg (fun w => c ?_)]
          · exact hu
          · cases y <;> cases x <;> first | rfl | (cases w; done) | (cases w; rfl)
theorem re_dgetN {K : PySem.W.Frag} {P : Program} {w : World} {ty : TE} {wy : W} (i : Nat) (hy : RE K ty wy) :
    RE K (tDGetN P w (tVar i) ty) (fun ρ Z => ∃ kvs, ρ[i]? = some (some (fnOb P w K kvs)) ∧ wy ρ fun k => ∃ o, keyO k = some o ∧ ∃ d, kvs.lookup o = some d ∧ Z d) := by
  rintro C M H σ ρ Z Q e ⟨kvs, hi, hw⟩ q
  obtain ⟨v, hv, a, rfl, ks, h1, h2, h3⟩ := e.sl i _ hi
  refine ⟨_, hv, hy C M H σ ρ _ _ e hw fun u k M2 H2 p2 s2 d2 => ?_⟩
  obtain ⟨o, ho, d, hd, p2⟩ := p2
  obtain ⟨x, hx, du⟩ := fn_look h2 h3 hd
  refine ⟨a, ks, kO o, x, rfl, s2.vis _ _ (s2.sm _ _ h1), ?_, hx, q x d M2 H2 p2 s2 (du_same s2.sm _ _ du)⟩
  cases k with
  | none =>
    cases ho
    cases d2
    rfl
  | str z =>
    cases ho
    cases d2
    rfl
  | _ => cases ho
/-! ### dicts by comprehension, one's own -/
structure WDcI (wg : PyData → En → (En → Prop) → Prop) (wt : En → (Bool → Prop) → Prop) (wk we : W) (vs : List Nat) (ρ : En) (P : List (Str × PyData) → Prop) (ds : List PyData) : Prop where
  go : ds.length ≤ 1000 ∧ ∃ I : Nat → List (Str × PyData) → Prop, I 0 [] ∧
    (∀ i d acc, ds[i]? = some d → I i acc → wg d (wipeD ρ vs) fun ρ' => wt ρ' fun b => if b = true then wk ρ' fun k => asS k fun x => we ρ' fun y => I (i + 1) (putS acc x y) else I (i + 1) acc) ∧ ∀ acc, I ds.length acc → P acc
structure WDc (wwi : En → (List PyData → Prop) → Prop) (wg : PyData → En → (En → Prop) → Prop) (wt : En → (Bool → Prop) → Prop) (wk we : W) (vs : List Nat) (ρ : En) (P : List (Str × PyData) → Prop) : Prop where
  go : wwi ρ fun ds => WDcI wg wt wk we vs ρ P ds
theorem putS_len (kvs : List (Str × PyData)) (x : Str) (d : PyData) : (putS kvs x d).length ≤ kvs.length + 1 := by
  unfold putS
  split
  · rw [List.length_map]; omega
  · rw [List.length_append, List.length_singleton]; omega
theorem DuKs.len {K : PySem.W.Frag} {M : Hp} {ks : List (Key × V)} {kvs : List (Str × PyData)} (h : DuKs K M ks kvs) : ks.length = kvs.length := by
  have := congrArg List.length h.1
  rwa [List.length_map, List.length_map] at this
/-- a walk that fills a dict -/
theorem dc_it {J : It} {n : Nat} {G : Hp → Prop} {Y : Nat → Hp → V → Hp → Prop} (wlk : Walk J n G Y) {g : TG} {tt : TT} {tk tv : TE} {own : List Nat} {σ : L2.St} {H1 : Hp} {D : Addr} {Qd : Hp → Prop} (T : Nat → Hp → Prop)
    (t0 : T 0 (upd H1 D (.dK []))) (tG : ∀ k Hx, k ≤ n → T k Hx → G Hx)
    (ts : ∀ k x Hx Hy, k < n → T k Hx → Y k Hx x Hy → g x (wipe σ own) Hy (fun σ2 H2 => wipe σ2 own = wipe σ own ∧ tt σ2 H2 (fun b H3 => if b = true then tk σ2 H3 (fun y H4 => tv σ2 H4 (fun z H5 => ∃ kvs c, y = kV c ∧ H5 D = some (.dK kvs) ∧ kvs.length < sizeLine ∧ T (k + 1) (upd H5 D (.dK (putK kvs c z))))) else T (k + 1) H3)))
    (te : ∀ Hx, T n Hx → Qd Hx) :
    ∃ U : Nat → Nat → Hp → Prop, (∃ m, U 0 m (upd H1 D (.dK []))) ∧ ∀ k m Hx, U k m Hx → (J.stop k Hx ∧ Qd Hx) ∨ (J.go k Hx ∧ ∃ F : Hp → Prop, (∀ Hy, F Hy → ∃ m', m' < m ∧ U (k + 1) m' Hy) ∧
      ∀ x Hy, J.yld k Hx x Hy → g x (wipe σ own) Hy (fun σ2 H2 => wipe σ2 own = wipe σ own ∧ tt σ2 H2 (fun b H3 => if b = true then tk σ2 H3 (fun y H4 => tv σ2 H4 (fun z H5 => ∃ kvs c, y = kV c ∧ H5 D = some (.dK kvs) ∧ kvs.length < sizeLine ∧ F (upd H5 D (.dK (putK kvs c z))))) else F H3))) := by
  refine ⟨fun k m Hx => m = n - k ∧ k ≤ n ∧ T k Hx, ⟨n, rfl, Nat.zero_le _, t0⟩, ?_⟩
  rintro k m Hx ⟨rfl, hk, hT⟩
  have gg := tG k Hx hk hT
  rcases Nat.lt_or_ge k n with lt | ge
  · exact .inr ⟨wlk.goes k Hx lt gg, T (k + 1), (fun Hy h => ⟨n - (k + 1), by omega, rfl, lt, h⟩), fun x Hy y => ts k x Hx Hy lt hT (wlk.yields k Hx x Hy lt gg y)⟩
  · have e : k = n := Nat.le_antisymm hk ge
    subst e
    exact .inl ⟨wlk.stops Hx gg, te Hx hT⟩
theorem dc_core' {K : PySem.W.Frag} {wi : L2.TI} {g : TG} {tt : TT} {tk te : TE} {vs : List Nat} {S : List Nat} {wwi : En → (List PyData → Prop) → Prop} {wg : PyData → En → (En → Prop) → Prop} {wt : En → (Bool → Prop) → Prop} {wk we : W}
    (hi : RI K wi wwi) (hg : RG K g S wg) (hS : ∀ i ∈ S, i ∈ vs) (ht : RT K tt wt) (hk : RE K tk wk) (he : RE K te we) {C : Cb} {M H : Hp} {σ : L2.St} {ρ : En} {P : List (Str × PyData) → Prop} {Q : VK} (e : Ev K C M H σ ρ) (hw : WDc wwi wg wt wk we vs ρ P)
    (q : ∀ (D : Addr) xs ds M' H', P ds → Stp C.bg M H M' H' → H D = none → M' D = none → H' D = some (.dK xs) → DuKs K M' xs ds → Q (.ref D) H') : tDc wi g tt tk te vs σ H Q := by
  refine (ri_up hi) C M H σ ρ _ _ e ⟨_, fun ds z => z.go, hw.go⟩ ?_
  rintro ds J M1 H1 ⟨hl, I, I0, IS, IE⟩ s1 ⟨G, Y, wlk, hG, hY⟩ D nD
  have e1 := e.step s1
  have nM : M1 D = none := none_of_vis s1.vis nD
  have nb : ∀ c, C.bg ≠ some (D, c) := fun c z => by
    obtain ⟨g1, _⟩ := e1.bag D c z
    obtain ⟨_, e2⟩ := g1.lst
    rw [nD] at e2
    cases e2
  let T : Nat → Hp → Prop := fun i Hx => ∃ Mx xs acc, I i acc ∧ acc.length ≤ i ∧ Stp C.bg M1 H1 Mx Hx ∧ Mx D = none ∧ Hx D = some (.dK xs) ∧ DuKs K Mx xs acc
  refine dc_it wlk T ?_ ?_ ?_ ?_
  · exact ⟨M1, [], [], I0, Nat.le_refl _, Stp.hidden s1.vis nD _, nM, upd_same, rfl, .nil, List.nodup_nil⟩
  · rintro i Hx _ ⟨Mx, xs, acc, _, _, sx, _⟩
    exact hG Mx Hx sx.sm sx.vis
  · rintro i x Hx Hy hi' ⟨Mx, xs, acc, ia, la, sx, mD, hD, ha⟩ y
    obtain ⟨My, d, sy, hd, hu⟩ := hY i Mx Hx x Hy hi' sx.sm sx.vis y
    have s2 := sx.trans (sy C.bg)
    have mD2 : My D = none := (sy C.bg).hid D mD (by rw [hD]; exact fun z => nomatch z)
    have hD2 := (sy C.bg).fr D _ nb hD
    have ha2 := ha.same (sy C.bg).sm
    have e2 := (e1.step s2).wipe vs
    refine hg C My Hy _ _ x d _ _ e2 hu (IS i d acc hd ia) fun σ' ρ' p' e' w' => ⟨?_, ?_⟩
    · rw [w' vs hS, wipe_wipe]
    · refine ht C My Hy σ' ρ' _ _ e' p' fun b M3 H3 p3 s3 => ?_
      have s13 := s2.trans s3
      have mD3 := s3.hid D mD2 (by rw [hD2]; exact fun z => nomatch z)
      have hD3 := s3.fr D _ nb hD2
      have ha3 := ha2.same s3.sm
      cases b with
      | false => exact ⟨M3, xs, acc, p3, by omega, s13, mD3, hD3, ha3⟩
      | true =>
        refine hk C M3 H3 σ' ρ' _ _ (e'.step s3) p3 fun yk kd M4 H4 p4 s4 dk4 => ?_
        obtain ⟨sx4, rfl, p4⟩ := asS_of p4
        cases dk4
        have mD4 := s4.hid D mD3 (by rw [hD3]; exact fun z => nomatch z)
        have hD4 := s4.fr D _ nb hD3
        have ha4 := ha3.same s4.sm
        refine he C M4 H4 σ' ρ' _ _ ((e'.step s3).step s4) p4 fun yv d5 M5 H5 p5 s5 hd5 => ?_
        have mD5 := s5.hid D mD4 (by rw [hD4]; exact fun z => nomatch z)
        have hD5 := s5.fr D _ nb hD4
        have ha5 := ha4.same s5.sm
        have ll := ha5.len
        have pl := putS_len acc sx4 d5
        have hil : i < 1000 := Nat.lt_of_lt_of_le hi' hl
        refine ⟨xs, .inr sx4, rfl, hD5, small1000 (by omega), M5, putK xs (.inr sx4) yv, putS acc sx4 d5, p5, by omega, Stp.poke ((s13.trans s4).trans s5) e1.bag nD mD5 _, mD5, upd_same, duks_put ha5 hd5⟩
  · rintro Hx ⟨Mx, xs, acc, ia, la, sx, mD, hD, ha⟩
    have nDH : H D = none := by
      cases z : H D with
      | none => rfl
      | some o => exact absurd nD (s1.live D (by rw [z]; exact fun z => nomatch z))
    exact q D xs acc Mx Hx (IE acc ia) (s1.trans sx) nDH mD hD ha
theorem rs_ownDc {K : PySem.W.Frag} (i : Nat) {wi : L2.TI} {g : TG} {tt : TT} {tk te : TE} {vs : List Nat} {S : List Nat} {wwi : En → (List PyData → Prop) → Prop} {wg : PyData → En → (En → Prop) → Prop} {wt : En → (Bool → Prop) → Prop} {wk we : W}
    (hi : RI K wi wwi) (hg : RG K g S wg) (hS : ∀ i ∈ S, i ∈ vs) (ht : RT K tt wt) (hk : RE K tk wk) (he : RE K te we) : RS K (tAsg (tDc wi g tt tk te vs) (gName i)) (fun N ρ => WDc wwi wg wt wk we vs ρ fun ds => N.nx (ρ.set i (some (.od ds)))) := by
  intro C M H σ ρ N D e hw q1 q2 q3 q4
  refine dc_core' hi hg hS ht hk he e hw fun p xs ds M' H' p' s np mp hp ha => ?_
  exact q1 _ M' H' _ p' s.sm (e.ownG (x := .od ds) np s ⟨p, xs, rfl, mp, hp, e.off np, ha⟩ i)
/-- d[None] = e; return d -/
theorem forest_use {K : PySem.W.Frag} {P : Program} {w : World} {tA : TS} {wA : Nd → En → Prop} {tv : TE} {wv : W} (RA : RS K tA wA) (Rv : RE K tv wv) {N : List Str} {vs : List V} {H : Hp} {Q : VK} {bg : Bg} {M : Hp} {ds : List DV} {Z : (Hp → Addr → Prop) → Prop} (k : Same M H) (g : BagOk bg M H) (a : Axs K bg M vs ds)
    (q : ∀ a Φ M' H', Z Φ → Stp bg M H M' H' → Φ M' a → Q (.ref a) H') (i : Nat)
    (hw : wA ⟨fun ρ => wv ρ fun d => ∃ kvs : List (Str × PyData), ρ[i]? = some (some (.od kvs)) ∧ kvs.length < 1000 ∧ Z (fnΦ P w K (kvs.map (fun e => (some e.1, e.2)) ++ [(none, d)])), fun _ => False, fun _ => False, fun _ => False⟩ (startD N.length ds)) :
    tSeq tA (tSeq (sDPutN P w (tVar i) tv) (tRet (tVar i))) { nx := fun _ H' => Q .non H', rt := Q } (L2.start N vs) H := by
  refine RA ⟨bg, M, H⟩ M H _ _ _ _ (ev_start k g a) hw (fun ρ1 M1 H1 σ1 p1 k1 e1 => ?_) (fun _ _ _ _ z => z.elim) (fun _ _ _ _ z => z.elim) (fun _ _ _ _ z => z.elim)
  refine Rv _ M1 H1 σ1 ρ1 _ _ e1 p1 fun v d M2 H2 p2 s2 d2 => ?_
  obtain ⟨kvs, hi, hl, p2⟩ := p2
  have e2 := e1.step s2
  obtain ⟨u, hu, p, ks, rfl, hm, hp, h0, hks⟩ := e2.sl i _ hi
  have ll := hks.len
  refine ⟨_, hu, p, ks, rfl, hp, small1000 (by omega), _, hu, ?_⟩
  have np : ∀ b o, M2 b = some o → b ≠ p := fun b o h z => by rw [z, hm] at h; cases h
  have n0 : ∀ b, H b ≠ none → b ≠ p := fun b h z => h (by rw [z]; exact h0)
  have fin := e2.fin
  have sm : Same M2 (upd M2 p (NDO P w p (nkv ks v))) := fun b o h => by rw [upd_ne (np b o h)]; exact h
  refine q p _ (upd M2 p (NDO P w p (nkv ks v))) _ p2 ⟨fin.sm.trans sm, fun b o h => ?_, fun b o nb h => ?_, fun b h1 h2 => ?_, fun gb b c hb => ?_, fun b h => ?_⟩ ?_
  · by_cases z : b = p
    · rw [z, upd_same] at h ⊢
      exact h
    · rw [upd_ne z] at h ⊢
      exact e2.vis _ _ h
  · rw [upd_ne (n0 b (by rw [h]; exact fun z => nomatch z))]
    exact fin.fr b o nb h
  · rw [upd_ne (n0 b h2)]
    exact fin.hid b h1 h2
  · obtain ⟨h1, h2⟩ := fin.bag gb b c hb
    obtain ⟨g1, g2⟩ := e2.bg0 b c hb
    refine ⟨h1.other (n0 b g1).symm (n0 c g2).symm, ?_⟩
    rw [upd_ne (n0 b g1)]
    exact h2
  · rw [upd_ne (n0 b h)]
    exact fin.live b h
  · refine ⟨nkv ks v, upd_same, ?_, ?_⟩
    · unfold nkv
      rw [List.map_append, List.map_append, List.map_map, List.map_map]
      refine congrArg (· ++ _) ?_
      have := hks.1
      have e3 : ks.map ((fun x : Option Key × V => x.1) ∘ fun e => (some e.1, e.2)) = (ks.map (·.1)).map some := by rw [List.map_map]; rfl
      rw [e3, this, List.map_map]
      rfl
    · unfold nkv
      rw [List.map_append, List.map_append, List.map_map, List.map_map]
      exact (duA_same sm _ _ hks.2.1).append (.cons (du_same sm _ _ d2) .nil)
/-! ### zip of any two -/
theorem sqv_same {K : PySem.W.Frag} {b : Bool} {H H' : Hp} {a : Addr} {xs : List V} (k : Same H H') (h : ZZ.SqV K b H a xs) : ZZ.SqV K b H' a xs := by
  cases b
  · exact TupK.same k _ _ _ h
  · rcases h with h | h
    · rcases h with h | ⟨o, h⟩
      · exact .inl (.inl (k _ _ h))
      · exact .inl (.inr ⟨o, k _ _ h⟩)
    · exact .inr h
theorem du_sqv {K : PySem.W.Frag} {M : Hp} {v : V} {d : PyData} {ds : List PyData} (h : Du K M v d) (e : itemsD d = some ds) : ∃ b a vs, v = .ref a ∧ ZZ.SqV K b M a vs ∧ DuAll K M vs ds := by
  cases h with
  | @lst a xs _ h1 h2 =>
    cases e
    exact ⟨true, a, xs, rfl, SqL.of h1, h2⟩
  | @tup a xs _ h1 h2 _ =>
    cases e
    exact ⟨false, a, xs, rfl, h1, h2⟩
  | _ => cases e
theorem walk_zz {K : PySem.W.Frag} {b1 b2 : Bool} {a b : Addr} {xs ys : List V} {n : Nat} (hn : n = min xs.length ys.length) : Walk (ZZ.ItZ K b1 b2 a b) n (fun H => ZZ.SqV K b1 H a xs ∧ ZZ.SqV K b2 H b ys)
    (fun i H v H' => ∃ (t : Addr) (ob : Obj) (x y : V), v = .ref t ∧ H t = none ∧ ob.dict = none ∧ H' = upd H t (.frz ob (.tup [x, y])) ∧ xs[i]? = some x ∧ ys[i]? = some y) := by
  refine ⟨fun i H hi q => ⟨xs, ys, xs[i]'(by omega), ys[i]'(by omega), q.1, q.2, by simp, by simp⟩, fun H q => ⟨xs, ys, q.1, q.2, by omega⟩, ?_⟩
  rintro i H v H' _ q ⟨t, ob, x, y, h1, h2, h3, h4, h5, h6⟩
  exact ⟨t, ob, x, y, h1, h2, h3, h4, h5 xs q.1, h6 ys q.2⟩
theorem ri_zZ {K : PySem.W.Frag} {ta : TA} {wa : En → (List PyData → Prop) → Prop} (ha : RD K ta wa) : RI K (ZZ.iZipZ K ta) (fun ρ P => wa ρ fun ds => as2 ds fun a b => asQ a fun es => asQ b fun fs => P (zipD es fs)) := by
  intro C M H σ ρ P R e hw q
  refine ha C M H σ ρ _ _ e hw fun vs ds M1 H1 p s hd => ?_
  obtain ⟨d1, d2, rfl, p1⟩ := as2_of p
  obtain ⟨es, e1, p2⟩ := asQ_of p1
  obtain ⟨fs, e2, p3⟩ := asQ_of p2
  cases hd with
  | cons h t =>
    cases t with
    | cons h2 t =>
      cases t
      obtain ⟨b1, a, xs, rfl, hs, hx⟩ := du_sqv h e1
      obtain ⟨b2, b, ys, rfl, gs, hy⟩ := du_sqv h2 e2
      refine ⟨b1, b2, a, b, xs, ys, rfl, sqv_same s.vis hs, sqv_same s.vis gs, q _ _ M1 H1 p3 s ⟨fun H => ZZ.SqV K b1 H a xs ∧ ZZ.SqV K b2 H b ys, _, walk_zz (by unfold zipD; rw [List.length_zipWith, hx.length, hy.length]), fun M' H' k1 k2 => ⟨sqv_same k2 (sqv_same k1 hs), sqv_same k2 (sqv_same k1 gs)⟩, ?_⟩⟩
      rintro i M' H' x H'' _ k1 k2 ⟨T, ob, v, u, rfl, hT, hob, rfl, hv, hu⟩
      obtain ⟨d, hd, hv'⟩ := hx.get' hv
      obtain ⟨d2, hd2, hu'⟩ := hy.get' hu
      have st : ∀ bg, Stp bg M' H' (upd M' T (.frz ob (.tup [v, u]))) (upd H' T (.frz ob (.tup [v, u]))) := fun bg => Stp.new k2 hT _
      have sm := (st none).sm
      refine ⟨_, .tuple [d, d2], st, ?_, .tup (sqF upd_same) (.cons (du_same (k1.trans sm) _ _ hv') (.cons (du_same (k1.trans sm) _ _ hu') .nil)) fun _ => ⟨ob, _, upd_same, hob⟩⟩
      unfold zipD
      rw [List.getElem?_zipWith, hd, hd2]
end GL

namespace LW
open PySem PySem.Spec PyProof.Rows L2 GL
/-! nests of whole numbers -/
mutual
def niB : PyData → Bool
  | .none => true
  | .int i => decide (i.natAbs ≤ 1100)
  | .tuple ds => decide (ds.length ≤ 7) && niA ds
  | _ => false
def niA : List PyData → Bool
  | [] => true
  | d :: ds => niB d && niA ds
end
theorem niA_mem : ∀ {ds : List PyData}, niA ds = true → ∀ d ∈ ds, niB d = true
  | _ :: _, h, d, hd => by
    rw [niA, Bool.and_eq_true] at h
    rcases List.mem_cons.mp hd with rfl | hd
    · exact h.1
    · exact niA_mem h.2 d hd
theorem niA_of : ∀ {ds : List PyData}, (∀ d ∈ ds, niB d = true) → niA ds = true
  | [], _ => by rw [niA]
  | d :: ds, h => by rw [niA, h d List.mem_cons_self, niA_of fun e he => h e (List.mem_cons_of_mem _ he)]; rfl
structure NE (d : PyData) : Prop where
  sh : d.showable = true
  sm : d.leavesShort 60 = true
  ln : LN d = true
  hd : d.hasDict = false
  cl : d.canLay0 = true
  nl : nlZ d = true
structure NEs (ds : List PyData) : Prop where
  sh : PyData.showableAll ds = true
  sm : PyData.leavesShortAll 60 ds = true
  ln : LNs ds = true
  hd : PyData.hasDictAll ds = false
  cl : PyData.canLayAll0 ds = true
  nl : nlZs ds = true
mutual
theorem ni_e : ∀ d : PyData, niB d = true → NE d
  | .none, _ => ⟨by simp [PyData.showable], by simp [PyData.leavesShort], by simp [LN], by simp [PyData.hasDict], by simp [PyData.canLay0], by simp [nlZ]⟩
  | .int i, h => by
    rw [niB, decide_eq_true_eq] at h
    have l2 : i.natAbs.log2 < 11 := by
      by_cases z : i.natAbs = 0
      · rw [z]; decide
      · exact (Nat.log2_lt z).mpr (by omega)
    refine ⟨?_, ?_, by simp [LN], by simp [PyData.hasDict], by simp [PyData.canLay0], by simp [nlZ]⟩
    · simp only [PyData.showable, decide_eq_true_eq]
      omega
    · simp only [PyData.leavesShort, decide_eq_true_eq]
      exact Nat.le_trans (PyData.shown_int_le (by omega)) (by decide)
  | .tuple ds, h => by
    rw [niB, Bool.and_eq_true, decide_eq_true_eq] at h
    have a := ni_es ds h.2
    have l : ds.length ≤ 20 := by omega
    exact ⟨by simp [PyData.showable, a.sh], by simp [PyData.leavesShort, a.sm], by simp [LN, l, a.ln], by simp [PyData.hasDict, a.hd], by simp [PyData.canLay0, a.cl], by simp [nlZ, a.nl]⟩
theorem ni_es : ∀ ds : List PyData, niA ds = true → NEs ds
  | [], _ => ⟨by simp [PyData.showableAll], by simp [PyData.leavesShortAll], by simp [LNs], by simp [PyData.hasDictAll], by simp [PyData.canLayAll0], by simp [nlZs]⟩
  | d :: ds, h => by
    rw [niA, Bool.and_eq_true] at h
    have a := ni_e d h.1
    have b := ni_es ds h.2
    exact ⟨by simp [PyData.showableAll, a.sh, b.sh], by simp [PyData.leavesShortAll, a.sm, b.sm], by simp [LNs, a.ln, b.ln], by simp [PyData.hasDictAll, a.hd, b.hd], by simp [PyData.canLayAll0, a.cl, b.cl], by simp [nlZs, a.nl, b.nl]⟩
end
theorem ni_av {d : PyData} {w dp : Nat} (h : niB d = true) (hw : d.weight ≤ w) (hd : d.depth ≤ dp) : AV w dp d := by
  have a := ni_e d h
  exact ⟨⟨a.sh, a.sm, hd, hw, a.ln⟩, .inl ⟨a.hd, a.cl⟩⟩
theorem wA_app : ∀ a b : List PyData, PyData.weightAll (a ++ b) = PyData.weightAll a + PyData.weightAll b
  | [], b => by simp [PyData.weightAll]
  | d :: a, b => by rw [List.cons_append, PyData.weightAll, PyData.weightAll, wA_app a b]; omega
theorem dA_le {ds : List PyData} {k : Nat} : PyData.depthAll ds ≤ k ↔ ∀ d ∈ ds, d.depth ≤ k := by
  induction ds with
  | nil => simp [PyData.depthAll]
  | cons d ds ih =>
    rw [PyData.depthAll, Nat.max_le, ih]
    simp
theorem dep_tup (ds : List PyData) : (PyData.tuple ds).depth = PyData.depthAll ds + 1 := by simp only [PyData.depth]; try omega
theorem wt_tup (ds : List PyData) : (PyData.tuple ds).weight = PyData.weightAll ds := by simp only [PyData.weight]
theorem wA_cons (d : PyData) (ds : List PyData) : PyData.weightAll (d :: ds) = d.weight + 1 + PyData.weightAll ds := by simp only [PyData.weightAll]; try omega
/-- the size of a list whose items are of some size -/
theorem wA_le {w : Nat} : ∀ {ds : List PyData}, (∀ d ∈ ds, d.weight ≤ w) → PyData.weightAll ds ≤ ds.length * (w + 1)
  | [], _ => by simp [PyData.weightAll]
  | d :: ds, h => by
    rw [wA_cons, List.length_cons, Nat.succ_mul]
    have := h d List.mem_cons_self
    have := wA_le fun e he => h e (List.mem_cons_of_mem _ he)
    omega
theorem split_at {α : Type} {l : List α} {k : Nat} (h : k < l.length) : l = l.take k ++ [l[k]] ++ l.drop (k + 1) := by
  rw [List.append_assoc, List.singleton_append, ← List.drop_eq_getElem_cons h, List.take_append_drop]
/-- a nest with one item otherwise -/
theorem av_repl {es : List PyData} {k m w : Nat} {o : PyData} (hn : niB (.tuple es) = true) (hd : (PyData.tuple es).depth ≤ m) (hw : (PyData.tuple es).weight ≤ w) (hk : k < es.length) (ho : AV (2 * es[k].weight + 400) (m + 3) o) :
    AV (2 * w + 400) (m + 4) (.tuple (es.take k ++ [o] ++ es.drop (k + 1))) := by
  have hs := split_at hk
  rw [niB, Bool.and_eq_true, decide_eq_true_eq] at hn
  have mem := niA_mem hn.2
  have all : ∀ e ∈ es.take k ++ es.drop (k + 1), e ∈ es := fun e he => (List.mem_append.mp he).elim List.mem_of_mem_take List.mem_of_mem_drop
  have item : ∀ e ∈ es.take k ++ [o] ++ es.drop (k + 1), e ∈ es ∨ e = o := fun e he => by
    rcases List.mem_append.mp he with h | h
    · rcases List.mem_append.mp h with h | h
      · exact .inl (List.mem_of_mem_take h)
      · exact .inr (List.mem_singleton.mp h)
    · exact .inl (List.mem_of_mem_drop h)
  have len : (es.take k ++ [o] ++ es.drop (k + 1)).length ≤ 7 := by
    rw [List.length_append, List.length_append, List.length_take, List.length_drop, List.length_singleton]
    omega
  have ed : ∀ e ∈ es, e.depth ≤ m := fun e he => by
    rw [dep_tup] at hd
    have := dA_le.mp (Nat.le_refl _) e he
    omega
  have E1 : ∀ e ∈ es.take k ++ [o] ++ es.drop (k + 1), e.showable = true ∧ e.leavesShort 60 = true ∧ LN e = true ∧ e.depth ≤ m + 3 := fun e he => by
    rcases item e he with h | rfl
    · have a := ni_e e (mem e h)
      have := ed e h
      exact ⟨a.sh, a.sm, a.ln, by omega⟩
    · exact ⟨ho.1.sh, ho.1.sm, ho.1.ln, ho.1.dep⟩
  have S : ∀ ds : List PyData, (∀ e ∈ ds, e.showable = true ∧ e.leavesShort 60 = true ∧ LN e = true ∧ e.depth ≤ m + 3) → PyData.showableAll ds = true ∧ PyData.leavesShortAll 60 ds = true ∧ LNs ds = true := fun ds => by
    induction ds with
    | nil => intro _; exact ⟨by simp [PyData.showableAll], by simp [PyData.leavesShortAll], by simp [LNs]⟩
    | cons d ds ih =>
      intro h
      obtain ⟨a, b, c⟩ := ih fun e he => h e (List.mem_cons_of_mem _ he)
      obtain ⟨a1, b1, c1, _⟩ := h d List.mem_cons_self
      exact ⟨by simp [PyData.showableAll, a, a1], by simp [PyData.leavesShortAll, b, b1], by simp [LNs, c, c1]⟩
  obtain ⟨a, b, c⟩ := S _ E1
  refine ⟨⟨by simp only [PyData.showable]; exact a, by simp only [PyData.leavesShort]; exact b, ?_, ?_, ?_⟩, ?_⟩
  · rw [dep_tup]
    have : PyData.depthAll (es.take k ++ [o] ++ es.drop (k + 1)) ≤ m + 3 := dA_le.mpr fun e he => (E1 e he).2.2.2
    omega
  · rw [wt_tup] at hw ⊢
    have e1 : PyData.weightAll es = PyData.weightAll (es.take k) + (es[k].weight + 1) + PyData.weightAll (es.drop (k + 1)) := by
      have := congrArg PyData.weightAll hs
      rw [wA_app, wA_app, wA_cons] at this
      simp only [PyData.weightAll] at this
      omega
    have e2 := ho.1.wt
    rw [wA_app, wA_app, wA_cons]
    simp only [PyData.weightAll]
    omega
  · have : (es.take k ++ [o] ++ es.drop (k + 1)).length ≤ 20 := by omega
    rw [LN, c, Bool.and_true, decide_eq_true_eq]
    exact this
  · rcases ho.2 with z | z
    · refine .inl (?_ : clA _)
      obtain ⟨h1, h2⟩ := clA_all (ds := es.take k ++ [o] ++ es.drop (k + 1)) fun e he => by
        rcases item e he with h | rfl
        · have a := ni_e e (mem e h)
          exact ⟨a.hd, a.cl⟩
        · exact z
      exact ⟨by simp only [PyData.hasDict]; exact h1, by simp only [PyData.canLay0]; exact h2⟩
    · refine .inr (?_ : clB _)
      have h1 := clB_all (ds := es.take k ++ [o] ++ es.drop (k + 1)) fun e he => by
        rcases item e he with h | rfl
        · exact (ni_e e (mem e h)).nl
        · exact z
      show nlZ _ = true
      rw [nlZ]
      exact h1
end LW

namespace LW
open PySem PySem.Spec PyProof.Rows L2 GL
theorem str_sm2 : ∀ n : Nat, n ≤ 2200 → avB (.str (toString ((n : Int) - 1100))) = true := by decide +kernel
end LW

/-! x = {k: v for .. in ..} -/
namespace GL
open PySem PySem.Spec PyProof.Rows L2
theorem swD {ke ve : Expr} {gens : List Comprehension} {sc : Scope} {at1 at2 : Pos} {z : Str} {ln : Nat} {en : Env} (f : en.scope.kind = .function) (lc : en.scope.names.lookup z = some .local) (same : (at2.line == at1.line) = true)
    (no : (sc.names.any fun (n, k) => n == z && (k == .local || k == .cell)) = false) : swapsWith (.DictComp ke ve gens sc at1) (some (.Name z at2)) ln en = pure true := by
  have kz : en.kindOf z = some .local := lc
  have bk : en.blockKind = .function := by
    unfold Env.blockKind
    rw [f]
    rfl
  unfold swapsWith
  simp only [kz, bk, same, no, Expr.pos]
  rfl
section
variable {X : Cx}
theorem ps_setDc {i : Nat} {z : Str} {at2 at1 at0 : Pos} {kx vx tg iter : Expr} {ifs : List Expr} {sc : Scope} {own : List (Str × Nat)} {wi : L2.TI} {g : TG} {tt : TT} {tk tv : TE} (calm : X.calm = true) (nd : X.N.Nodup) (hz : X.N[i]? = some z) (lz : X.env.scope.names.lookup z = some .local)
    (sw : swapsWith (.DictComp kx vx [⟨tg, iter, ifs, 0⟩] sc at1) (some (.Name z at2)) at0.line X.env = pure true) (hi : PI X tg iter wi) (ok : BlkOk X.N X.env.scope sc own)
    (hg : ∀ (s : Shared) (H : Hp) (C : Addr) (cl : List (Str × Addr)) (fp : List Addr), PG (X.blk s H sc (compEnvC sc cl C X.env) fp) tg g)
    (ht : ∀ (s : Shared) (H : Hp) (C : Addr) (cl : List (Str × Addr)) (fp : List Addr), PTs (X.blk s H sc (compEnvC sc cl C X.env) fp) ifs tt)
    (hk : ∀ (s : Shared) (H : Hp) (C : Addr) (cl : List (Str × Addr)) (fp : List Addr), PE (X.blk s H sc (compEnvC sc cl C X.env) fp) kx tk)
    (he : ∀ (s : Shared) (H : Hp) (C : Addr) (cl : List (Str × Addr)) (fp : List Addr), PE (X.blk s H sc (compEnvC sc cl C X.env) fp) vx tv) (fold : ∀ x, foldedSetIterable iter X.env x = pure x := by intro _; rfl) :
    PS X (.Assign [.Name z at2] (.DictComp kx vx [⟨tg, iter, ifs, 0⟩] sc at1) at0) (tAsg (tDc wi g tt tk tv (own.map (·.2))) (gName i)) := by
  refine ⟨fun pins s σ H D I h => ?_⟩
  rw [exec_Assign_Name_used _ _ _ _ sw]
  refine wpAny_bind (wpAny_standAt (wpAny_bind ?_))
  show wpAny _ X.A (do let _ ← comprehension (.DictComp kx vx [⟨tg, iter, ifs, 0⟩] sc at1) sc X.env (firstIterPos [⟨tg, iter, ifs, 0⟩] at1) newDict false (eval iter X.env) (some (assign (.Name z at2) X.env))) _ _ s
  have h' : tDc wi g tt tk tv (own.map (·.2)) σ H (fun x H1 => gName i x σ H1 D.nx) := h
  have core := dc_core (Qf := fun _ s' => SP X pins D .next s') (use := some (assign (.Name z at2) X.env)) (pos := at1) (pos' := firstIterPos [⟨tg, iter, ifs, 0⟩] at1) calm nd I hi ok hg ht hk he fold h' fun L C s' m H' J q nsC fp => ?_
  · exact wpAny_bind (thn core fun _ s' hq => wpAny_pure (wpAny_pure hq))
  · show wpAny _ _ (assign (.Name z at2) X.env (.ref L)) _ _ _
    obtain ⟨e0, e1, e2, e3, e4, e5⟩ := fp
    refine wpAny_assign_Name (store_ok2 (v := V.ref L) J nd hz (.inl lz) rfl (fun s2 J2 hyp => ?_) (.inr lz))
    obtain ⟨a, sb, ha⟩ := hyp
    have ne : C ≠ a := ha.elim (fun w => w ▸ e1) fun w e => e4 z a w e.symm
    exact ⟨m, nsC.sameBut sb ne, fun h3 sb3 => ⟨_, H', J2.turned (t' := s2.toks) (fun b o hb e => (sb3.2 b hb).trans e) e0 e1 e3 e4 e5, q⟩⟩
end
end GL

namespace LW
open PySem PySem.Spec PyProof.Rows L2 GL
theorem str_av2 {i : Int} (h : i.natAbs ≤ 1100) : AV 400 3 (.str (toString i)) := by
  have := str_sm2 (i + 1100).toNat (by omega)
  have e : (((i + 1100).toNat : Int) - 1100) = i := by omega
  rw [e] at this
  exact avB_of this
/-! the forest -/
def kidD (q : Qs) (o : Option Str) : PyData := .tuple ((kidsF q o).map .str)
def forestKv (q : Qs) : List (Option Str × PyData) := q.cs.map (fun c => (some c, kidD q (some c))) ++ [(none, kidD q none)]
theorem forest_some {q : Qs} {c : Str} (h : c ∈ q.cs) : (forestKv q).lookup (some c) = some (kidD q (some c)) := by
  unfold forestKv
  rw [List.lookup_append]
  have : (q.cs.map fun c => ((some c : Option Str), kidD q (some c))).lookup (some c) = some (kidD q (some c)) := by
    generalize q.cs = l at h
    induction l with
    | nil => cases h
    | cons a l ih =>
      rw [List.map_cons, List.lookup_cons]
      by_cases e : c = a
      · subst e
        simp
      · have hb : ((some c : Option Str) == some a) = false := beq_eq_false_iff_ne.mpr fun z => e (Option.some.inj z)
        rw [hb]
        rcases List.mem_cons.mp h with z | z
        · exact absurd z e
        · exact ih z
  rw [this]
  rfl
theorem forest_none (q : Qs) : (forestKv q).lookup none = some (kidD q none) := by
  unfold forestKv
  rw [List.lookup_append]
  have : (q.cs.map fun c => ((some c : Option Str), kidD q (some c))).lookup none = none := by
    induction q.cs with
    | nil => rfl
    | cons a l ih =>
      rw [List.map_cons, List.lookup_cons]
      exact ih
  rw [this]
  simp
/-! the form of a shape -/
def plV : PyData → Int
  | .tuple (x :: _) => intV x
  | _ => 0
def plB : PyData → PyData
  | .tuple [_, b] => b
  | _ => .none
def plOk : PyData → Bool
  | .tuple [x, _] => intD x
  | _ => false
def ascB (ps : List PyData) : Bool := (ps.zip (ps.drop 1)).all fun p => decide (plV p.1 < plV p.2)
def brB (q : Qs) (c : Str) (f : PyData → Bool) : PyData → Bool
  | .tuple ps => !ps.isEmpty && (ps.all plOk && (ascB ps && ps.all fun p => letsF q.rs c (plV p) && f (plB p)))
  | _ => false
def formB (q : Qs) : Nat → List Str → PyData → Bool
  | n + 1, cs, .tuple es => decide (es.length = cs.length) && (cs.zip es).all fun p => brB q p.1 (formB q n (kidsF q (some p.1))) p.2
  | _, _, _ => false
theorem plOk_of {p : PyData} (h : plOk p = true) : ∃ (i : Int) (b : PyData), p = .tuple [.int i, b] := by
  unfold plOk at h
  split at h
  · obtain ⟨i, rfl⟩ := intD_of h
    exact ⟨i, _, rfl⟩
  · cases h
/-! the promises -/
def wForestO (P : Program) (w : World) (K : PySem.W.Frag) : List DV → ((Hp → Addr → Prop) → Prop) → Prop := fun ds Z => ∃ q : Qs, ds = [.im (qD q)] ∧ QOk q ∧ Tidy q ∧ Z (fnΦ P w K (forestKv q))
theorem lenforest_of {P : Program} {w : World} {K : PySem.W.Frag} (ds : List DV) (Z : (Hp → Addr → Prop) → Prop) (h : wForestO P w K ds Z) : ds.length = 1 := by obtain ⟨_, rfl, _⟩ := h; rfl
def wAreB (P : Program) (w : World) (K : PySem.W.Frag) (n : Nat) : List DV → (PyData → Prop) → Prop := fun ds Z => ∃ (q : Qs) (cs : List Str) (d : PyData) (m : Nat), ds = [.im (qD q), fnOb P w K (forestKv q), .im (.tuple (cs.map .str)), .im d] ∧ QOk q ∧ n = m + 1 ∧ cs.length ≤ 6 ∧
  (∀ c ∈ cs, c ∈ q.cs ∧ 6 ≤ m + (up q c).length) ∧ LN d = true ∧ Z (.bool (formB q n cs d))
def wIsBr (P : Program) (w : World) (K : PySem.W.Frag) (n : Nat) : List DV → (PyData → Prop) → Prop := fun ds Z => ∃ (q : Qs) (c : Str) (d : PyData), ds = [.im (qD q), fnOb P w K (forestKv q), .im (.str c), .im d] ∧ QOk q ∧ c ∈ q.cs ∧ 6 ≤ n + (up q c).length ∧ LN d = true ∧
  Z (.bool (brB q c (formB q n (kidsF q (some c))) d))
def shpB (q : Qs) (d : PyData) : Bool := GL.isNone d || formB q 7 (kidsF q none) d
def wIsShape : List DV → (PyData → Prop) → Prop := fun ds Z => ∃ (q : Qs) (d : PyData), ds = [.im (qD q), .im d] ∧ QOk q ∧ Tidy q ∧ LN d = true ∧ Z (.bool (shpB q d))
def wFormL (n : Nat) : List DV → (PyData → Prop) → Prop := fun ds Z => ∃ (q : Qs) (cs : List Str) (d : PyData) (m : Nat), ds = [.im (qD q), .im (.list (cs.map .str)), .im d] ∧ QOk q ∧ Nest q.as ∧ Cov q ∧ n = m + 1 ∧ cs.length ≤ 6 ∧
  (∀ c ∈ cs, c ∈ q.cs ∧ 6 ≤ m + (up q c).length) ∧ LN d = true ∧ Z (.bool (formB q n cs d))
/-- how great a drawn shape may be -/
def wS : Nat → Nat
  | 0 => 0
  | m + 1 => (m + 1) * (4 * (wS m + 15) + 1)
def wDrawS (n : Nat) : List DV → (PyData → Prop) → Prop := fun ds Z => ∃ (q : Qs) (cs : List Str) (wide : Nat) (m : Nat), ds = [.bag, .im (qD q), .im (.list (cs.map .str)), .im (.int (wide : Nat))] ∧ QOk q ∧ Nest q.as ∧ Cov q ∧ n = m + 1 ∧ wide ≤ 3 ∧ m ≤ 4 ∧ cs.length ≤ m ∧ q.cs.Nodup ∧ q.cs.length ≤ 4 ∧
  (∀ c ∈ cs, c ∈ q.cs ∧ 4 ≤ m + (up q c).length) ∧ ∀ d, niB d = true → d.depth ≤ 3 * m + 1 → d.weight ≤ wS m → (∃ ds, d = .tuple ds) → Z d
def ShD (d : PyData) : Prop := niB d = true ∧ d.depth ≤ 13 ∧ d.weight ≤ wS 4
def wAnyS : List DV → (PyData → Prop) → Prop := fun ds Z => ∃ q : Qs, ds = [.bag, .im (qD q)] ∧ QOk q ∧ Nest q.as ∧ Cov q ∧ q.cs.Nodup ∧ q.cs.length ≤ 4 ∧ ∀ d, ShD d → Z d
def wOdd2 : List DV → (PyData → Prop) → Prop := fun ds Z => ds = [.bag] ∧ ∀ d, AV 400 4 d → Z d
def wBent2 (n : Nat) : List DV → (PyData → Prop) → Prop := fun ds Z => ∃ (d : PyData) (w m : Nat), ds = [.bag, .im d] ∧ n = m + 1 ∧ m ≤ 14 ∧ niB d = true ∧ d.depth ≤ m ∧ d.weight ≤ w ∧ ∀ e, AV (2 * w + 400) (m + 4) e → Z e
theorem len_are_branches {P : Program} {w : World} {K : PySem.W.Frag} {n : Nat} (ds : List DV) (Z : PyData → Prop) (h : wAreB P w K n ds Z) : ds.length = 4 := by obtain ⟨_, _, _, _, rfl, _⟩ := h; rfl
theorem len_is_branch {P : Program} {w : World} {K : PySem.W.Frag} {n : Nat} (ds : List DV) (Z : PyData → Prop) (h : wIsBr P w K n ds Z) : ds.length = 4 := by obtain ⟨_, _, _, rfl, _⟩ := h; rfl
theorem lenis_shape (ds : List DV) (Z : PyData → Prop) (h : wIsShape ds Z) : ds.length = 2 := by obtain ⟨_, _, rfl, _⟩ := h; rfl
theorem len_law_is_form {n : Nat} (ds : List DV) (Z : PyData → Prop) (h : wFormL n ds Z) : ds.length = 3 := by obtain ⟨_, _, _, _, rfl, _⟩ := h; rfl
theorem len_law_drawn_shape {n : Nat} (ds : List DV) (Z : PyData → Prop) (h : wDrawS n ds Z) : ds.length = 4 := by obtain ⟨_, _, _, _, rfl, _⟩ := h; rfl
theorem len_law_any_shape (ds : List DV) (Z : PyData → Prop) (h : wAnyS ds Z) : ds.length = 2 := by obtain ⟨_, rfl, _⟩ := h; rfl
theorem len_law_odd2 (ds : List DV) (Z : PyData → Prop) (h : wOdd2 ds Z) : ds.length = 1 := by obtain ⟨rfl, _⟩ := h; rfl
theorem len_law_bent2 {n : Nat} (ds : List DV) (Z : PyData → Prop) (h : wBent2 n ds Z) : ds.length = 2 := by obtain ⟨_, _, _, rfl, _⟩ := h; rfl
/-- wNestedQ, and how many columns -/
def wNestedN : List DV → (PyData → Prop) → Prop := fun ds Z => ∃ most : Nat, ds = [.bag, .im (.int (most : Nat))] ∧ 1 ≤ most ∧ most ≤ 6 ∧ ∀ q : Qs, QOk q → Nest q.as → Cov q → Tidy q → Nm q → q.cs.length ≤ most → Z (qD q)
theorem lennested2 (ds : List DV) (Z : PyData → Prop) (h : wNestedN ds Z) : ds.length = 2 := by obtain ⟨_, rfl, _⟩ := h; rfl
/-! siblings are few -/
theorem three {α : Type} {k u e : α → Bool} : ∀ {l : List α}, (∀ x ∈ l, (k x = true → u x = true → False) ∧ (k x = true → e x = true → False) ∧ (u x = true → e x = true → False)) → (l.filter k).length + (l.filter u).length + (l.filter e).length ≤ l.length
  | [], _ => by simp
  | a :: l, h => by
    have ih := three fun x hx => h x (List.mem_cons_of_mem _ hx)
    obtain ⟨h1, h2, h3⟩ := h a List.mem_cons_self
    rw [List.filter_cons, List.filter_cons, List.filter_cons]
    cases hk : k a <;> cases hu : u a <;> cases he : e a <;> first | exact (h1 hk hu).elim | exact (h2 hk he).elim | exact (h3 hu he).elim | (simp only [if_true, if_false, Bool.false_eq_true, List.length_cons]; omega)
theorem kids_few {q : Qs} (ok : QOk q) {c : Str} (hc : c ∈ q.cs) : (kidsF q (some c)).length + (up q c).length + 1 ≤ q.cs.length := by
  have upc : ∀ y ∈ up q c, (up q y).length < (up q c).length := fun y hy => by
    obtain ⟨hy1, hy2⟩ := up_mem.mp hy
    exact sub_len (fun x hx hp => abv_trans ok hx hy1 hc hp hy2) hy1 (abv_irr ok hy1) hy2
  have t := three (l := q.cs) (k := fun y => parF q y == some c) (u := fun y => abv q y c) (e := fun y => decide (y = c)) fun x hx => ⟨fun a b => ?_, fun a b => ?_, fun a b => ?_⟩
  · have l1 : 1 ≤ (q.cs.filter fun y => decide (y = c)).length := List.length_pos_of_mem (List.mem_filter.mpr ⟨hc, decide_eq_true rfl⟩)
    have e1 : (kidsF q (some c)).length = (q.cs.filter fun y => parF q y == some c).length := rfl
    have e2 : (up q c).length = (q.cs.filter fun y => abv q y c).length := rfl
    omega
  · have h1 := kid_up ok hc (List.mem_filter.mpr ⟨hx, a⟩ : x ∈ kidsF q (some c))
    have h2 := upc x (up_mem.mpr ⟨hx, b⟩)
    omega
  · have b := of_decide_eq_true b
    subst b
    have h1 := kid_up ok hc (List.mem_filter.mpr ⟨hx, a⟩ : x ∈ kidsF q (some x))
    omega
  · have b := of_decide_eq_true b
    subst b
    rw [abv_irr ok hx] at a
    cases a
/-! the form: what breaks it -/
theorem all_no {α : Type} {l : List α} {p : α → Bool} {a : α} (ha : a ∈ l) (h : p a = false) : l.all p = false := by
  rw [Bool.eq_false_iff]
  intro z
  rw [List.all_eq_true.mp z a ha] at h
  cases h
theorem form_no {q : Qs} {n : Nat} {cs : List Str} {es : List PyData} {c : Str} {e : PyData} (h : (c, e) ∈ cs.zip es) (b : brB q c (formB q n (kidsF q (some c))) e = false) : formB q (n + 1) cs (.tuple es) = false := by
  rw [formB, all_no h b, Bool.and_false]
theorem form_yes {q : Qs} {n : Nat} {cs : List Str} {es : List PyData} (l : es.length = cs.length) (h : ∀ p ∈ cs.zip es, brB q p.1 (formB q n (kidsF q (some p.1))) p.2 = true) : formB q (n + 1) cs (.tuple es) = true := by
  rw [formB, List.all_eq_true.mpr h, decide_eq_true l]
  rfl
theorem br_ok {q : Qs} {c : Str} {f : PyData → Bool} {ps : List PyData} {p : PyData} (hp : p ∈ ps) (h : plOk p = false) : brB q c f (.tuple ps) = false := by
  rw [brB, all_no hp h, Bool.false_and, Bool.and_false]
theorem br_in {q : Qs} {c : Str} {f : PyData → Bool} {ps : List PyData} {p : PyData} (hp : p ∈ ps) (h : (letsF q.rs c (plV p) && f (plB p)) = false) : brB q c f (.tuple ps) = false := by
  rw [brB, all_no (p := fun p => letsF q.rs c (plV p) && f (plB p)) hp h, Bool.and_false, Bool.and_false, Bool.and_false]
theorem br_asc {q : Qs} {c : Str} {f : PyData → Bool} {ps : List PyData} (h : ascB ps = false) : brB q c f (.tuple ps) = false := by
  rw [brB, h, Bool.false_and, Bool.and_false, Bool.and_false]
theorem br_yes {q : Qs} {c : Str} {f : PyData → Bool} {ps : List PyData} (h0 : ps ≠ []) (h1 : ∀ p ∈ ps, plOk p = true ∧ (letsF q.rs c (plV p) && f (plB p)) = true) (h2 : ascB ps = true) : brB q c f (.tuple ps) = true := by
  rw [brB, h2, List.all_eq_true.mpr fun p hp => (h1 p hp).1, List.all_eq_true.mpr fun p hp => (h1 p hp).2]
  cases ps with
  | nil => exact absurd rfl h0
  | cons => rfl
end LW

namespace LW
open PySem PySem.Spec PyProof.Rows L2 GL
def topS (i : Nat) : Stmt := PySem.Challenge.pw_enoughlooks_k56_shapes_of_any_value.main.body.getD i (.Pass ⟨0, 0, 0, 0⟩)
end LW

namespace LW
open PySem PySem.Spec PyProof.Rows L2 GL
abbrev satoms_of : Stmt := topS 4
theorem scatoms_of : FnScope ["question", "column", "index", "word", "name", "columns"] ["question", "column"] (defScope satoms_of) := ⟨rfl, rfl, rfl, by decide +kernel, rfl, by decide +kernel, by decide +kernel⟩
theorem okatoms_of {P : Program} {w : World} {K : PySem.W.Frag} {mg : Str → Option Value} {base : Heap} (D : DefAt K mg "atoms_of" satoms_of ["question", "column"]) (m_enumerate : mg "enumerate" = none) (m_tuple : mg "tuple" = none) :
    Cal P w K mg base 1 "atoms_of" (spW K wAtoms) := by
  refine cal_mk D scatoms_of (fun vs H Q E h => sp_len (lenatoms_of) h) (fun f cdv A outer s H vs Q E hG hr h => ?_)
  have h' := h
  obtain ⟨bg, M, ds, P', km, gB, gA, hw, q⟩ := h'
  have nd := scatoms_of.nd
  refine ⟨_, (pss_one (ps_ret (pe_callTy (call_tupF : CallR _ (.type "tuple") (rTupF K)) (by rfl) m_tuple (by decide +kernel) (pa_cons (pe_lc (own := [("index", 2), ("word", 3), ("name", 4), ("columns", 5)]) (g := (gTup K 2 (gCons (gName 2) (gCons (gTup K 3 (gCons (gName 3) (gCons (gName 4) (gCons (gName 5) gNil)))) gNil)))) (by rfl) nd (pi_enumT (by rfl) m_enumerate (pa_cons (pe_ix (ix_seq : IxR _ (rIx K)) (pv 0) pe_int (fun _ _ => rfl)) pa_nil)) (blkOk_by (own := [("index", 2), ("word", 3), ("name", 4), ("columns", 5)]) (N := ["question", "column", "index", "word", "name", "columns"]) (sc := (defScope satoms_of)) (by decide +kernel)) (fun _ _ _ _ _ => (pg_tup rfl (pgs_cons (pg_name (i := 2) nd rfl (.inl rfl)) (pgs_cons (pg_tup rfl (pgs_cons (pg_name (i := 3) nd rfl (.inl rfl)) (pgs_cons (pg_name (i := 4) nd rfl (.inl rfl)) (pgs_cons (pg_name (i := 5) nd rfl (.inl rfl)) pgs_nil)))) pgs_nil)))) (fun _ _ _ _ _ => (pts_one (pt_cmpR (op_in_seq : OpR _ (compareOp .In) (rIn K false)) (pv 1) (pv 5) (by rfl)))) (fun _ _ _ _ _ => (pv 2))) pa_nil)))), ?_⟩
  refine w_use (N := ["question", "column", "index", "word", "name", "columns"]) (rs_ret (re_cb rq_tup (rx_cons (RE.b (re_lcC (ri_eT (rx_cons (RE.b (re_op rp_ix (RE.b (re_v 0)) (RE.b (re_int _)))) rx_nil)) (rg_t2 (rg_name 2) (rg_t3 (rg_name 3) (rg_name 4) (rg_name 5))) (by decide) (rt_tst (re_op rp_in (RE.b (re_v 1)) (RE.b (re_v 5)))) (re_v 2))) rx_nil))) km gB gA q ?_
  clear q gA gB km h
  generalize P' = Z at hw ⊢
  obtain ⟨q, c, rfl, hl, p⟩ := hw
  refine lc_mf (f := fun p : Atm × Nat => .tuple [.int (p.2 : Nat), atD p.1]) (l := q.as.zipIdx) (p := holds c) (g := fun p => .int (p.2 : Nat)) (by rw [List.length_zipIdx]; exact hl) (fun P' h => ?_) (fun a ha acc J j1 j2 => ?_) ?_
  · refine ⟨_, rfl, ?_⟩
    show P' (enumD (q.as.map atD))
    rw [enumD_map]
    exact h
  · refine ⟨rfl, flat_str _, ?_⟩
    show if inD (.str c) (a.1.2.2.map .str) = true then _ else _
    rw [inD_str]
    exact iteB (fun h => j1 h) (fun h => j2 h)
  · show Z (.tuple _)
    rw [idx_D]
    exact p
end LW

namespace LW
open PySem PySem.Spec PyProof.Rows L2 GL
abbrev s_law_atoms_of : Stmt := topS 32
theorem sc_law_atoms_of : FnScope ["question", "column", "index", "atom"] ["question", "column"] (defScope s_law_atoms_of) := ⟨rfl, rfl, rfl, by decide +kernel, rfl, by decide +kernel, by decide +kernel⟩
theorem ok_law_atoms_of {P : Program} {w : World} {K : PySem.W.Frag} {mg : Str → Option Value} {base : Heap} (D : DefAt K mg "_law_atoms_of" s_law_atoms_of ["question", "column"]) (m_enumerate : mg "enumerate" = none) :
    Cal P w K mg base 1 "_law_atoms_of" (spW K wAtomsL) := by
  refine cal_mk D sc_law_atoms_of (fun vs H Q E h => sp_len (len_law_atoms_of) h) (fun f cdv A outer s H vs Q E hG hr h => ?_)
  have h' := h
  obtain ⟨bg, M, ds, P', km, gB, gA, hw, q⟩ := h'
  have nd := sc_law_atoms_of.nd
  refine ⟨_, (pss_one (ps_ret (pe_lc (own := [("index", 2), ("atom", 3)]) (g := (gTup K 2 (gCons (gName 2) (gCons (gName 3) gNil)))) (by rfl) nd (pi_enumT (by rfl) m_enumerate (pa_cons (pe_ix (ix_seq : IxR _ (rIx K)) (pv 0) pe_int (fun _ _ => rfl)) pa_nil)) (blkOk_by (own := [("index", 2), ("atom", 3)]) (N := ["question", "column", "index", "atom"]) (sc := (defScope s_law_atoms_of)) (by decide +kernel)) (fun _ _ _ _ _ => (pg_tup rfl (pgs_cons (pg_name (i := 2) nd rfl (.inl rfl)) (pgs_cons (pg_name (i := 3) nd rfl (.inl rfl)) pgs_nil)))) (fun _ _ _ _ _ => (pts_one (pt_cmpR (op_in_seq : OpR _ (compareOp .In) (rIn K false)) (pv 1) (pe_ix (ix_seq : IxR _ (rIx K)) (pv 3) pe_int (fun _ _ => rfl)) (by rfl)))) (fun _ _ _ _ _ => (pv 2))))), ?_⟩
  refine w_use (N := ["question", "column", "index", "atom"]) (rs_ret (re_lcC (ri_eT (rx_cons (RE.b (re_op rp_ix (RE.b (re_v 0)) (RE.b (re_int _)))) rx_nil)) (rg_t2 (rg_name 2) (rg_name 3)) (by decide) (rt_tst (re_op rp_in (RE.b (re_v 1)) (RE.b (re_op rp_ix (RE.b (re_v 3)) (RE.b (re_int _)))))) (re_v 2))) km gB gA q ?_
  clear q gA gB km h
  generalize P' = Z at hw ⊢
  obtain ⟨q, c, rfl, hl, p⟩ := hw
  refine lc_mf (f := fun p : Atm × Nat => .tuple [.int (p.2 : Nat), atD p.1]) (l := q.as.zipIdx) (p := holds c) (g := fun p => .int (p.2 : Nat)) (by rw [List.length_zipIdx]; exact hl) (fun P' h => ?_) (fun a ha acc J j1 j2 => ?_) ?_
  · refine ⟨_, rfl, ?_⟩
    show P' (enumD (q.as.map atD))
    rw [enumD_map]
    exact h
  · refine ⟨_, rfl, rfl, flat_str _, ?_⟩
    show if inD (.str c) (a.1.2.2.map .str) = true then _ else _
    rw [inD_str]
    exact iteB (fun h => j1 h) (fun h => j2 h)
  · show Z (.list _)
    rw [idx_D]
    exact p
end LW

namespace LW
open PySem PySem.Spec PyProof.Rows L2 GL
abbrev s_law_forest : Stmt := topS 27
theorem sc_law_forest : FnScope ["bag", "many", "found", "at"] ["bag", "many"] (defScope s_law_forest) := ⟨rfl, rfl, rfl, by decide +kernel, rfl, by decide +kernel, by decide +kernel⟩
theorem ok_law_forest {P : Program} {w : World} {K : PySem.W.Frag} {mg : Str → Option Value} {base : Heap} (D : DefAt K mg "_law_forest" s_law_forest ["bag", "many"]) (c__law_some : Cal P w K mg base 2 "_law_some" (spW K wSome)) (m_list : mg "list" = none) (m_range : mg "range" = none) :
    Cal P w K mg base 3 "_law_forest" (spW K wForest) := by
  refine cal_mk D sc_law_forest (fun vs H Q E h => sp_len (len_law_forest) h) (fun f cdv A outer s H vs Q E hG hr h => ?_)
  have h' := h
  obtain ⟨bg, M, ds, P', km, gB, gA, hw, q⟩ := h'
  have nd := sc_law_forest.nd
  refine ⟨_, (pss_cons (ps_set (i := 2) nd rfl (.inl rfl) (pe_lst pa_nil))
    (pss_cons (ps_for PassesOwn.never rfl (pi_range1 (by rfl) m_range (pa_cons (pv 1) pa_nil)) (pg_name (i := 3) nd rfl (.inl rfl)) (pss_one (ps_expr (pe_bm PySem.F.plainAttrs_list PySem.F.slot_list_append PySem.F.type_list_append mt_append (pv 2) (pa_cons (pe_cg c__law_some (by exact hG) (by exact hr) (by decide) (by rfl) (pa_cons (pv 0) (pa_cons (pe_op op_cat (pe_op op_cat (pe_lst (pa_cons pe_non pa_nil)) (pe_listRg rfl (by rfl) m_list (prg_1 (by rfl) m_range (pv 3)))) (pe_listRg rfl (by rfl) m_list (prg_1 (by rfl) m_range (pv 3)))) pa_nil))) pa_nil)))))
    (pss_one (ps_ret (pv 2))))), ?_⟩
  refine w_use (N := ["bag", "many", "found", "at"]) (rs_seq (rs_own 2 rd_nil)
    (rs_seq (rs_forC (ri_r1 (rx_cons (RE.b (re_v 1)) rx_nil)) (rg_name 3) (rs_app 2 (re_call (ra_b 0 (ra_cons (re_op rp_cat (RE.b (re_op rp_cat (RE.b (re_lst (rd_cons re_non rd_nil))) (RE.b (re_lrg1 (re_v 3))))) (RE.b (re_lrg1 (re_v 3)))) ra_nil)))))
    (rs_rto 2))) km gB gA q ?_
  clear q gA gB km h
  generalize P' = Z at hw ⊢
  obtain ⟨n, rfl, hn, p⟩ := hw
  refine ⟨Nat.zero_le _, ?_⟩
  refine for_l (f := fun i : Nat => .int (0 + (i : Nat))) (l := List.range n) (fun P' h => ⟨by omega, by omega, h⟩)
    (fun i ρ => ∃ (x3 : Option DV) (par : List (Option Nat)), ρ = [some .bag, some (.im (.int (n : Nat))), some (.ow (par.map oN)), x3] ∧ par.length = i ∧ PrOk par) ⟨none, [], rfl, rfl, fun i p h => by cases h⟩ (fun i a ρ' ha hI => ?_) (fun ρ' hI => ?_)
  · obtain ⟨x3, par, rfl, hp, ok⟩ := hI
    obtain ⟨rfl, hi⟩ := range_get ha
    have e0 : (0 + (a : Nat) : Int).toNat = a := by omega
    refine ⟨by rw [List.length_map]; omega, by show 1 ≤ 1000; decide, by omega, by omega, ?_⟩
    refine ⟨by rw [rangeD_len]; show 1 + _ ≤ 1000; omega, by omega, by omega, by rw [List.length_append, rangeD_len]; show 1 + _ + _ ≤ 1000; omega, ?_⟩
    refine ⟨_, _, rfl, rfl, (fun z => nomatch z), by rw [List.length_append, List.length_append, rangeD_len]; show 1 + _ + _ < 1000000; omega, fun d hd => ?_⟩
    rw [e0] at hd
    have : ∃ o : Option Nat, d = oN o ∧ ∀ p, o = some p → p < a := by
      have rg : d ∈ rangeD 0 a → ∃ o : Option Nat, d = oN o ∧ ∀ p, o = some p → p < a := fun h => by
        rw [rangeD_map] at h
        obtain ⟨k, hk, rfl⟩ := List.mem_map.mp h
        have := List.mem_range.mp hk
        exact ⟨some k, by show PyData.int (0 + (k : Int)) = .int (k : Int); rw [Int.zero_add], fun p e => by cases e; exact this⟩
      rcases List.mem_append.mp hd with h | h
      · rcases List.mem_append.mp h with h | h
        · rw [List.mem_singleton] at h
          exact ⟨none, h, fun p e => by cases e⟩
        · exact rg h
      · exact rg h
    obtain ⟨o, rfl, ho⟩ := this
    refine Cl.here ⟨some (.im (.int (0 + (a : Nat)))), par ++ [o], ?_, by rw [List.length_append, hp]; rfl, fun i p h => ?_⟩
    · rw [List.map_append]
      rfl
    · by_cases z : i < par.length
      · rw [List.getElem?_append_left z] at h
        exact ok i p h
      · rw [List.getElem?_append_right (by omega)] at h
        have : i - par.length = 0 := by
          have := (List.getElem?_eq_some_iff.mp h).1
          rw [List.length_singleton] at this
          omega
        rw [this] at h
        have h : o = some p := by simpa using h
        have := ho p h
        omega
  · obtain ⟨x3, par, rfl, hp, ok⟩ := hI
    rw [List.length_range] at hp
    exact p par hp ok
end LW

namespace LW
open PySem PySem.Spec PyProof.Rows L2 GL
abbrev s_law_line : Stmt := topS 28
theorem sc_law_line : FnScope ["parents", "at", "found"] ["parents", "at"] (defScope s_law_line) := ⟨rfl, rfl, rfl, by decide +kernel, rfl, by decide +kernel, by decide +kernel⟩
theorem ok_law_line {P : Program} {w : World} {K : PySem.W.Frag} {mg : Str → Option Value} {base : Heap} (D : DefAt K mg "_law_line" s_law_line ["parents", "at"]) :
    Cal P w K mg base 1 "_law_line" (spW K wLine) := by
  refine cal_mk D sc_law_line (fun vs H Q E h => sp_len (len_law_line) h) (fun f cdv A outer s H vs Q E hG hr h => ?_)
  have h' := h
  obtain ⟨bg, M, ds, P', km, gB, gA, hw, q⟩ := h'
  have nd := sc_law_line.nd
  refine ⟨_, (pss_cons (ps_set (i := 2) nd rfl (.inl rfl) (pe_lst (pa_cons (pv 1) pa_nil)))
    (pss_cons (ps_while PassesOwn.never (pt_cmpR op_notN (pe_ix (ix_seq : IxR _ (rIx K)) (pv 0) (pe_ix (ix_seq : IxR _ (rIx K)) (pv 2) pe_int (fun _ _ => rfl)) (fun _ _ => rfl)) pe_non (nomark _)) (pss_one (ps_set (i := 2) nd rfl (.inl rfl) (pe_op op_cat (pe_lst (pa_cons (pe_ix (ix_seq : IxR _ (rIx K)) (pv 0) (pe_ix (ix_seq : IxR _ (rIx K)) (pv 2) pe_int (fun _ _ => rfl)) (fun _ _ => rfl)) pa_nil)) (pv 2)))))
    (pss_one (ps_ret (pv 2))))), ?_⟩
  refine w_use (N := ["parents", "at", "found"]) (rs_seq (rs_set 2 (re_lst (rd_cons (re_v 1) rd_nil)))
    (rs_seq (rs_whileC (rt_tst (re_op rp_notN (RE.b (re_op rp_ix (RE.b (re_v 0)) (RE.b (re_op rp_ix (RE.b (re_v 2)) (RE.b (re_int _)))))) (RE.b re_non))) (rs_set 2 (re_op rp_cat (RE.b (re_lst (rd_cons (re_op rp_ix (RE.b (re_v 0)) (RE.b (re_op rp_ix (RE.b (re_v 2)) (RE.b (re_int _))))) rd_nil))) (RE.b (re_v 2)))))
    (rs_ret (re_v 2)))) km gB gA q ?_
  clear q gA gB km h
  generalize P' = Z at hw ⊢
  obtain ⟨par, at_, rfl, hl, ha, ok, p⟩ := hw
  refine ⟨by show 1 ≤ 1000; decide, ?_⟩
  refine wWhile.mk ⟨fun ρ => ∃ (h : Nat) (t : List Nat), ρ = [some (.im (.list (par.map oN))), some (.im (.int (at_ : Nat))), some (.im (.list ((h :: t).map iN)))] ∧ t.length + h ≤ at_ ∧ ((h :: t).Pairwise (· < ·)) ∧ (∀ a ∈ t, a < par.length) ∧ (∀ a, Anc par a at_ ↔ a ∈ t ∨ Anc par a h),
    fun (ρ : En) => match ρ[2]? with | some (some (DV.im (PyData.list (PyData.int i :: _)))) => i.toNat | _ => 0, Cl.here ⟨at_, [], rfl, by simp, List.pairwise_singleton _ _, fun _ z => (nomatch z), fun a => ⟨.inr, fun z => z.elim (fun z => nomatch z) id⟩⟩, fun ρ' hI => ?_⟩
  obtain ⟨h, t, rfl, hs, hpw, hb, hA⟩ := hI
  have hlt : h < par.length := by omega
  have hg : par[h]? = some par[h] := List.getElem?_eq_getElem hlt
  generalize par[h] = o at hg
  refine ⟨_, at_head, _, at_map hg, ?_⟩
  show if (!isNone (oN o)) = true then _ else _
  rw [oN_isNone]
  cases o with
  | none =>
    refine p (h :: t) (fun a => ?_) (by rw [List.length_cons]; omega) (fun a z => ?_) ?_
    · rw [hA a, Anc.root hg, List.mem_cons]
      exact Or.comm
    · rcases List.mem_cons.mp z with rfl | z
      · exact hlt
      · exact hb a z
    · exact hpw.imp fun h => Nat.ne_of_lt h
  | some k =>
    have hk := ok h k hg
    refine ⟨_, at_head, _, at_map hg, by show 1 ≤ 1000; decide, by rw [List.length_map, List.length_cons]; show 1 + (t.length + 1) ≤ 1000; omega, Cl.here ⟨⟨k, h :: t, rfl, by rw [List.length_cons]; omega, List.pairwise_cons.mpr ⟨fun a z => ?_, hpw⟩, fun a z => ?_, fun a => ?_⟩, ?_⟩⟩
    · rcases List.mem_cons.mp z with rfl | z
      · exact hk
      · exact Nat.lt_trans hk ((List.pairwise_cons.mp hpw).1 a z)
    · rcases List.mem_cons.mp z with rfl | z
      · exact hlt
      · exact hb a z
    · rw [hA a, Anc.step hg, List.mem_cons, or_assoc, or_left_comm]
    · show (k : Int).toNat < (h : Int).toNat
      omega
end LW

namespace LW
open PySem PySem.Spec PyProof.Rows L2 GL
abbrev s_law_columns_mixed : Stmt := topS 30
theorem sc_law_columns_mixed : FnScope ["bag", "names", "parents", "at", "one"] ["bag", "names", "parents", "at"] (defScope s_law_columns_mixed) := ⟨rfl, rfl, rfl, by decide +kernel, rfl, by decide +kernel, by decide +kernel⟩
theorem ok_law_columns_mixed {P : Program} {w : World} {K : PySem.W.Frag} {mg : Str → Option Value} {base : Heap} (D : DefAt K mg "_law_columns_mixed" s_law_columns_mixed ["bag", "names", "parents", "at"]) (c__law_line : Cal P w K mg base 1 "_law_line" (spW K wLine)) (c__law_mixed : Cal P w K mg base 2 "_law_mixed" (spW K wMixed)) (m_tuple : mg "tuple" = none) :
    Cal P w K mg base 3 "_law_columns_mixed" (spW K wCols) := by
  refine cal_mk D sc_law_columns_mixed (fun vs H Q E h => sp_len (len_law_columns_mixed) h) (fun f cdv A outer s H vs Q E hG hr h => ?_)
  have h' := h
  obtain ⟨bg, M, ds, P', km, gB, gA, hw, q⟩ := h'
  have nd := sc_law_columns_mixed.nd
  refine ⟨_, (pss_one (ps_ret (pe_callTy (call_tupF : CallR _ (.type "tuple") (rTupF K)) (by rfl) m_tuple (by decide +kernel) (pa_cons (pe_cg c__law_mixed (by exact hG) (by exact hr) (by decide) (by rfl) (pa_cons (pv 0) (pa_cons (pe_lc (own := [("one", 4)]) (g := gName 4) (tt := tYes) (by rfl) nd (pi_list (pe_cg c__law_line (by exact hG) (by exact hr) (by decide) (by rfl) (pa_cons (pv 2) (pa_cons (pv 3) pa_nil))) : PI _ _ _ (iList K _)) (blkOk_by (own := [("one", 4)]) (N := ["bag", "names", "parents", "at", "one"]) (sc := (defScope s_law_columns_mixed)) (by decide +kernel)) (fun _ _ _ _ _ => (pg_name (i := 4) nd rfl (.inl rfl))) (fun _ _ _ _ _ => pts_nil) (fun _ _ _ _ _ => (pe_ix (ix_seq : IxR _ (rIx K)) (pv 1) (pv 4) (fun _ _ => rfl)))) pa_nil))) pa_nil)))), ?_⟩
  refine w_use (N := ["bag", "names", "parents", "at", "one"]) (rs_ret (re_cb rq_tup (rx_cons (RE.b (re_call (ra_b 0 (ra_cons (re_lcC (ri_l (re_call (ra_cons (re_v 2) (ra_cons (re_v 3) ra_nil)))) (rg_name 4) (by decide) rt_yes (re_op rp_ix (RE.b (re_v 1)) (RE.b (re_v 4)))) ra_nil)))) rx_nil))) km gB gA q ?_
  clear q gA gB km h
  generalize P' = Z at hw ⊢
  obtain ⟨names, par, at_, rfl, hn, hl, ha, ok, nnd, p⟩ := hw
  refine WLc.mk ⟨par, at_, rfl, hl, ha, ok, fun l h1 h2 h3 h4 => ?_⟩
  have get : ∀ a ∈ l, ∃ x, names[a]? = some x := fun a z => ⟨names[a]'(by rw [hn]; exact h3 a z), List.getElem?_eq_getElem _⟩
  refine lci_mf (f := iN) (l := l) (p := fun _ => true) (g := fun a => .str (names[a]?.getD default)) (by omega) (fun a z acc J j1 j2 => ?_) ?_
  · obtain ⟨x, hx⟩ := get a z
    refine ⟨_, at_map hx, ?_⟩
    have := j1 rfl
    rw [hx] at this
    exact this
  · have e : (l.filter fun _ => true).map (fun a => PyData.str (names[a]?.getD default)) = (l.map fun a => names[a]?.getD default).map .str := by
      rw [List.filter_eq_self.mpr fun _ _ => rfl, List.map_map]
      rfl
    rw [e]
    refine ⟨_, rfl, by rw [List.length_map, List.length_map]; omega, fun ys hy => ?_⟩
    obtain ⟨m, rfl, pm⟩ := perm_map hy
    refine p m (fun x => ?_) (by rw [pm.length_eq, List.length_map]; exact h2) (fun x hx => ?_) ?_
    · rw [pm.mem_iff, List.mem_map]
      constructor
      · rintro ⟨a, hm, e⟩
        obtain ⟨y, hy⟩ := get a hm
        rw [hy] at e
        exact ⟨a, (h1 a).mp hm, by rw [hy, ← e]; rfl⟩
      · rintro ⟨a, hm, e⟩
        exact ⟨a, (h1 a).mpr hm, by rw [e]; rfl⟩
    · obtain ⟨a, hm, e⟩ := List.mem_map.mp (pm.mem_iff.mp hx)
      obtain ⟨y, hy⟩ := get a hm
      rw [hy] at e
      rw [← e]
      exact List.mem_of_getElem? hy
    · rw [pm.nodup_iff]
      refine nodup_map_of h4 fun a ha b hb e => ?_
      obtain ⟨x, hx⟩ := get a ha
      obtain ⟨y, hy⟩ := get b hb
      rw [hx, hy] at e
      have e : x = y := e
      rw [← e] at hy
      exact nodup_get nnd hx hy
end LW

namespace LW
open PySem PySem.Spec PyProof.Rows L2 GL
abbrev s_law_ranges : Stmt := topS 31
theorem sc_law_ranges : FnScope ["bag", "columns", "found", "column", "low", "high"] ["bag", "columns"] (defScope s_law_ranges) := ⟨rfl, rfl, rfl, by decide +kernel, rfl, by decide +kernel, by decide +kernel⟩
theorem ok_law_ranges {P : Program} {w : World} {K : PySem.W.Frag} {mg : Str → Option Value} {base : Heap} (D : DefAt K mg "_law_ranges" s_law_ranges ["bag", "columns"]) (c__law_mixed : Cal P w K mg base 2 "_law_mixed" (spW K wMixed)) (c__law_some : Cal P w K mg base 2 "_law_some" (spW K wSome)) (c__law_take : Cal P w K mg base 1 "_law_take" (spW K wTake)) (m_list : mg "list" = none) (m_tuple : mg "tuple" = none) :
    Cal P w K mg base 3 "_law_ranges" (spW K wRanges) := by
  refine cal_mk D sc_law_ranges (fun vs H Q E h => sp_len (len_law_ranges) h) (fun f cdv A outer s H vs Q E hG hr h => ?_)
  have h' := h
  obtain ⟨bg, M, ds, P', km, gB, gA, hw, q⟩ := h'
  have nd := sc_law_ranges.nd
  refine ⟨_, (pss_cons (ps_set (i := 2) nd rfl (.inl rfl) (pe_lst pa_nil))
    (pss_cons (ps_for PassesOwn.never rfl (pi_list (pe_cg c__law_mixed (by exact hG) (by exact hr) (by decide) (by rfl) (pa_cons (pv 0) (pa_cons (pe_callTy call_list_of (by rfl) m_list (by decide +kernel) (pa_cons (pv 1) pa_nil)) pa_nil))) : PI _ _ _ (iList K _)) (pg_name (i := 3) nd rfl (.inl rfl)) (pss_one (ps_if (pt_cmpR op_eq (pe_cg c__law_take (by exact hG) (by exact hr) (by decide) (by rfl) (pa_cons (pv 0) (pa_cons pe_int pa_nil))) pe_int (nomark _)) (pss_cons (ps_set (i := 4) nd rfl (.inl rfl) (pe_cg c__law_some (by exact hG) (by exact hr) (by decide) (by rfl) (pa_cons (pv 0) (pa_cons (pe_lst (pa_cons pe_non (pa_cons pe_int (pa_cons pe_int (pa_cons pe_int (pa_cons (pe_un un_neg pe_int) pa_nil)))))) pa_nil))))
    (pss_cons (ps_set (i := 5) nd rfl (.inl rfl) (pe_cg c__law_some (by exact hG) (by exact hr) (by decide) (by rfl) (pa_cons (pv 0) (pa_cons (pe_lst (pa_cons pe_non (pa_cons pe_int (pa_cons pe_int (pa_cons pe_int (pa_cons (pe_ifExp (pt_cmpR op_notN (pv 4) pe_non (nomark _)) (pv 4) pe_int) (pa_cons pe_int pa_nil))))))) pa_nil))))
    (pss_one (ps_expr (pe_bm PySem.F.plainAttrs_list PySem.F.slot_list_append PySem.F.type_list_append mt_append (pv 2) (pa_cons (pe_tupF (pa_cons (pv 3) (pa_cons (pv 4) (pa_cons (pe_ifExp (PW.pt (pw_or (pt_cmpR op_isN (pv 4) pe_non (nomark _)) (pw_or (pt_cmpR op_isN (pv 5) pe_non (nomark _)) (pw_or1 (pt_cmpR op_le (pv 4) (pv 5) (nomark _)))))) (pv 5) (pv 4)) pa_nil)))) pa_nil)))))) pss_nil)))
    (pss_one (ps_ret (pe_callTy (call_tupF : CallR _ (.type "tuple") (rTupF K)) (by rfl) m_tuple (by decide +kernel) (pa_cons (pv 2) pa_nil)))))), ?_⟩
  refine w_use (N := ["bag", "columns", "found", "column", "low", "high"]) (rs_seq (rs_own 2 rd_nil)
    (rs_seq (rs_forC (ri_l (re_call (ra_b 0 (ra_cons (re_cb rq_list (rx_cons (RE.b (re_v 1)) rx_nil)) ra_nil)))) (rg_name 3) (rs_if (rt_tst (re_op rp_eq (RE.b (re_call (ra_b 0 (ra_cons (re_int _) ra_nil)))) (RE.b (re_int _)))) (rs_seq (rs_set 4 (re_call (ra_b 0 (ra_cons (re_lst (rd_cons re_non (rd_cons (re_int _) (rd_cons (re_int _) (rd_cons (re_int _) (rd_cons (re_neg (re_int _)) rd_nil)))))) ra_nil))))
    (rs_seq (rs_set 5 (re_call (ra_b 0 (ra_cons (re_lst (rd_cons re_non (rd_cons (re_int _) (rd_cons (re_int _) (rd_cons (re_int _) (rd_cons (re_if (rt_tst (re_op rp_notN (RE.b (re_v 4)) (RE.b re_non))) (re_v 4) (re_int _)) (rd_cons (re_int _) rd_nil))))))) ra_nil))))
    (rs_app 2 (re_tup (rd_cons (re_v 3) (rd_cons (re_v 4) (rd_cons (re_if (rt_or (rt_tst (re_op rp_isN (RE.b (re_v 4)) (RE.b re_non))) (rt_or (rt_tst (re_op rp_isN (RE.b (re_v 5)) (RE.b re_non))) (rt_tst (re_op rp_cmp (RE.b (re_v 4)) (RE.b (re_v 5)))))) (re_v 5) (re_v 4)) rd_nil))))))) rs_next))
    (rs_ret (re_cb rq_tup (rx_cons (rb_o 2) rx_nil))))) km gB gA q ?_
  clear q gA gB km h
  generalize P' = Z at hw ⊢
  obtain ⟨cs, rfl, hl, hb, p⟩ := hw
  refine ⟨Nat.zero_le _, ?_⟩
  refine wFor.mk ⟨_, rfl, by rw [List.length_map]; omega, fun ys hy => ?_⟩
  obtain ⟨m, rfl, pm⟩ := perm_map hy
  have lm : m.length ≤ 6 := by rw [pm.length_eq]; exact hl
  have hb : ∀ x ∈ m, SmS x := fun x hx => hb x (pm.mem_iff.mp hx)
  refine fori_l (f := .str) (l := m) (fun i ρ => ∃ (x3 x4 x5 : Option DV) (rs : List Rng), ρ = [some .bag, some (.im (.tuple (cs.map .str))), some (.ow (rs.map rD)), x3, x4, x5] ∧ rs.length ≤ i ∧ ∀ r ∈ rs, ROk r)
    ⟨none, none, none, [], rfl, Nat.le_refl _, fun _ z => nomatch z⟩ (fun i c ρ' hc hI => ?_) (fun ρ' hI => ?_)
  · obtain ⟨x3, x4, x5, rs, rfl, hr, ok⟩ := hI
    have hi : i < m.length := (List.getElem?_eq_some_iff.mp hc).1
    have sc := hb c (List.mem_of_getElem? hc)
    refine ⟨3, rfl, by decide, by decide, fun r r0 r1 => ?_⟩
    refine ⟨rfl, iteB (fun h => ?_) (fun h => Cl.here ⟨_, _, _, rs, rfl, by omega, ok⟩)⟩
    refine ⟨by show 5 ≤ 1000; decide, _, _, rfl, rfl, (fun z => nomatch z), by show 5 < 1000000; decide, fun d hd => ?_⟩
    have sd := sm_of (l := [.none, .int 0, .int 1, .int 2, .int (-3)]) (by decide) hd
    have fin : ∀ (a b : Option Int), SmO a → SmO b → (rs ++ [(c, a, b)]).length ≤ i + 1 ∧ ∀ r ∈ rs ++ [(c, a, b)], ROk r := fun a b ha hb => by
      refine ⟨by rw [List.length_append]; show _ + 1 ≤ _; omega, fun r h => ?_⟩
      rcases List.mem_append.mp h with h | h
      · exact ok r h
      · rw [List.mem_singleton.mp h]
        exact ⟨sc, ha, hb⟩
    have cl : ∀ (a b : Option Int) (x4 x5 : Option DV), [some DV.bag, some (.im (.tuple (cs.map .str))), some (.ow (rs.map rD ++ [rD (c, a, b)])), some (.im (.str c)), x4, x5] = [some .bag, some (.im (.tuple (cs.map .str))), some (.ow ((rs ++ [(c, a, b)]).map rD)), some (.im (.str c)), x4, x5] := fun a b x4 x5 => by
      rw [List.map_append]
      rfl
    obtain ⟨lo, rfl, hlo⟩ := sm_oD sd
    cases lo with
    | none =>
      refine ⟨by show 6 ≤ 1000; decide, _, _, rfl, rfl, (fun z => nomatch z), by show 6 < 1000000; decide, fun e he => ?_⟩
      obtain ⟨hi, rfl, hhi⟩ := sm_oD (sm_of (l := [.none, .int 3, .int 4, .int 6, .int 2, .int 5]) (by decide) he)
      exact ⟨by rw [List.length_map]; omega, by show 3 ≤ 1000; decide, Cl.here ⟨some (.im (.str c)), some (.im (oD none)), some (.im (oD hi)), rs ++ [(c, none, hi)], cl none hi _ _, fin _ _ hlo hhi⟩⟩
    | some lo =>
      refine ⟨by show 6 ≤ 1000; decide, _, _, rfl, rfl, (fun z => nomatch z), by show 6 < 1000000; decide, fun e he => ?_⟩
      have se : e = .none ∨ ∃ i : Int, e = .int i ∧ i.natAbs ≤ 1000 := by
        refine sm_of (l := [.none, .int 3, .int 4, .int 6, .int lo, .int 5]) ?_ he
        have := hlo lo rfl
        simp [smB, this]
      obtain ⟨hi, rfl, hhi⟩ := sm_oD se
      refine ⟨by rw [List.length_map]; omega, ?_⟩
      cases hi with
      | none => exact ⟨by show 3 ≤ 1000; decide, Cl.here ⟨some (.im (.str c)), some (.im (oD (some lo))), some (.im (oD none)), rs ++ [(c, some lo, none)], cl (some lo) none _ _, fin _ _ hlo hhi⟩⟩
      | some hi =>
        show if decide (lo ≤ hi) = true then _ else _
        refine iteB (fun h => ?_) (fun h => ?_)
        · exact ⟨by show 3 ≤ 1000; decide, Cl.here ⟨some (.im (.str c)), some (.im (oD (some lo))), some (.im (oD (some hi))), rs ++ [(c, some lo, some hi)], cl (some lo) (some hi) _ _, fin _ _ hlo hhi⟩⟩
        · exact ⟨by show 3 ≤ 1000; decide, Cl.here ⟨some (.im (.str c)), some (.im (oD (some lo))), some (.im (oD (some hi))), rs ++ [(c, some lo, some lo)], cl (some lo) (some lo) _ _, fin _ _ hlo hlo⟩⟩
  · obtain ⟨x3, x4, x5, rs, rfl, hr, ok⟩ := hI
    exact p rs (by omega) ok
end LW

namespace LW
open PySem PySem.Spec PyProof.Rows L2 GL
abbrev s_law_nested_question : Stmt := topS 29
theorem sc_law_nested_question : FnScope ["bag", "most", "names", "parents", "ends", "at", "columns", "turn", "tables", "atoms", "table", "word"] ["bag", "most"] (defScope s_law_nested_question) := ⟨rfl, rfl, rfl, by decide +kernel, rfl, by decide +kernel, by decide +kernel⟩
theorem ok_law_nested_question {P : Program} {w : World} {K : PySem.W.Frag} {mg : Str → Option Value} {base : Heap} (D : DefAt K mg "_law_nested_question" s_law_nested_question ["bag", "most"]) (c__law_columns_mixed : Cal P w K mg base 3 "_law_columns_mixed" (spW K wCols)) (c__law_forest : Cal P w K mg base 3 "_law_forest" (spW K wForest)) (c__law_mixed : Cal P w K mg base 2 "_law_mixed" (spW K wMixed)) (c__law_ranges : Cal P w K mg base 3 "_law_ranges" (spW K wRanges)) (c__law_some : Cal P w K mg base 2 "_law_some" (spW K wSome)) (c__law_take : Cal P w K mg base 1 "_law_take" (spW K wTake)) (m_len : mg "len" = none) (m_range : mg "range" = none) (m_tuple : mg "tuple" = none) (m_zip : mg "zip" = none) :
    Cal P w K mg base 4 "_law_nested_question" (spW K wNestedN) := by
  refine cal_mk D sc_law_nested_question (fun vs H Q E h => sp_len (lennested2) h) (fun f cdv A outer s H vs Q E hG hr h => ?_)
  have h' := h
  obtain ⟨bg, M, ds, P', km, gB, gA, hw, q⟩ := h'
  have nd := sc_law_nested_question.nd
  refine ⟨_, (pss_cons (ps_set (i := 2) nd rfl (.inl rfl) (pe_slice sl_list (pe_cg c__law_mixed (by exact hG) (by exact hr) (by decide) (by rfl) (pa_cons (pv 0) (pa_cons (pe_lst (pa_cons pe_str (pa_cons pe_str (pa_cons pe_str (pa_cons pe_str (pa_cons pe_str (pa_cons pe_str pa_nil))))))) pa_nil))) po_none (po_some (pe_op op_add pe_int (pe_cg c__law_take (by exact hG) (by exact hr) (by decide) (by rfl) (pa_cons (pv 0) (pa_cons (pv 1) pa_nil)))))))
    (pss_cons (ps_set (i := 3) nd rfl (.inr rfl) (pe_cg c__law_forest (by exact hG) (by exact hr) (by decide) (by rfl) (pa_cons (pv 0) (pa_cons (pe_callB (call_len2 : CallR _ (.builtin "len") (rLen2 K)) (by rfl) m_len PySem.boot_len (pa_cons (pv 2) pa_nil)) pa_nil))))
    (pss_cons (ps_setLc (i := 4) (own := [("at", 5)]) (g := gName 5) (by rfl) nd rfl rfl (sw_true rfl rfl rfl (by decide +kernel)) (pi_range1 (by rfl) m_range (pa_cons (pe_callB (call_len2 : CallR _ (.builtin "len") (rLen2 K)) (by rfl) m_len PySem.boot_len (pa_cons (pv 2) pa_nil)) pa_nil)) (blkOk_by (own := [("at", 5)]) (N := ["bag", "most", "names", "parents", "ends", "at", "columns", "turn", "tables", "atoms", "table", "word"]) (sc := (defScope s_law_nested_question)) (by decide +kernel)) (fun _ _ _ _ _ => (pg_name (i := 5) nd rfl (.inl rfl))) (fun _ _ _ _ _ => (pts_one (pt_cmpR (op_notIn_seq : OpR _ (compareOp .NotIn) (rIn K true)) (pv 5) (pv 3) (by rfl)))) (fun _ _ _ _ _ => (pe_tupF (pa_cons pe_str (pa_cons (pv 5) pa_nil)))))
    (pss_cons (ps_for PassesOwn.never rfl (pi_range1 (by rfl) m_range (pa_cons (pe_callB (call_len2 : CallR _ (.builtin "len") (rLen2 K)) (by rfl) m_len PySem.boot_len (pa_cons (pv 2) pa_nil)) pa_nil)) (pg_name (i := 5) nd rfl (.inl rfl)) (pss_one (ps_for PassesOwn.never rfl (pi_range1 (by rfl) m_range (pa_cons (pe_cg c__law_some (by exact hG) (by exact hr) (by decide) (by rfl) (pa_cons (pv 0) (pa_cons (pe_lst (pa_cons pe_int (pa_cons pe_int (pa_cons pe_int (pa_cons pe_int (pa_cons pe_int pa_nil)))))) pa_nil))) pa_nil)) (pg_name (i := 7) nd rfl (.inl rfl)) (pss_one (ps_expr (pe_bm PySem.F.plainAttrs_list PySem.F.slot_list_append PySem.F.type_list_append mt_append (pv 4) (pa_cons (pe_tupF (pa_cons (pe_cg c__law_some (by exact hG) (by exact hr) (by decide) (by rfl) (pa_cons (pv 0) (pa_cons (pe_lst (pa_cons pe_str (pa_cons pe_str (pa_cons pe_str pa_nil)))) pa_nil))) (pa_cons (pv 5) pa_nil))) pa_nil)))))))
    (pss_cons (ps_par (i := 8) (j := 9) (by rfl) nd rfl rfl (by decide) rfl rfl (pa_cons (pe_cg c__law_mixed (by exact hG) (by exact hr) (by decide) (by rfl) (pa_cons (pv 0) (pa_cons (pe_lst (pa_cons pe_str (pa_cons pe_str (pa_cons pe_str (pa_cons pe_str (pa_cons pe_str (pa_cons pe_str (pa_cons pe_str (pa_cons pe_str pa_nil))))))))) pa_nil))) (pa_cons (pe_lst pa_nil) pa_nil)) (by rfl))
    (pss_cons (ps_for PassesOwn.never rfl (pi_zip (by rfl) m_zip (pa_cons (pv 4) (pa_cons (pv 8) pa_nil)) : PI _ _ _ (iZip K _)) (pg_tup rfl (pgs_cons (pg_tup rfl (pgs_cons (pg_name (i := 11) nd rfl (.inl rfl)) (pgs_cons (pg_name (i := 5) nd rfl (.inl rfl)) pgs_nil))) (pgs_cons (pg_name (i := 10) nd rfl (.inl rfl)) pgs_nil))) (pss_one (ps_expr (pe_bm PySem.F.plainAttrs_list PySem.F.slot_list_append PySem.F.type_list_append mt_append (pv 9) (pa_cons (pe_tupF (pa_cons (pv 11) (pa_cons (pv 10) (pa_cons (pe_cg c__law_columns_mixed (by exact hG) (by exact hr) (by decide) (by rfl) (pa_cons (pv 0) (pa_cons (pv 2) (pa_cons (pv 3) (pa_cons (pv 5) pa_nil))))) pa_nil)))) pa_nil)))))
    (pss_cons (ps_set (i := 6) nd rfl (.inl rfl) (pe_callTy (call_tupF : CallR _ (.type "tuple") (rTupF K)) (by rfl) m_tuple (by decide +kernel) (pa_cons (pe_cg c__law_mixed (by exact hG) (by exact hr) (by decide) (by rfl) (pa_cons (pv 0) (pa_cons (pv 2) pa_nil))) pa_nil)))
    (pss_one (ps_ret (pe_tupF (pa_cons (pv 6) (pa_cons (pe_callTy (call_tupF : CallR _ (.type "tuple") (rTupF K)) (by rfl) m_tuple (by decide +kernel) (pa_cons (pe_cg c__law_mixed (by exact hG) (by exact hr) (by decide) (by rfl) (pa_cons (pv 0) (pa_cons (pv 9) pa_nil))) pa_nil)) (pa_cons (pe_cg c__law_ranges (by exact hG) (by exact hr) (by decide) (by rfl) (pa_cons (pv 0) (pa_cons (pv 6) pa_nil))) pa_nil))))))))))))), ?_⟩
  refine w_use (N := ["bag", "most", "names", "parents", "ends", "at", "columns", "turn", "tables", "atoms", "table", "word"]) (rs_seq (rs_set 2 (re_slice rx_listE (RE.b (re_call (ra_b 0 (ra_cons (re_lst (rd_cons (re_str _) (rd_cons (re_str _) (rd_cons (re_str _) (rd_cons (re_str _) (rd_cons (re_str _) (rd_cons (re_str _) rd_nil))))))) ra_nil)))) ro_none (ro_sm (re_op rp_add (RE.b (re_int _)) (RE.b (re_call (ra_b 0 (ra_cons (re_v 1) ra_nil))))))))
    (rs_seq (rs_set 3 (re_call (ra_b 0 (ra_cons (re_cb rq_lenE (rx_cons (RE.b (re_v 2)) rx_nil)) ra_nil))))
    (rs_seq (rs_ownLcC 4 (ri_r1 (rx_cons (RE.b (re_cb rq_lenE (rx_cons (RE.b (re_v 2)) rx_nil))) rx_nil)) (rg_name 5) (by decide) (rt_tst (re_op rp_in (RE.b (re_v 5)) (RE.b (re_v 3)))) (re_tup (rd_cons (re_str _) (rd_cons (re_v 5) rd_nil))))
    (rs_seq (rs_forC (ri_r1 (rx_cons (RE.b (re_cb rq_lenE (rx_cons (RE.b (re_v 2)) rx_nil))) rx_nil)) (rg_name 5) (rs_forC (ri_r1 (rx_cons (RE.b (re_call (ra_b 0 (ra_cons (re_lst (rd_cons (re_int _) (rd_cons (re_int _) (rd_cons (re_int _) (rd_cons (re_int _) (rd_cons (re_int _) rd_nil)))))) ra_nil)))) rx_nil)) (rg_name 7) (rs_app 4 (re_tup (rd_cons (re_call (ra_b 0 (ra_cons (re_lst (rd_cons (re_str _) (rd_cons (re_str _) (rd_cons (re_str _) rd_nil)))) ra_nil))) (rd_cons (re_v 5) rd_nil))))))
    (rs_seq (rs_parO 8 9 (re_call (ra_b 0 (ra_cons (re_lst (rd_cons (re_str _) (rd_cons (re_str _) (rd_cons (re_str _) (rd_cons (re_str _) (rd_cons (re_str _) (rd_cons (re_str _) (rd_cons (re_str _) (rd_cons (re_str _) rd_nil))))))))) ra_nil))))
    (rs_weak (rs_seq (rs_forC (ri_z (rd_cons (re_v 4) (rd_cons (re_v 8) rd_nil))) (rg_t2 (rg_t2 (rg_name 11) (rg_name 5)) (rg_name 10)) (rs_app 9 (re_tup (rd_cons (re_v 11) (rd_cons (re_v 10) (rd_cons (re_call (ra_b 0 (ra_cons (re_v 2) (ra_cons (re_v 3) (ra_cons (re_v 5) ra_nil))))) rd_nil))))))
    (rs_seq (rs_set 6 (re_cb rq_tup (rx_cons (RE.b (re_call (ra_b 0 (ra_cons (re_v 2) ra_nil)))) rx_nil)))
    (rs_weak (rs_ret (re_tup (rd_cons (re_v 6) (rd_cons (re_cb rq_tup (rx_cons (RE.b (re_call (ra_b 0 (ra_cons (re_v 9) ra_nil)))) rx_nil)) (rd_cons (re_call (ra_b 0 (ra_cons (re_v 6) ra_nil))) rd_nil)))))))))))))) km gB gA q ?_
  clear q gA gB km h
  generalize P' = Z at hw ⊢
  obtain ⟨most, rfl, m1, m6, p⟩ := hw
  refine ⟨by show 6 ≤ 1000; decide, _, rfl, by show 6 ≤ 1000; decide, fun ys hy => ?_⟩
  obtain ⟨m, rfl, pm⟩ := perm_map (f := .str) (l := nm6) hy
  refine ⟨(most : Int), rfl, by omega, by omega, fun r r0 r1 => ?_⟩
  refine ⟨_, cut_toI .str m (k := (1 + r).toNat) (by omega), ?_⟩
  generalize hnm : m.take (1 + r).toNat = names
  have nd : names.Nodup := by rw [← hnm]; exact (pm.nodup_iff.mpr nm6_nd).sublist (List.take_sublist _ _)
  have ns : ∀ x ∈ names, SmS x := fun x hx => nm6_sm x (pm.mem_iff.mp (List.mem_of_mem_take (by rw [hnm]; exact hx)))
  have nl : names.length ≤ 6 := by
    rw [← hnm, List.length_take, pm.length_eq]
    exact Nat.min_le_right _ _
  have nlm : names.length ≤ most := by
    rw [← hnm, List.length_take, pm.length_eq]
    have : (1 + r).toNat ≤ most := by omega
    exact Nat.le_trans (Nat.min_le_left _ _) this
  have n1 : 1 ≤ names.length := by
    rw [← hnm, List.length_take, pm.length_eq]
    show 1 ≤ min _ 6
    omega
  clear hnm hy pm
  generalize hn : names.length = n at *
  refine ⟨n, by rw [List.length_map, hn], n, rfl, by omega, fun par hp ok => ?_⟩
  refine WLc.mk ⟨n, by rw [List.length_map, hn], by omega, by omega, rg_iN rfl ?_⟩
  refine lci_mf (f := iN) (l := List.range n) (p := fun i => !inD (iN i) (par.map oN)) (g := fun i => eD (Str.ofString "has", i)) (by rw [List.length_range]; omega) (fun a z acc J j1 j2 => ?_) ?_
  · refine ⟨rfl, flat_oN par, ?_⟩
    show if (!inD (iN a) (par.map oN)) = true then _ else _
    exact iteB (fun h => ⟨by show 2 ≤ 1000; decide, j1 h⟩) (fun h => j2 h)
  generalize hes : (List.range n).filter (fun i => !inD (iN i) (par.map oN)) = es0
  have es0l : es0.length ≤ 6 := by rw [← hes]; exact Nat.le_trans (List.length_filter_le _ _) (by rw [List.length_range]; exact nl)
  have lv : ∀ b, b < n → some b ∉ par → b ∈ es0 := fun b hb nb => by
    rw [← hes]
    exact List.mem_filter.mpr ⟨List.mem_range.mpr hb, by rw [inD_oN, decide_eq_false nb]; rfl⟩
  have es0m : ∀ e ∈ es0.map (fun i => (Str.ofString "has", i)), SmS e.1 ∧ e.2 < n := fun e he => by
    obtain ⟨i, hi, rfl⟩ := List.mem_map.mp he
    rw [← hes] at hi
    exact ⟨has_sm, List.mem_range.mp (List.mem_filter.mp hi).1⟩
  have e0 : es0.map (fun i => eD (Str.ofString "has", i)) = (es0.map fun i => (Str.ofString "has", i)).map eD := by rw [List.map_map]; rfl
  rw [e0]
  have es1l : (es0.map fun i => (Str.ofString "has", i)).length ≤ 6 := by rw [List.length_map]; exact es0l
  have lv : ∀ b, b < n → some b ∉ par → (Str.ofString "has", b) ∈ es0.map (fun i => (Str.ofString "has", i)) := fun b h1 h2 => List.mem_map.mpr ⟨b, lv b h1 h2, rfl⟩
  generalize es0.map (fun i => (Str.ofString "has", i)) = es1 at es0m es1l lv
  clear hes e0 es0l
  refine for_l (f := iN) (l := List.range n) (fun P' h => ⟨n, by rw [List.length_map, hn], by omega, by omega, rg_iN rfl h⟩)
    (fun i ρ => ∃ (x5 x7 : Option DV) (es : List (Str × Nat)), ρ = [some .bag, some (.im (.int (most : Nat))), some (.im (.list (names.map .str))), some (.im (.list (par.map oN))), some (.ow (es.map eD)), x5, none, x7, none, none, none, none] ∧ es.length ≤ 6 + 2 * i ∧ (∃ r, es = es1 ++ r) ∧ ∀ e ∈ es, SmS e.1 ∧ e.2 < n)
    ⟨none, none, es1, rfl, by omega, ⟨[], (List.append_nil _).symm⟩, es0m⟩ (fun i a ρ' ha hI => ?_) (fun ρ' hI => ?_)
  · obtain ⟨x5, x7, es, rfl, hel, hpre, hem⟩ := hI
    obtain ⟨rfl, hi⟩ := range_get ha
    refine wFor.mk ⟨by show 5 ≤ 1000; decide, _, _, rfl, rfl, (fun z => nomatch z), by show 5 < 1000000; decide, fun d hd => ?_⟩
    obtain ⟨k, hk, rfl⟩ := nat_of (l := [0, 0, 1, 1, 2]) hd
    have k2 : k ≤ 2 := by
      simp at hk
      omega
    refine ⟨by omega, by omega, rg_iN rfl ?_⟩
    refine fori_l (f := iN) (l := List.range k) (fun j ρ => ∃ (x7 : Option DV) (es : List (Str × Nat)), ρ = [some .bag, some (.im (.int (most : Nat))), some (.im (.list (names.map .str))), some (.im (.list (par.map oN))), some (.ow (es.map eD)), some (.im (iN a)), none, x7, none, none, none, none] ∧ es.length ≤ 6 + 2 * a + j ∧ (∃ r, es = es1 ++ r) ∧ ∀ e ∈ es, SmS e.1 ∧ e.2 < n)
      ⟨x7, es, rfl, by omega, hpre, hem⟩ (fun j b ρ' hb hJ => ?_) (fun ρ' hJ => ?_)
    · obtain ⟨x7, es, rfl, hel, ⟨r, hr⟩, hem⟩ := hJ
      obtain ⟨rfl, hj⟩ := range_get hb
      refine ⟨by rw [List.length_map]; omega, by show 3 ≤ 1000; decide, _, _, rfl, rfl, (fun z => nomatch z), by show 3 < 1000000; decide, fun d hd => ?_⟩
      obtain ⟨wd, hwd, rfl⟩ := str_of (l := hn3) hd
      refine ⟨by show 2 ≤ 1000; decide, Cl.here ⟨some (.im (iN b)), es ++ [(wd, a)], ?_, by rw [List.length_append]; show _ + 1 ≤ _; omega, ⟨r ++ [(wd, a)], by rw [hr, List.append_assoc]⟩, fun e he => ?_⟩⟩
      · rw [List.map_append]
        rfl
      · rcases List.mem_append.mp he with h | h
        · exact hem e h
        · rw [List.mem_singleton.mp h]
          exact ⟨hn3_sm _ hwd, hi⟩
    · obtain ⟨x7, es, rfl, hel, hpre, hem⟩ := hJ
      rw [List.length_range] at hel
      exact Cl.here ⟨_, x7, es, rfl, by omega, hpre, hem⟩
  obtain ⟨x5, x7, es, rfl, hel, ⟨esr, hpre⟩, hem⟩ := hI
  rw [List.length_range] at hel
  refine ⟨by show 8 ≤ 1000; decide, _, rfl, by show 8 ≤ 1000; decide, fun ys hy => ?_⟩
  obtain ⟨tb, rfl, pt⟩ := perm_map (f := .str) (l := tb8) hy
  have tl : tb.length = 8 := pt.length_eq
  have ts : ∀ x ∈ tb, x ∈ tb8 := fun x hx => pt.mem_iff.mp hx
  clear hy
  refine ⟨_, Le.freeze (i := 4) rfl, ?_⟩
  refine for_l (f := fun p : (Str × Nat) × Str => .tuple [eD p.1, .str p.2]) (l := es.zip tb) (fun P' h => ?_)
    (fun i ρ => ∃ (x5 x10 x11 : Option DV) (as : List Atm), ρ = [some .bag, some (.im (.int (most : Nat))), some (.im (.list (names.map .str))), some (.im (.list (par.map oN))), some (.im (.list (es.map eD))), x5, none, x7, some (.im (.list (tb.map .str))), some (.ow (as.map atD)), x10, x11] ∧ as.length ≤ i ∧ (as.map fun a => a.2.1) = ((es.zip tb).take i).map (·.2) ∧ (∀ (j : Nat) (e : (Str × Nat) × Str), (es.zip tb)[j]? = some e → j < i → ∃ a ∈ as, ∀ x, x ∈ a.2.2 ↔ ∃ k, Anc par k e.1.2 ∧ names[k]? = some x) ∧ ∀ a ∈ as, AOk a ∧ Line names par a.2.2 ∧ (∀ x ∈ a.2.2, x ∈ names) ∧ a.2.2.Nodup ∧ a.2.2 ≠ [])
    ⟨x5, none, none, [], rfl, Nat.le_refl _, rfl, (fun j _ _ h => absurd h (Nat.not_lt_zero j)), fun _ z => nomatch z⟩ (fun i e ρ' he hI => ?_) (fun ρ' hI => ?_)
  · refine ⟨fun i a b h1 h2 => ?_, ?_⟩
    · rw [List.getElem?_map] at h1
      cases e : es[i]? with
      | none => rw [e] at h1; cases h1
      | some x =>
        rw [e] at h1
        cases h1
        rfl
    · show P' (zipD (es.map eD) (tb.map .str))
      rw [zipD_map]
      exact h
  · obtain ⟨x5, x10, x11, as, rfl, hal, hnm, hcv, ham⟩ := hI
    have hi : i < (es.zip tb).length := (List.getElem?_eq_some_iff.mp he).1
    rw [List.length_zip] at hi
    have hm := List.mem_of_getElem? he
    obtain ⟨⟨wd, at_⟩, tn⟩ := e
    obtain ⟨hme, hmt⟩ := List.of_mem_zip hm
    obtain ⟨hw, hat⟩ := hem _ hme
    have hat : at_ < n := hat
    refine ⟨by rw [List.length_map]; omega, names, par, at_, rfl, by omega, by omega, by omega, ok, nd, fun cols hcols hcl hcm hcn => ?_⟩
    have hL : Line names par cols := ⟨at_, hcols⟩
    refine ⟨by show 3 ≤ 1000; decide, Cl.here ⟨some (.im (.int (at_ : Nat))), some (.im (.str tn)), some (.im (.str wd)), as ++ [(wd, tn, cols)], ?_, by rw [List.length_append]; show _ + 1 ≤ _; omega, ?_, fun j e hj lj => ?_, fun a ha => ?_⟩⟩
    · rw [List.map_append]
      rfl
    · rw [List.take_add_one, he, List.map_append, List.map_append, hnm]
      rfl
    · by_cases z : j < i
      · obtain ⟨a, h1, h2⟩ := hcv j e hj z
        exact ⟨a, List.mem_append_left _ h1, h2⟩
      · have z : j = i := by omega
        rw [z, he] at hj
        cases hj
        exact ⟨_, List.mem_append_right _ List.mem_cons_self, hcols⟩
    · rcases List.mem_append.mp ha with h | h
      · exact ham a h
      · rw [List.mem_singleton.mp h]
        exact ⟨⟨hw, ts _ hmt, by show cols.length ≤ 6; omega, fun x hx => ns x (hcm x hx)⟩, hL, hcm, hcn, fun z => by
          have hx : names[at_]? = some (names[at_]'(by omega)) := List.getElem?_eq_getElem _
          have := (hcols _).mpr ⟨at_, .here at_, hx⟩
          have z : cols = [] := z
          rw [z] at this
          cases this⟩
  obtain ⟨x5, x10, x11, as, rfl, hal, hnm, hcv, ham⟩ := hI
  have hal8 : as.length ≤ 8 := by rw [List.length_zip] at hal; omega
  refine ⟨_, rfl, by rw [List.length_map]; omega, fun ys hy => ?_⟩
  obtain ⟨cs, rfl, pc⟩ := perm_map hy
  refine ⟨_, Le.freeze (i := 9) rfl, ?_⟩
  refine ⟨_, rfl, by rw [List.length_map]; omega, fun ys hy => ?_⟩
  obtain ⟨bs, rfl, pb⟩ := perm_map hy
  have csl : cs.length ≤ 6 := by rw [pc.length_eq]; omega
  have css : ∀ x ∈ cs, SmS x := fun x hx => ns x (pc.mem_iff.mp hx)
  refine ⟨cs, rfl, csl, css, fun rs hrl hrm => ⟨by show 3 ≤ 1000; decide, ?_⟩⟩
  exact p ⟨cs, bs, rs⟩ ⟨fun z => by have := pc.length_eq; rw [show cs = [] from z] at this; simp at this; omega, csl, css, by show bs.length ≤ 8; rw [pb.length_eq]; exact hal8, fun a ha => (ham a (pb.mem_iff.mp ha)).1, fun a ha x hx => pc.mem_iff.mpr ((ham a (pb.mem_iff.mp ha)).2.2.1 x hx), hrl, hrm⟩ ⟨names, par, nd, fun a ha => (ham a (pb.mem_iff.mp ha)).2.1⟩ (fun x hx => by
    obtain ⟨k, hk⟩ := List.getElem?_of_mem (pc.mem_iff.mp hx)
    have lk := (List.getElem?_eq_some_iff.mp hk).1
    obtain ⟨b, hb, g1, g2⟩ := leaf_below ok par.length k (by omega) (by omega)
    obtain ⟨j, hj⟩ := List.getElem?_of_mem (lv b (by omega) g2)
    have lj := (List.getElem?_eq_some_iff.mp hj).1
    have hj2 : es[j]? = some (Str.ofString "has", b) := by rw [hpre, List.getElem?_append_left lj]; exact hj
    have tj : tb[j]? = some (tb[j]'(by omega)) := List.getElem?_eq_getElem _
    have hz : (es.zip tb)[j]? = some ((Str.ofString "has", b), tb[j]'(by omega)) := by rw [List.zip, List.getElem?_zipWith, hj2, tj]
    obtain ⟨a, ha, hc⟩ := hcv j _ hz (List.getElem?_eq_some_iff.mp hz).1
    exact ⟨a, pb.mem_iff.mpr ha, (hc x).mpr ⟨k, g1, hk⟩⟩) ⟨pc.nodup_iff.mpr nd, fun a ha => (ham a (pb.mem_iff.mp ha)).2.2.2⟩ (by
    show (bs.map fun a => a.2.1).Nodup
    rw [(pb.map _).nodup_iff, hnm, List.take_of_length_le (Nat.le_refl _)]
    exact zip_snd_nd (pt.nodup_iff.mpr tb8_nd)) (by
    show cs.length ≤ most
    rw [pc.length_eq]
    omega)
end LW

namespace LW
open PySem PySem.Spec PyProof.Rows L2 GL
abbrev s_is_above : Stmt := topS 14
theorem sc_is_above : FnScope ["question", "one", "other", "mine", "its", "atom"] ["question", "one", "other"] (defScope s_is_above) := ⟨rfl, rfl, rfl, by decide +kernel, rfl, by decide +kernel, by decide +kernel⟩
theorem ok_is_above {P : Program} {w : World} {K : PySem.W.Frag} {mg : Str → Option Value} {base : Heap} (D : DefAt K mg "_is_above" s_is_above ["question", "one", "other"]) (c_atoms_of : Cal P w K mg base 1 "atoms_of" (spW K wAtoms)) (m_all : mg "all" = none) (m_len : mg "len" = none) :
    Cal P w K mg base 2 "_is_above" (spW K wAbove) := by
  refine cal_mk D sc_is_above (fun vs H Q E h => sp_len (len_is_above) h) (fun f cdv A outer s H vs Q E hG hr h => ?_)
  have h' := h
  obtain ⟨bg, M, ds, P', km, gB, gA, hw, q⟩ := h'
  have nd := sc_is_above.nd
  refine ⟨_, (pss_cons (ps_asg (pe_tupF (pa_cons (pe_cg c_atoms_of (by exact hG) (by exact hr) (by decide) (by rfl) (pa_cons (pv 0) (pa_cons (pv 1) pa_nil))) (pa_cons (pe_cg c_atoms_of (by exact hG) (by exact hr) (by decide) (by rfl) (pa_cons (pv 0) (pa_cons (pv 2) pa_nil))) pa_nil))) (pg_tup rfl (pgs_cons (pg_name (i := 3) nd rfl (.inr rfl)) (pgs_cons (pg_name (i := 4) nd rfl (.inl rfl)) pgs_nil))))
    (pss_cons (ps_if (pt_not (pt_val (pe_callB (cr_all rfl : CallR _ (.builtin "all") (rAll K)) (by rfl) m_all (by decide +kernel) (pa_cons (pe_lc (own := [("atom", 5)]) (g := gName 5) (tt := tYes) (by rfl) nd (pi_tup (pv 4) : PI _ _ _ (iTup K _)) (blkOk_by (own := [("atom", 5)]) (N := ["question", "one", "other", "mine", "its", "atom"]) (sc := (defScope s_is_above)) (by decide +kernel)) (fun _ _ _ _ _ => (pg_name (i := 5) nd rfl (.inl rfl))) (fun _ _ _ _ _ => pts_nil) (fun _ _ _ _ _ => (pe_cmpR (op_in_seq : OpR _ (compareOp .In) (rIn K false)) (pv 5) (pv 3) (by rfl)))) pa_nil)))) (pss_one (ps_ret pe_bl)) pss_nil)
    (pss_one (ps_ret (pe_or (pe_cmpR op_gt (pe_callB (call_len2 : CallR _ (.builtin "len") (rLen2 K)) (by rfl) m_len PySem.boot_len (pa_cons (pv 3) pa_nil)) (pe_callB (call_len2 : CallR _ (.builtin "len") (rLen2 K)) (by rfl) m_len PySem.boot_len (pa_cons (pv 4) pa_nil)) (nomark _)) (pe_one (pe_cmpR op_lt (pe_tidx (pe_ix (ix_seq : IxR _ (rIx K)) (pv 0) pe_int (fun _ _ => rfl)) (pa_cons (pv 1) pa_nil) : PE _ _ (tIdx K _ _)) (pe_tidx (pe_ix (ix_seq : IxR _ (rIx K)) (pv 0) pe_int (fun _ _ => rfl)) (pa_cons (pv 2) pa_nil) : PE _ _ (tIdx K _ _)) (nomark _)))))))), ?_⟩
  refine w_use (N := ["question", "one", "other", "mine", "its", "atom"]) (rs_seq (rs_asg (re_tup (rd_cons (re_call (ra_cons (re_v 0) (ra_cons (re_v 1) ra_nil))) (rd_cons (re_call (ra_cons (re_v 0) (ra_cons (re_v 2) ra_nil))) rd_nil))) (rg_t2 (rg_name 3) (rg_name 4)))
    (rs_seq (rs_if (rt_not (rt_vl (re_cb rq_all (rx_cons (RE.b (re_lcC (ri_t (re_v 4)) (rg_name 5) (by decide) rt_yes (re_op rp_in (RE.b (re_v 5)) (RE.b (re_v 3))))) rx_nil)))) (rs_ret (re_bl _)) rs_next)
    (rs_ret (re_orC (re_op rp_cmp (RE.b (re_cb rq_lenE (rx_cons (RE.b (re_v 3)) rx_nil))) (RE.b (re_cb rq_lenE (rx_cons (RE.b (re_v 4)) rx_nil)))) (re_op rp_cmp (RE.b (re_idx (re_op rp_ix (RE.b (re_v 0)) (RE.b (re_int _))) (rx_cons (RE.b (re_v 1)) rx_nil))) (RE.b (re_idx (re_op rp_ix (RE.b (re_v 0)) (RE.b (re_int _))) (rx_cons (RE.b (re_v 2)) rx_nil)))))))) km gB gA q ?_
  clear q gA gB km h
  generalize P' = Z at hw ⊢
  obtain ⟨q, x, y, rfl, ok, hx, hy, p⟩ := hw
  have al : q.as.length ≤ 1000 := by have := ok.al; omega
  have l1 : (idx q.as y).length ≤ 1000 := Nat.le_trans (num_le ok y) (by decide)
  refine ⟨q, x, rfl, al, q, y, rfl, al, by show 2 ≤ 1000; decide, ?_⟩
  refine lc_mf (f := .int) (l := idx q.as y) (p := fun _ => true) (g := fun i => .bool (decide (i ∈ idx q.as x))) l1 (fun P' h => h) (fun i hi acc J j1 _ => ?_) ?_
  · refine ⟨rfl, flat_int _, ?_⟩
    show J (acc ++ [PyData.bool (inD (.int i) ((idx q.as x).map .int))])
    rw [inD_int]
    exact j1 rfl
  rw [show (idx q.as y).filter (fun _ => true) = idx q.as y from List.filter_eq_self.mpr fun _ _ => rfl]
  refine ⟨(idx q.as y).map fun i => decide (i ∈ idx q.as x), by rw [List.map_map]; rfl, ?_⟩
  have ea : ((idx q.as y).map fun i => decide (i ∈ idx q.as x)).all id = (idx q.as y).all fun i => decide (i ∈ idx q.as x) := by rw [List.all_map]; rfl
  show if (!((idx q.as y).map fun i => decide (i ∈ idx q.as x)).all id) = true then _ else _
  rw [ea]
  cases e : (idx q.as y).all fun i => decide (i ∈ idx q.as x) with
  | false =>
    have e2 : abv q x y = false := by unfold abv; rw [e]; rfl
    rw [e2] at p
    exact p
  | true =>
    refine ⟨((num q x : Nat) : Int), by rw [List.length_map]; rfl, ((num q y : Nat) : Int), by rw [List.length_map]; rfl, iteB (fun h => ?_) (fun h => ?_)⟩
    · have h := of_decide_eq_true h
      have e2 : abv q x y = true := by
        unfold abv
        rw [e, Bool.true_and, Bool.or_eq_true]
        exact .inl (decide_eq_true (by omega))
      rw [e2] at p
      exact p
    · have h := of_decide_eq_false h
      refine ⟨_, rfl, q.cs, rfl, ok.c0, x, pos q x, rfl, ixOf_at hx, fun m h => ixOf_no m h, _, rfl, q.cs, rfl, ok.c0, y, pos q y, rfl, ixOf_at hy, fun m h => ixOf_no m h, ?_⟩
      have e2 : abv q x y = decide ((pos q x : Int) < (pos q y : Int)) := by
        unfold abv
        rw [e, Bool.true_and, decide_eq_false (by omega), Bool.false_or, Bool.eq_iff_iff, decide_eq_true_eq, decide_eq_true_eq]
        omega
      rw [e2] at p
      exact p
end LW

namespace LW
open PySem PySem.Spec PyProof.Rows L2 GL
abbrev s_law_is_above : Stmt := topS 33
theorem sc_law_is_above : FnScope ["question", "one", "other", "mine", "its", "index"] ["question", "one", "other"] (defScope s_law_is_above) := ⟨rfl, rfl, rfl, by decide +kernel, rfl, by decide +kernel, by decide +kernel⟩
theorem ok_law_is_above {P : Program} {w : World} {K : PySem.W.Frag} {mg : Str → Option Value} {base : Heap} (D : DefAt K mg "_law_is_above" s_law_is_above ["question", "one", "other"]) (c__law_atoms_of : Cal P w K mg base 1 "_law_atoms_of" (spW K wAtomsL)) (m_len : mg "len" = none) :
    Cal P w K mg base 2 "_law_is_above" (spW K wAbove) := by
  refine cal_mk D sc_law_is_above (fun vs H Q E h => sp_len (len_law_is_above) h) (fun f cdv A outer s H vs Q E hG hr h => ?_)
  have h' := h
  obtain ⟨bg, M, ds, P', km, gB, gA, hw, q⟩ := h'
  have nd := sc_law_is_above.nd
  refine ⟨_, (pss_cons (ps_asg (pe_tupF (pa_cons (pe_cg c__law_atoms_of (by exact hG) (by exact hr) (by decide) (by rfl) (pa_cons (pv 0) (pa_cons (pv 1) pa_nil))) (pa_cons (pe_cg c__law_atoms_of (by exact hG) (by exact hr) (by decide) (by rfl) (pa_cons (pv 0) (pa_cons (pv 2) pa_nil))) pa_nil))) (pg_tup rfl (pgs_cons (pg_name (i := 3) nd rfl (.inr rfl)) (pgs_cons (pg_name (i := 4) nd rfl (.inl rfl)) pgs_nil))))
    (pss_cons (ps_if (PW.pt (pw_or (pt_cmpR op_eq (pv 1) (pv 2) (nomark _)) (pw_or1 (pt_cmpR (op_neD (by exact hr.units) : OpR _ (compareOp .NotEq) (rNeD K)) (pe_lc (own := [("index", 5)]) (g := gName 5) (by rfl) nd (pi_list (pv 4) : PI _ _ _ (iList K _)) (blkOk_by (own := [("index", 5)]) (N := ["question", "one", "other", "mine", "its", "index"]) (sc := (defScope s_law_is_above)) (by decide +kernel)) (fun _ _ _ _ _ => (pg_name (i := 5) nd rfl (.inl rfl))) (fun _ _ _ _ _ => (pts_one (pt_cmpR (op_notIn_seq : OpR _ (compareOp .NotIn) (rIn K true)) (pv 5) (pv 3) (by rfl)))) (fun _ _ _ _ _ => (pv 5))) (pe_lst pa_nil) (nomark _))))) (pss_one (ps_ret pe_bl)) pss_nil)
    (pss_one (ps_ret (pe_or (pe_cmpR op_gt (pe_callB (call_len2 : CallR _ (.builtin "len") (rLen2 K)) (by rfl) m_len PySem.boot_len (pa_cons (pv 3) pa_nil)) (pe_callB (call_len2 : CallR _ (.builtin "len") (rLen2 K)) (by rfl) m_len PySem.boot_len (pa_cons (pv 4) pa_nil)) (nomark _)) (pe_one (pe_cmpR op_lt (pe_tidx (pe_ix (ix_seq : IxR _ (rIx K)) (pv 0) pe_int (fun _ _ => rfl)) (pa_cons (pv 1) pa_nil) : PE _ _ (tIdx K _ _)) (pe_tidx (pe_ix (ix_seq : IxR _ (rIx K)) (pv 0) pe_int (fun _ _ => rfl)) (pa_cons (pv 2) pa_nil) : PE _ _ (tIdx K _ _)) (nomark _)))))))), ?_⟩
  refine w_use (N := ["question", "one", "other", "mine", "its", "index"]) (rs_seq (rs_asg (re_tup (rd_cons (re_call (ra_cons (re_v 0) (ra_cons (re_v 1) ra_nil))) (rd_cons (re_call (ra_cons (re_v 0) (ra_cons (re_v 2) ra_nil))) rd_nil))) (rg_t2 (rg_name 3) (rg_name 4)))
    (rs_seq (rs_if (rt_or (rt_tst (re_op rp_eq (RE.b (re_v 1)) (RE.b (re_v 2)))) (rt_tst (re_op ro_neD (RE.b (re_lcC (ri_l (re_v 4)) (rg_name 5) (by decide) (rt_tst (re_op rp_in (RE.b (re_v 5)) (RE.b (re_v 3)))) (re_v 5))) (RE.b (re_lst rd_nil))))) (rs_ret (re_bl _)) rs_next)
    (rs_ret (re_orC (re_op rp_cmp (RE.b (re_cb rq_lenE (rx_cons (RE.b (re_v 3)) rx_nil))) (RE.b (re_cb rq_lenE (rx_cons (RE.b (re_v 4)) rx_nil)))) (re_op rp_cmp (RE.b (re_idx (re_op rp_ix (RE.b (re_v 0)) (RE.b (re_int _))) (rx_cons (RE.b (re_v 1)) rx_nil))) (RE.b (re_idx (re_op rp_ix (RE.b (re_v 0)) (RE.b (re_int _))) (rx_cons (RE.b (re_v 2)) rx_nil)))))))) km gB gA q ?_
  clear q gA gB km h
  generalize P' = Z at hw ⊢
  obtain ⟨q, x, y, rfl, ok, hx, hy, p⟩ := hw
  have al : q.as.length ≤ 1000 := by have := ok.al; omega
  have l1 : (idx q.as y).length ≤ 1000 := Nat.le_trans (num_le ok y) (by decide)
  refine ⟨q, x, rfl, al, q, y, rfl, al, by show 2 ≤ 1000; decide, ?_⟩
  have same : (x == y) = true → abv q x y = false := fun h => by
    have := LawfulBEq.eq_of_beq h
    subst this
    cases e : abv q x x with
    | false => rfl
    | true => exact absurd ((abv_iff ok hx hx).mp e).2 (Nat.lt_irrefl _)
  refine ⟨rfl, ?_⟩
  show if PyData.eqv (.str x) (.str y) = true then _ else _
  rw [eqvS]
  refine iteB (fun h => ?_) (fun h => ?_)
  · rw [same h] at p
    exact p
  refine lc_mf (f := .int) (l := idx q.as y) (p := fun i => !decide (i ∈ idx q.as x)) (g := .int) l1 (fun P' h => h) (fun i hi acc J j1 j2 => ?_) ?_
  · refine ⟨rfl, flat_int _, ?_⟩
    show if (!inD (.int i) ((idx q.as x).map .int)) = true then _ else _
    rw [inD_int]
    exact iteB (fun h => j1 h) (fun h => j2 h)
  refine ⟨Nat.zero_le _, hd_ints _, rfl, shaped_lints _, rfl, ?_⟩
  have ea : ((idx q.as y).filter fun i => !decide (i ∈ idx q.as x)).isEmpty = (idx q.as y).all fun i => decide (i ∈ idx q.as x) := by
    rw [Bool.eq_iff_iff, List.isEmpty_iff, List.filter_eq_nil_iff, List.all_eq_true]
    simp
  show if (!PyData.eqv (.list (((idx q.as y).filter fun i => !decide (i ∈ idx q.as x)).map .int)) (.list [])) = true then _ else _
  rw [eqv_nil, ea]
  cases e : (idx q.as y).all fun i => decide (i ∈ idx q.as x) with
  | false =>
    have e2 : abv q x y = false := by unfold abv; rw [e]; rfl
    rw [e2] at p
    exact p
  | true =>
    refine ⟨((num q x : Nat) : Int), by rw [List.length_map]; rfl, ((num q y : Nat) : Int), by rw [List.length_map]; rfl, iteB (fun h => ?_) (fun h => ?_)⟩
    · have h := of_decide_eq_true h
      have e2 : abv q x y = true := by
        unfold abv
        rw [e, Bool.true_and, Bool.or_eq_true]
        exact .inl (decide_eq_true (by omega))
      rw [e2] at p
      exact p
    · have h := of_decide_eq_false h
      refine ⟨_, rfl, q.cs, rfl, ok.c0, x, pos q x, rfl, ixOf_at hx, fun m h => ixOf_no m h, _, rfl, q.cs, rfl, ok.c0, y, pos q y, rfl, ixOf_at hy, fun m h => ixOf_no m h, ?_⟩
      have e2 : abv q x y = decide ((pos q x : Int) < (pos q y : Int)) := by
        unfold abv
        rw [e, Bool.true_and, decide_eq_false (by omega), Bool.false_or, Bool.eq_iff_iff, decide_eq_true_eq, decide_eq_true_eq]
        omega
      rw [e2] at p
      exact p
end LW

namespace LW
open PySem PySem.Spec PyProof.Rows L2 GL
abbrev s_downward : Stmt := topS 15
theorem sc_downward : FnScope ["question", "columns", "ranks", "column", "fewer", "place"] ["question", "columns"] (defScope s_downward) := ⟨rfl, rfl, rfl, by decide +kernel, rfl, by decide +kernel, by decide +kernel⟩
theorem ok_downward {P : Program} {w : World} {K : PySem.W.Frag} {mg : Str → Option Value} {base : Heap} (D : DefAt K mg "_downward" s_downward ["question", "columns"]) (c_atoms_of : Cal P w K mg base 1 "atoms_of" (spW K wAtoms)) (m_len : mg "len" = none) (m_sorted : mg "sorted" = none) (m_tuple : mg "tuple" = none) :
    Cal P w K mg base 2 "_downward" (spW K wDown) := by
  refine cal_mk D sc_downward (fun vs H Q E h => sp_len (len_downward) h) (fun f cdv A outer s H vs Q E hG hr h => ?_)
  have h' := h
  obtain ⟨bg, M, ds, P', km, gB, gA, hw, q⟩ := h'
  have nd := sc_downward.nd
  refine ⟨_, (pss_cons (ps_setLc (i := 2) (own := [("column", 3)]) (g := gName 3) (tt := tYes) (by rfl) nd rfl rfl (sw_true rfl rfl rfl (by decide +kernel)) (pi_seq (pv 1) : PI _ _ _ (iSeq K _)) (blkOk_by (own := [("column", 3)]) (N := ["question", "columns", "ranks", "column", "fewer", "place"]) (sc := (defScope s_downward)) (by decide +kernel)) (fun _ _ _ _ _ => (pg_name (i := 3) nd rfl (.inl rfl))) (fun _ _ _ _ _ => pts_nil) (fun _ _ _ _ _ => (pe_tupF (pa_cons (pe_un un_neg (pe_callB (call_len2 : CallR _ (.builtin "len") (rLen2 K)) (by rfl) m_len PySem.boot_len (pa_cons (pe_cg c_atoms_of (by exact hG) (by exact hr) (by decide) (by rfl) (pa_cons (pv 0) (pa_cons (pv 3) pa_nil))) pa_nil))) (pa_cons (pe_tidx (pe_ix (ix_seq : IxR _ (rIx K)) (pv 0) pe_int (fun _ _ => rfl)) (pa_cons (pv 3) pa_nil) : PE _ _ (tIdx K _ _)) pa_nil)))))
    (pss_one (ps_ret (pe_callTy (call_tupF : CallR _ (.type "tuple") (rTupF K)) (by rfl) m_tuple (by decide +kernel) (pa_cons (pe_lc (own := [("fewer", 4), ("place", 5)]) (g := (gTup K 2 (gCons (gName 4) (gCons (gName 5) gNil)))) (tt := tYes) (by rfl) nd (pi_list (pe_callB (cr_sortD (by exact hr.units) : CallR _ (.builtin "sorted") (rSortD K)) (by rfl) m_sorted (by decide +kernel) (pa_cons (pv 2) pa_nil)) : PI _ _ _ (iList K _)) (blkOk_by (own := [("fewer", 4), ("place", 5)]) (N := ["question", "columns", "ranks", "column", "fewer", "place"]) (sc := (defScope s_downward)) (by decide +kernel)) (fun _ _ _ _ _ => (pg_tup rfl (pgs_cons (pg_name (i := 4) nd rfl (.inl rfl)) (pgs_cons (pg_name (i := 5) nd rfl (.inl rfl)) pgs_nil)))) (fun _ _ _ _ _ => pts_nil) (fun _ _ _ _ _ => (pe_ix (ix_seq : IxR _ (rIx K)) (pe_ix (ix_seq : IxR _ (rIx K)) (pv 0) pe_int (fun _ _ => rfl)) (pv 5) (fun _ _ => rfl)))) pa_nil))))), ?_⟩
  refine w_use (N := ["question", "columns", "ranks", "column", "fewer", "place"]) (rs_seq (rs_set 2 (re_lcC (ri_q (re_v 1)) (rg_name 3) (by decide) rt_yes (re_tup (rd_cons (re_neg (re_cb rq_lenE (rx_cons (RE.b (re_call (ra_cons (re_v 0) (ra_cons (re_v 3) ra_nil)))) rx_nil))) (rd_cons (re_idx (re_op rp_ix (RE.b (re_v 0)) (RE.b (re_int _))) (rx_cons (RE.b (re_v 3)) rx_nil)) rd_nil)))))
    (rs_ret (re_cb rq_tup (rx_cons (RE.b (re_lcC (ri_l (re_cb rq_sortD (rx_cons (RE.b (re_v 2)) rx_nil))) (rg_t2 (rg_name 4) (rg_name 5)) (by decide) rt_yes (re_op rp_ix (RE.b (re_op rp_ix (RE.b (re_v 0)) (RE.b (re_int _)))) (RE.b (re_v 5))))) rx_nil)))) km gB gA q ?_
  clear q gA gB km h
  generalize P' = Z at hw ⊢
  obtain ⟨q, d, l, rfl, hd, ok, sub, ll, p⟩ := hw
  have al : q.as.length ≤ 1000 := by have := ok.al; omega
  refine lc_mf (f := .str) (l := l) (p := fun _ => true) (g := fun c => .tuple [.int (-(num q c : Nat)), .int (pos q c : Nat)]) (by omega) (fun P' h => by rcases hd with rfl | rfl <;> exact h) (fun c hc acc J j1 _ => ?_) ?_
  · exact ⟨q, c, rfl, al, ((num q c : Nat) : Int), by rw [List.length_map]; rfl, _, rfl, q.cs, rfl, ok.c0, c, pos q c, rfl, ixOf_at (sub c hc), fun m h => ixOf_no m h, by show 2 ≤ 1000; decide, j1 rfl⟩
  rw [show l.filter (fun _ => true) = l from List.filter_eq_self.mpr fun _ _ => rfl]
  obtain ⟨m, em, pm, pw⟩ := sortD_map (fun c => .tuple [.int (-(num q c : Nat)), .int (pos q c : Nat)]) l
  have e : m = dn q l := dn_of ok sub pm (pw.imp_of_mem fun {a b} ha hb h => by
    have := le_head2 h
    exact (rkq_le ok (sub a (pm.mem_iff.mp ha)) (sub b (pm.mem_iff.mp hb))).mpr (by omega))
  refine lc_mf (f := fun c => .tuple [.int (-(num q c : Nat)), .int (pos q c : Nat)]) (l := m) (p := fun _ => true) (g := .str) (by rw [pm.length_eq]; omega) (fun P' h => ⟨fun d hd => ?_, .of ?_, .tuples ?_, ?_⟩) (fun c hc acc J j1 _ => ?_) ?_
  · obtain ⟨c, _, rfl⟩ := List.mem_map.mp hd
    exact ⟨rfl, Nat.le_of_ble_eq_true rfl⟩
  · exact fun _ _ => rfl
  · exact fun _ => ⟨_, _, rfl⟩
  · show P' (sortD _)
    rw [em]
    exact h
  · exact ⟨_, rfl, _, at_map (ixOf_at (sub c (pm.mem_iff.mp hc))), j1 rfl⟩
  rw [show m.filter (fun _ => true) = m from List.filter_eq_self.mpr fun _ _ => rfl, e]
  exact p
end LW

namespace LW
open PySem PySem.Spec PyProof.Rows L2 GL
abbrev spath_of : Stmt := topS 9
theorem scpath_of : FnScope ["question", "column", "above", "other"] ["question", "column"] (defScope spath_of) := ⟨rfl, rfl, rfl, by decide +kernel, rfl, by decide +kernel, by decide +kernel⟩
theorem okpath_of {P : Program} {w : World} {K : PySem.W.Frag} {mg : Str → Option Value} {base : Heap} (D : DefAt K mg "path_of" spath_of ["question", "column"]) (c__downward : Cal P w K mg base 2 "_downward" (spW K wDown)) (c__is_above : Cal P w K mg base 2 "_is_above" (spW K wAbove)) :
    Cal P w K mg base 3 "path_of" (spW K wPath) := by
  refine cal_mk D scpath_of (fun vs H Q E h => sp_len (lenpath_of) h) (fun f cdv A outer s H vs Q E hG hr h => ?_)
  have h' := h
  obtain ⟨bg, M, ds, P', km, gB, gA, hw, q⟩ := h'
  have nd := scpath_of.nd
  refine ⟨_, (pss_cons (ps_setLc (i := 2) (own := [("other", 3)]) (g := gName 3) (by rfl) nd rfl rfl (sw_true rfl rfl rfl (by decide +kernel)) (pi_tup (pe_ix (ix_seq : IxR _ (rIx K)) (pv 0) pe_int (fun _ _ => rfl)) : PI _ _ _ (iTup K _)) (blkOk_by (own := [("other", 3)]) (N := ["question", "column", "above", "other"]) (sc := (defScope spath_of)) (by decide +kernel)) (fun _ _ _ _ _ => (pg_name (i := 3) nd rfl (.inl rfl))) (fun _ _ _ _ _ => (pts_one (pt_val (pe_cg c__is_above (by exact hG) (by exact hr) (by decide) (by rfl) (pa_cons (pv 0) (pa_cons (pv 3) (pa_cons (pv 1) pa_nil))))))) (fun _ _ _ _ _ => (pv 3)))
    (pss_one (ps_ret (pe_op (op_catF : OpR _ (binaryOp .Add) (rCatF K)) (pe_cg c__downward (by exact hG) (by exact hr) (by decide) (by rfl) (pa_cons (pv 0) (pa_cons (pv 2) pa_nil))) (pe_tupF (pa_cons (pv 1) pa_nil)))))), ?_⟩
  refine w_use (N := ["question", "column", "above", "other"]) (rs_seq (rs_set 2 (re_lcC (ri_t (re_op rp_ix (RE.b (re_v 0)) (RE.b (re_int _)))) (rg_name 3) (by decide) (rt_vl (re_call (ra_cons (re_v 0) (ra_cons (re_v 3) (ra_cons (re_v 1) ra_nil))))) (re_v 3)))
    (rs_ret (re_op rp_catF (RE.b (re_call (ra_cons (re_v 0) (ra_cons (re_v 2) ra_nil)))) (RE.b (re_tup (rd_cons (re_v 1) rd_nil)))))) km gB gA q ?_
  clear q gA gB km h
  generalize P' = Z at hw ⊢
  obtain ⟨q, x, rfl, ok, hx, p⟩ := hw
  refine lc_mf (f := .str) (l := q.cs) (p := fun y => abv q y x) (g := .str) (by have := ok.cl; omega) (fun P' h => ⟨_, rfl, h⟩) (fun c hc acc J j1 j2 => ?_) ?_
  · exact ⟨q, c, x, rfl, ok, hc, hx, iteB (fun h => j1 h) (fun h => j2 h)⟩
  refine ⟨q, _, up q x, rfl, .inl rfl, ok, fun y hy => (up_mem.mp hy).1, up_len ok x, by show 1 ≤ 1000; decide, by rw [List.length_map, dn_len]; have := up_len ok x; show _ + 1 ≤ 1000; omega, ?_⟩
  unfold pathF at p
  rw [List.map_append] at p
  exact p
end LW

namespace LW
open PySem PySem.Spec PyProof.Rows L2 GL
abbrev s_law_path : Stmt := topS 34
theorem sc_law_path : FnScope ["question", "column", "upper", "found", "one", "at", "other"] ["question", "column"] (defScope s_law_path) := ⟨rfl, rfl, rfl, by decide +kernel, rfl, by decide +kernel, by decide +kernel⟩
theorem ok_law_path {P : Program} {w : World} {K : PySem.W.Frag} {mg : Str → Option Value} {base : Heap} (D : DefAt K mg "_law_path" s_law_path ["question", "column"]) (c__law_is_above : Cal P w K mg base 2 "_law_is_above" (spW K wAbove)) (m_len : mg "len" = none) (m_sorted : mg "sorted" = none) :
    Cal P w K mg base 3 "_law_path" (spW K wPathL) := by
  refine cal_mk D sc_law_path (fun vs H Q E h => sp_len (len_law_path) h) (fun f cdv A outer s H vs Q E hG hr h => ?_)
  have h' := h
  obtain ⟨bg, M, ds, P', km, gB, gA, hw, q⟩ := h'
  have nd := sc_law_path.nd
  refine ⟨_, (pss_cons (ps_setLc (i := 2) (own := [("one", 4)]) (g := gName 4) (by rfl) nd rfl rfl (sw_true rfl rfl rfl (by decide +kernel)) (pi_tup (pe_ix (ix_seq : IxR _ (rIx K)) (pv 0) pe_int (fun _ _ => rfl)) : PI _ _ _ (iTup K _)) (blkOk_by (own := [("one", 4)]) (N := ["question", "column", "upper", "found", "one", "at", "other"]) (sc := (defScope s_law_path)) (by decide +kernel)) (fun _ _ _ _ _ => (pg_name (i := 4) nd rfl (.inl rfl))) (fun _ _ _ _ _ => (pts_one (pt_val (pe_cg c__law_is_above (by exact hG) (by exact hr) (by decide) (by rfl) (pa_cons (pv 0) (pa_cons (pv 4) (pa_cons (pv 1) pa_nil))))))) (fun _ _ _ _ _ => (pv 4)))
    (pss_cons (ps_set (i := 3) nd rfl (.inl rfl) (pe_lst pa_nil))
    (pss_cons (ps_for PassesOwn.never rfl (pi_list (pv 2) : PI _ _ _ (iList K _)) (pg_name (i := 4) nd rfl (.inr rfl)) (pss_cons (ps_set (i := 5) nd rfl (.inl rfl) (pe_callB (call_len2 : CallR _ (.builtin "len") (rLen2 K)) (by rfl) m_len PySem.boot_len (pa_cons (pe_lc (own := [("other", 6)]) (g := gName 6) (by rfl) nd (pi_list (pv 2) : PI _ _ _ (iList K _)) (blkOk_by (own := [("other", 6)]) (N := ["question", "column", "upper", "found", "one", "at", "other"]) (sc := (defScope s_law_path)) (by decide +kernel)) (fun _ _ _ _ _ => (pg_name (i := 6) nd rfl (.inl rfl))) (fun _ _ _ _ _ => (pts_one (pt_val (pe_cg c__law_is_above (by exact hG) (by exact hr) (by decide) (by rfl) (pa_cons (pv 0) (pa_cons (pv 6) (pa_cons (pv 4) pa_nil))))))) (fun _ _ _ _ _ => (pv 6))) pa_nil)))
    (pss_one (ps_expr (pe_bm PySem.F.plainAttrs_list PySem.F.slot_list_append PySem.F.type_list_append mt_append (pv 3) (pa_cons (pe_tupF (pa_cons (pv 5) (pa_cons (pv 4) pa_nil))) pa_nil))))))
    (pss_one (ps_ret (pe_op op_cat (pe_lc (own := [("at", 5), ("one", 4)]) (g := (gTup K 2 (gCons (gName 5) (gCons (gName 4) gNil)))) (tt := tYes) (by rfl) nd (pi_list (pe_callB (cr_sortD (by exact hr.units) : CallR _ (.builtin "sorted") (rSortD K)) (by rfl) m_sorted (by decide +kernel) (pa_cons (pv 3) pa_nil)) : PI _ _ _ (iList K _)) (blkOk_by (own := [("at", 5), ("one", 4)]) (N := ["question", "column", "upper", "found", "one", "at", "other"]) (sc := (defScope s_law_path)) (by decide +kernel)) (fun _ _ _ _ _ => (pg_tup rfl (pgs_cons (pg_name (i := 5) nd rfl (.inl rfl)) (pgs_cons (pg_name (i := 4) nd rfl (.inl rfl)) pgs_nil)))) (fun _ _ _ _ _ => pts_nil) (fun _ _ _ _ _ => (pv 4))) (pe_lst (pa_cons (pv 1) pa_nil)))))))), ?_⟩
  refine w_use (N := ["question", "column", "upper", "found", "one", "at", "other"]) (rs_seq (rs_set 2 (re_lcC (ri_t (re_op rp_ix (RE.b (re_v 0)) (RE.b (re_int _)))) (rg_name 4) (by decide) (rt_vl (re_call (ra_cons (re_v 0) (ra_cons (re_v 4) (ra_cons (re_v 1) ra_nil))))) (re_v 4)))
    (rs_seq (rs_own 3 rd_nil)
    (rs_seq (rs_forC (ri_l (re_v 2)) (rg_name 4) (rs_seq (rs_set 5 (re_cb rq_lenE (rx_cons (RE.b (re_lcC (ri_l (re_v 2)) (rg_name 6) (by decide) (rt_vl (re_call (ra_cons (re_v 0) (ra_cons (re_v 6) (ra_cons (re_v 4) ra_nil))))) (re_v 6))) rx_nil)))
    (rs_app 3 (re_tup (rd_cons (re_v 5) (rd_cons (re_v 4) rd_nil))))))
    (rs_weak (rs_ret (re_op rp_cat (RE.b (re_lcC (ri_l (re_cb rq_sortD (rx_cons (RE.b (re_v 3)) rx_nil))) (rg_t2 (rg_name 5) (rg_name 4)) (by decide) rt_yes (re_v 4))) (RE.b (re_lst (rd_cons (re_v 1) rd_nil))))))))) km gB gA q ?_
  clear q gA gB km h
  generalize P' = Z at hw ⊢
  obtain ⟨q, x, rfl, ok, ne, cv, hx, p⟩ := hw
  have ul := up_len ok x
  have us : ∀ y ∈ up q x, y ∈ q.cs := fun y hy => (up_mem.mp hy).1
  refine lc_mf (f := .str) (l := q.cs) (p := fun y => abv q y x) (g := .str) (by have := ok.cl; omega) (fun P' h => ⟨_, rfl, h⟩) (fun c hc acc J j1 j2 => ?_) ?_
  · exact ⟨q, c, x, rfl, ok, hc, hx, iteB (fun h => j1 h) (fun h => j2 h)⟩
  refine ⟨Nat.zero_le _, ?_⟩
  refine for_l (f := .str) (l := up q x) (fun P' h => h) (fun i ρ => ∃ (x4 x5 : Option DV), ρ = [some (.im (qD q)), some (.im (.str x)), some (.im (.list ((up q x).map .str))), some (.ow (((up q x).take i).map fun y => .tuple [.int (dep q (up q x) y : Nat), .str y])), x4, x5, none])
    ⟨none, none, rfl⟩ (fun i a ρ' ha hI => ?_) (fun ρ' hI => ?_)
  · obtain ⟨x4, x5, rfl⟩ := hI
    have hi := (List.getElem?_eq_some_iff.mp ha).1
    have hm := List.mem_of_getElem? ha
    refine lc_mf (f := .str) (l := up q x) (p := fun y => abv q y a) (g := .str) (by omega) (fun P' h => h) (fun c hc acc J j1 j2 => ?_) ?_
    · exact ⟨q, c, a, rfl, ok, us c hc, us a hm, iteB (fun h => j1 h) (fun h => j2 h)⟩
    refine ⟨((dep q (up q x) a : Nat) : Int), by rw [List.length_map]; rfl, by rw [List.length_map, List.length_take]; omega, by show 2 ≤ 1000; decide, Cl.here ⟨some (.im (.str a)), some (.im (.int (dep q (up q x) a : Nat))), ?_⟩⟩
    rw [List.take_add_one, ha, List.map_append]
    rfl
  obtain ⟨x4, x5, rfl⟩ := hI
  rw [List.take_of_length_le (Nat.le_refl _)]
  refine ⟨_, Le.freeze (i := 3) rfl, ?_⟩
  obtain ⟨m, em, pm, pw⟩ := sortD_map (fun y => .tuple [.int (dep q (up q x) y : Nat), .str y]) (up q x)
  have e : m = dn q (up q x) := dn_dep ok us (up_chain ok ne cv hx) pm (pw.imp fun {a b} h => by
    have := le_head1 h
    omega)
  refine lc_mf (f := fun y => .tuple [.int (dep q (up q x) y : Nat), .str y]) (l := m) (p := fun _ => true) (g := .str) (by rw [pm.length_eq]; omega) (fun P' h => ⟨fun d hd => ?_, .of ?_, .tuples ?_, ?_⟩) (fun c hc acc J j1 _ => ?_) ?_
  · obtain ⟨c, _, rfl⟩ := List.mem_map.mp hd
    exact ⟨rfl, Nat.le_of_ble_eq_true rfl⟩
  · exact fun _ _ => rfl
  · exact fun _ => ⟨_, _, rfl⟩
  · show P' (sortD _)
    rw [em]
    exact h
  · exact j1 rfl
  rw [show m.filter (fun _ => true) = m from List.filter_eq_self.mpr fun _ _ => rfl, e]
  refine ⟨by show 1 ≤ 1000; decide, by rw [List.length_map, dn_len]; show _ + 1 ≤ 1000; omega, ?_⟩
  unfold pathF at p
  rw [List.map_append] at p
  exact p
end LW

namespace LW
open PySem PySem.Spec PyProof.Rows L2 GL
abbrev sparent_of : Stmt := topS 10
theorem scparent_of : FnScope ["question", "column", "path"] ["question", "column"] (defScope sparent_of) := ⟨rfl, rfl, rfl, by decide +kernel, rfl, by decide +kernel, by decide +kernel⟩
theorem okparent_of {P : Program} {w : World} {K : PySem.W.Frag} {mg : Str → Option Value} {base : Heap} (D : DefAt K mg "parent_of" sparent_of ["question", "column"]) (c_path_of : Cal P w K mg base 3 "path_of" (spW K wPath)) (m_len : mg "len" = none) :
    Cal P w K mg base 4 "parent_of" (spW K wPar) := by
  refine cal_mk D scparent_of (fun vs H Q E h => sp_len (lenparent_of) h) (fun f cdv A outer s H vs Q E hG hr h => ?_)
  have h' := h
  obtain ⟨bg, M, ds, P', km, gB, gA, hw, q⟩ := h'
  have nd := scparent_of.nd
  refine ⟨_, (pss_cons (ps_set (i := 2) nd rfl (.inl rfl) (pe_cg c_path_of (by exact hG) (by exact hr) (by decide) (by rfl) (pa_cons (pv 0) (pa_cons (pv 1) pa_nil))))
    (pss_one (ps_ret (pe_ifExp (pt_cmpR op_gt (pe_callB (call_len2 : CallR _ (.builtin "len") (rLen2 K)) (by rfl) m_len PySem.boot_len (pa_cons (pv 2) pa_nil)) pe_int (nomark _)) (pe_ix (ix_seq : IxR _ (rIx K)) (pv 2) (pe_un un_neg pe_int) (fun _ _ => rfl)) pe_non)))), ?_⟩
  refine w_use (N := ["question", "column", "path"]) (rs_seq (rs_set 2 (re_call (ra_cons (re_v 0) (ra_cons (re_v 1) ra_nil))))
    (rs_ret (re_if (rt_tst (re_op rp_cmp (RE.b (re_cb rq_lenE (rx_cons (RE.b (re_v 2)) rx_nil))) (RE.b (re_int _)))) (re_op rp_ix (RE.b (re_v 2)) (RE.b (re_neg (re_int _)))) re_non))) km gB gA q ?_
  clear q gA gB km h
  generalize P' = Z at hw ⊢
  obtain ⟨q, x, rfl, ok, hx, p⟩ := hw
  refine ⟨q, x, rfl, ok, hx, (((pathF q x).length : Nat) : Int), by rw [List.length_map], iteB (fun h => ?_) (fun h => ?_)⟩
  · have h := of_decide_eq_true h
    obtain ⟨z, hz⟩ := parF_some (q := q) (x := x) (by omega)
    rw [hz] at p
    exact ⟨_, at_last2 hz, p⟩
  · have h := of_decide_eq_false h
    rw [parF_none (by omega)] at p
    exact p
end LW

namespace LW
open PySem PySem.Spec PyProof.Rows L2 GL
abbrev schildren_of : Stmt := topS 11
theorem scchildren_of : FnScope ["question", "column", "other"] ["question", "column"] (defScope schildren_of) := ⟨rfl, rfl, rfl, by decide +kernel, rfl, by decide +kernel, by decide +kernel⟩
theorem okchildren_of {P : Program} {w : World} {K : PySem.W.Frag} {mg : Str → Option Value} {base : Heap} (D : DefAt K mg "children_of" schildren_of ["question", "column"]) (c_parent_of : Cal P w K mg base 4 "parent_of" (spW K wPar)) (m_tuple : mg "tuple" = none) :
    Cal P w K mg base 5 "children_of" (spW K wKids) := by
  refine cal_mk D scchildren_of (fun vs H Q E h => sp_len (lenchildren_of) h) (fun f cdv A outer s H vs Q E hG hr h => ?_)
  have h' := h
  obtain ⟨bg, M, ds, P', km, gB, gA, hw, q⟩ := h'
  have nd := scchildren_of.nd
  refine ⟨_, (pss_one (ps_ret (pe_callTy (call_tupF : CallR _ (.type "tuple") (rTupF K)) (by rfl) m_tuple (by decide +kernel) (pa_cons (pe_lc (own := [("other", 2)]) (g := gName 2) (by rfl) nd (pi_tup (pe_ix (ix_seq : IxR _ (rIx K)) (pv 0) pe_int (fun _ _ => rfl)) : PI _ _ _ (iTup K _)) (blkOk_by (own := [("other", 2)]) (N := ["question", "column", "other"]) (sc := (defScope schildren_of)) (by decide +kernel)) (fun _ _ _ _ _ => (pg_name (i := 2) nd rfl (.inl rfl))) (fun _ _ _ _ _ => (pts_one (pt_cmpR (op_eqD (by exact hr.units) : OpR _ (compareOp .Eq) (rEqD K)) (pe_cg c_parent_of (by exact hG) (by exact hr) (by decide) (by rfl) (pa_cons (pv 0) (pa_cons (pv 2) pa_nil))) (pv 1) (nomark _)))) (fun _ _ _ _ _ => (pv 2))) pa_nil)))), ?_⟩
  refine w_use (N := ["question", "column", "other"]) (rs_ret (re_cb rq_tup (rx_cons (RE.b (re_lcC (ri_t (re_op rp_ix (RE.b (re_v 0)) (RE.b (re_int _)))) (rg_name 2) (by decide) (rt_tst (re_op ro_eqD (RE.b (re_call (ra_cons (re_v 0) (ra_cons (re_v 2) ra_nil)))) (RE.b (re_v 1)))) (re_v 2))) rx_nil))) km gB gA q ?_
  clear q gA gB km h
  generalize P' = Z at hw ⊢
  obtain ⟨q, x, rfl, ok, hx, p⟩ := hw
  refine lc_mf (f := .str) (l := q.cs) (p := fun y => parF q y == some x) (g := .str) (by have := ok.cl; omega) (fun P' h => ⟨_, rfl, h⟩) (fun c hc acc J j1 j2 => ?_) ?_
  · refine ⟨q, c, rfl, ok, hc, hdO _, rfl, shO (parF_sm ok), (ok.cb x hx).ok.shaped (by decide), ?_⟩
    show if PyData.eqv (strO (parF q c)) (strO (some x)) = true then _ else _
    rw [eqvO]
    exact iteB (fun h => j1 h) (fun h => j2 h)
  exact p
end LW

namespace LW
open PySem PySem.Spec PyProof.Rows L2 GL
abbrev sroots_of : Stmt := topS 12
theorem scroots_of : FnScope ["question", "column"] ["question"] (defScope sroots_of) := ⟨rfl, rfl, rfl, by decide +kernel, rfl, by decide +kernel, by decide +kernel⟩
theorem okroots_of {P : Program} {w : World} {K : PySem.W.Frag} {mg : Str → Option Value} {base : Heap} (D : DefAt K mg "roots_of" sroots_of ["question"]) (c_parent_of : Cal P w K mg base 4 "parent_of" (spW K wPar)) (m_tuple : mg "tuple" = none) :
    Cal P w K mg base 5 "roots_of" (spW K wRoots) := by
  refine cal_mk D scroots_of (fun vs H Q E h => sp_len (lenroots_of) h) (fun f cdv A outer s H vs Q E hG hr h => ?_)
  have h' := h
  obtain ⟨bg, M, ds, P', km, gB, gA, hw, q⟩ := h'
  have nd := scroots_of.nd
  refine ⟨_, (pss_one (ps_ret (pe_callTy (call_tupF : CallR _ (.type "tuple") (rTupF K)) (by rfl) m_tuple (by decide +kernel) (pa_cons (pe_lc (own := [("column", 1)]) (g := gName 1) (by rfl) nd (pi_tup (pe_ix (ix_seq : IxR _ (rIx K)) (pv 0) pe_int (fun _ _ => rfl)) : PI _ _ _ (iTup K _)) (blkOk_by (own := [("column", 1)]) (N := ["question", "column"]) (sc := (defScope sroots_of)) (by decide +kernel)) (fun _ _ _ _ _ => (pg_name (i := 1) nd rfl (.inl rfl))) (fun _ _ _ _ _ => (pts_one (pt_cmpR op_isN (pe_cg c_parent_of (by exact hG) (by exact hr) (by decide) (by rfl) (pa_cons (pv 0) (pa_cons (pv 1) pa_nil))) pe_non (nomark _)))) (fun _ _ _ _ _ => (pv 1))) pa_nil)))), ?_⟩
  refine w_use (N := ["question", "column"]) (rs_ret (re_cb rq_tup (rx_cons (RE.b (re_lcC (ri_t (re_op rp_ix (RE.b (re_v 0)) (RE.b (re_int _)))) (rg_name 1) (by decide) (rt_tst (re_op rp_isN (RE.b (re_call (ra_cons (re_v 0) (ra_cons (re_v 1) ra_nil)))) (RE.b re_non))) (re_v 1))) rx_nil))) km gB gA q ?_
  clear q gA gB km h
  generalize P' = Z at hw ⊢
  obtain ⟨q, rfl, ok, p⟩ := hw
  refine lc_mf (f := .str) (l := q.cs) (p := fun y => parF q y == none) (g := .str) (by have := ok.cl; omega) (fun P' h => ⟨_, rfl, h⟩) (fun c hc acc J j1 j2 => ?_) ?_
  · refine ⟨q, c, rfl, ok, hc, ?_⟩
    show if isNone (strO (parF q c)) = true then _ else _
    rw [isNoneO]
    exact iteB (fun h => j1 h) (fun h => j2 h)
  exact p
end LW

namespace LW
open PySem PySem.Spec PyProof.Rows L2 GL
abbrev s_law_children : Stmt := topS 35
theorem sc_law_children : FnScope ["question", "column", "found", "one", "path"] ["question", "column"] (defScope s_law_children) := ⟨rfl, rfl, rfl, by decide +kernel, rfl, by decide +kernel, by decide +kernel⟩
theorem ok_law_children {P : Program} {w : World} {K : PySem.W.Frag} {mg : Str → Option Value} {base : Heap} (D : DefAt K mg "_law_children" s_law_children ["question", "column"]) (c__law_path : Cal P w K mg base 3 "_law_path" (spW K wPathL)) (m_len : mg "len" = none) :
    Cal P w K mg base 4 "_law_children" (spW K wKidsL) := by
  refine cal_mk D sc_law_children (fun vs H Q E h => sp_len (len_law_children) h) (fun f cdv A outer s H vs Q E hG hr h => ?_)
  have h' := h
  obtain ⟨bg, M, ds, P', km, gB, gA, hw, q⟩ := h'
  have nd := sc_law_children.nd
  refine ⟨_, (pss_cons (ps_set (i := 2) nd rfl (.inl rfl) (pe_lst pa_nil))
    (pss_cons (ps_for PassesOwn.never rfl (pi_tup (pe_ix (ix_seq : IxR _ (rIx K)) (pv 0) pe_int (fun _ _ => rfl)) : PI _ _ _ (iTup K _)) (pg_name (i := 3) nd rfl (.inl rfl)) (pss_cons (ps_set (i := 4) nd rfl (.inl rfl) (pe_cg c__law_path (by exact hG) (by exact hr) (by decide) (by rfl) (pa_cons (pv 0) (pa_cons (pv 3) pa_nil))))
    (pss_one (ps_if (pt_cmpR (op_eqD (by exact hr.units) : OpR _ (compareOp .Eq) (rEqD K)) (pe_ifExp (pt_cmpR op_gt (pe_callB (call_len2 : CallR _ (.builtin "len") (rLen2 K)) (by rfl) m_len PySem.boot_len (pa_cons (pv 4) pa_nil)) pe_int (nomark _)) (pe_ix (ix_seq : IxR _ (rIx K)) (pv 4) (pe_un un_neg pe_int) (fun _ _ => rfl)) pe_non) (pv 1) (nomark _)) (pss_one (ps_expr (pe_bm PySem.F.plainAttrs_list PySem.F.slot_list_append PySem.F.type_list_append mt_append (pv 2) (pa_cons (pv 3) pa_nil)))) pss_nil))))
    (pss_one (ps_ret (pv 2))))), ?_⟩
  refine w_use (N := ["question", "column", "found", "one", "path"]) (rs_seq (rs_own 2 rd_nil)
    (rs_seq (rs_forC (ri_t (re_op rp_ix (RE.b (re_v 0)) (RE.b (re_int _)))) (rg_name 3) (rs_seq (rs_set 4 (re_call (ra_cons (re_v 0) (ra_cons (re_v 3) ra_nil))))
    (rs_if (rt_tst (re_op ro_eqD (RE.b (re_ifS (rt_tst (re_op rp_cmp (RE.b (re_cb rq_lenE (rx_cons (RE.b (re_v 4)) rx_nil))) (RE.b (re_int _)))) (re_op rp_ix (RE.b (re_v 4)) (RE.b (re_neg (re_int _)))) re_non)) (RE.b (re_v 1)))) (rs_app 2 (re_v 3)) rs_next)))
    (rs_rto 2))) km gB gA q ?_
  clear q gA gB km h
  generalize P' = Z at hw ⊢
  obtain ⟨q, o, rfl, ok, ne, cv, os, p⟩ := hw
  refine ⟨Nat.zero_le _, ?_⟩
  refine for_l (f := .str) (l := q.cs) (fun P' h => ⟨_, rfl, h⟩) (fun i ρ => ∃ (x3 x4 : Option DV), ρ = [some (.im (qD q)), some (.im (strO o)), some (.ow (((q.cs.take i).filter fun y => parF q y == o).map .str)), x3, x4])
    ⟨none, none, rfl⟩ (fun i a ρ' ha hI => ?_) (fun ρ' hI => ?_)
  · obtain ⟨x3, x4, rfl⟩ := hI
    have hm := List.mem_of_getElem? ha
    have csl := ok.cl
    have fl : ((q.cs.take i).filter fun y => parF q y == o).length ≤ 6 := Nat.le_trans (List.length_filter_le _ _) (by rw [List.length_take]; omega)
    refine ⟨q, a, rfl, ok, ne, cv, hm, (((pathF q a).length : Nat) : Int), by rw [List.length_map], ?_⟩
    have stp : ∀ (b : Bool), (parF q a == o) = b → ((q.cs.take (i + 1)).filter fun y => parF q y == o).map PyData.str = (((q.cs.take i).filter fun y => parF q y == o).map PyData.str) ++ (if b = true then [.str a] else []) := fun b e => by
      rw [List.take_add_one, ha, List.filter_append, List.map_append]
      show _ ++ (List.filter _ [a]).map _ = _
      rw [List.filter_cons, e]
      cases b <;> rfl
    refine iteB (fun h => ?_) (fun h => ?_)
    · have h := of_decide_eq_true h
      obtain ⟨z, hz⟩ := parF_some (q := q) (x := a) (by omega)
      refine ⟨_, at_last2 hz, hdO (some z), hdO _, shO (o := some z) (by rw [← hz]; exact parF_sm ok), shO os, ?_⟩
      show if PyData.eqv (strO (some z)) (strO o) = true then _ else _
      rw [← hz, eqvO]
      refine iteB (fun h => ?_) (fun h => ?_)
      · exact ⟨by rw [List.length_map]; omega, Cl.here ⟨some (.im (.str a)), some (.im (.list ((pathF q a).map .str))), by rw [stp _ h]; rfl⟩⟩
      · exact Cl.here ⟨some (.im (.str a)), some (.im (.list ((pathF q a).map .str))), by rw [stp _ h]; exact congrArg (fun l => [some (DV.im (qD q)), some (.im (strO o)), some (.ow l), some (.im (.str a)), some (.im (.list ((pathF q a).map .str)))]) (List.append_nil _).symm⟩
    · have h := of_decide_eq_false h
      have hz := parF_none (q := q) (x := a) (by omega)
      refine ⟨hdO none, hdO _, shO (o := none) (fun _ z => nomatch z), shO os, ?_⟩
      show if PyData.eqv (strO none) (strO o) = true then _ else _
      rw [← hz, eqvO]
      refine iteB (fun h => ?_) (fun h => ?_)
      · exact ⟨by rw [List.length_map]; omega, Cl.here ⟨some (.im (.str a)), some (.im (.list ((pathF q a).map .str))), by rw [stp _ h]; rfl⟩⟩
      · exact Cl.here ⟨some (.im (.str a)), some (.im (.list ((pathF q a).map .str))), by rw [stp _ h]; exact congrArg (fun l => [some (DV.im (qD q)), some (.im (strO o)), some (.ow l), some (.im (.str a)), some (.im (.list ((pathF q a).map .str)))]) (List.append_nil _).symm⟩
  obtain ⟨x3, x4, rfl⟩ := hI
  rw [List.take_of_length_le (Nat.le_refl _)]
  exact p
end LW

namespace LW
open PySem PySem.Spec PyProof.Rows L2 GL
abbrev sis_integer : Stmt := topS 1
theorem scis_integer : FnScope ["thing"] ["thing"] (defScope sis_integer) := ⟨rfl, rfl, rfl, by decide +kernel, rfl, by decide +kernel, by decide +kernel⟩
theorem okis_integer {P : Program} {w : World} {K : PySem.W.Frag} {mg : Str → Option Value} {base : Heap} (D : DefAt K mg "is_integer" sis_integer ["thing"]) (m_bool : mg "bool" = none) (m_int : mg "int" = none) (m_isinstance : mg "isinstance" = none) :
    Cal P w K mg base 1 "is_integer" (spW K wInt) := by
  refine cal_mk D scis_integer (fun vs H Q E h => sp_len (lenis_integer) h) (fun f cdv A outer s H vs Q E hG hr h => ?_)
  have h' := h
  obtain ⟨bg, M, ds, P', km, gB, gA, hw, q⟩ := h'
  have nd := scis_integer.nd
  refine ⟨_, (pss_one (ps_ret (pe_and (pe_callB (call_isi : CallR _ (.builtin "isinstance") (rIsi K)) (by rfl) m_isinstance (by decide +kernel) (pa_cons (pv 0) (pa_cons (pe_bltn (v := .ty "int") (u := .type "int") (by rfl) m_int (by decide +kernel) rfl) pa_nil))) (pe_one (pe_not (pe_callB (call_isi : CallR _ (.builtin "isinstance") (rIsi K)) (by rfl) m_isinstance (by decide +kernel) (pa_cons (pv 0) (pa_cons (pe_bltn (v := .ty "bool") (u := .type "bool") (by rfl) m_bool (by decide +kernel) rfl) pa_nil)))))))), ?_⟩
  refine w_use (N := ["thing"]) (rs_ret (re_andC (re_isi kit_int (RE.b (re_v 0))) (re_notC (re_isi kit_bool (RE.b (re_v 0)))))) km gB gA q ?_
  clear q gA gB km h
  generalize P' = Z at hw ⊢
  obtain ⟨d, rfl, p⟩ := hw
  unfold intD at p
  show if GL.isInt d = true then Z (.bool !GL.isBool d) else Z (.bool false)
  cases h : GL.isInt d with
  | true =>
    rw [h] at p
    exact p
  | false =>
    rw [h] at p
    exact p
end LW

namespace LW
open PySem PySem.Spec PyProof.Rows L2 GL
abbrev s_law_is_int : Stmt := topS 26
theorem sc_law_is_int : FnScope ["thing"] ["thing"] (defScope s_law_is_int) := ⟨rfl, rfl, rfl, by decide +kernel, rfl, by decide +kernel, by decide +kernel⟩
theorem ok_law_is_int {P : Program} {w : World} {K : PySem.W.Frag} {mg : Str → Option Value} {base : Heap} (D : DefAt K mg "_law_is_int" s_law_is_int ["thing"]) (m_bool : mg "bool" = none) (m_int : mg "int" = none) (m_isinstance : mg "isinstance" = none) :
    Cal P w K mg base 1 "_law_is_int" (spW K wInt) := by
  refine cal_mk D sc_law_is_int (fun vs H Q E h => sp_len (len_law_is_int) h) (fun f cdv A outer s H vs Q E hG hr h => ?_)
  have h' := h
  obtain ⟨bg, M, ds, P', km, gB, gA, hw, q⟩ := h'
  have nd := sc_law_is_int.nd
  refine ⟨_, (pss_one (ps_ret (pe_and (pe_callB (call_isi : CallR _ (.builtin "isinstance") (rIsi K)) (by rfl) m_isinstance (by decide +kernel) (pa_cons (pv 0) (pa_cons (pe_bltn (v := .ty "int") (u := .type "int") (by rfl) m_int (by decide +kernel) rfl) pa_nil))) (pe_one (pe_not (pe_callB (call_isi : CallR _ (.builtin "isinstance") (rIsi K)) (by rfl) m_isinstance (by decide +kernel) (pa_cons (pv 0) (pa_cons (pe_bltn (v := .ty "bool") (u := .type "bool") (by rfl) m_bool (by decide +kernel) rfl) pa_nil)))))))), ?_⟩
  refine w_use (N := ["thing"]) (rs_ret (re_andC (re_isi kit_int (RE.b (re_v 0))) (re_notC (re_isi kit_bool (RE.b (re_v 0)))))) km gB gA q ?_
  clear q gA gB km h
  generalize P' = Z at hw ⊢
  obtain ⟨d, rfl, p⟩ := hw
  unfold intD at p
  show if GL.isInt d = true then Z (.bool !GL.isBool d) else Z (.bool false)
  cases h : GL.isInt d with
  | true =>
    rw [h] at p
    exact p
  | false =>
    rw [h] at p
    exact p
end LW

namespace LW
open PySem PySem.Spec PyProof.Rows L2 GL
abbrev sis_tuple_of : Stmt := topS 2
theorem scis_tuple_of : FnScope ["thing", "many"] ["thing", "many"] (defScope sis_tuple_of) := ⟨rfl, rfl, rfl, by decide +kernel, rfl, by decide +kernel, by decide +kernel⟩
theorem okis_tuple_of {P : Program} {w : World} {K : PySem.W.Frag} {mg : Str → Option Value} {base : Heap} (D : DefAt K mg "is_tuple_of" sis_tuple_of ["thing", "many"]) (m_isinstance : mg "isinstance" = none) (m_len : mg "len" = none) (m_tuple : mg "tuple" = none) :
    Cal P w K mg base 1 "is_tuple_of" (spW K wTupOf) := by
  refine cal_mk D scis_tuple_of (fun vs H Q E h => sp_len (lenis_tuple_of) h) (fun f cdv A outer s H vs Q E hG hr h => ?_)
  have h' := h
  obtain ⟨bg, M, ds, P', km, gB, gA, hw, q⟩ := h'
  have nd := scis_tuple_of.nd
  refine ⟨_, (pss_one (ps_ret (pe_and (pe_callB (call_isi : CallR _ (.builtin "isinstance") (rIsi K)) (by rfl) m_isinstance (by decide +kernel) (pa_cons (pv 0) (pa_cons (pe_bltn (v := .ty "tuple") (u := .type "tuple") (by rfl) m_tuple (by decide +kernel) rfl) pa_nil))) (pe_one (pe_cmpR op_eq (pe_callB (call_len2 : CallR _ (.builtin "len") (rLen2 K)) (by rfl) m_len PySem.boot_len (pa_cons (pv 0) pa_nil)) (pv 1) (nomark _)))))), ?_⟩
  refine w_use (N := ["thing", "many"]) (rs_ret (re_andC (re_isi kit_tup (RE.b (re_v 0))) (re_op rp_eq (RE.b (re_cb rq_lenE (rx_cons (RE.b (re_v 0)) rx_nil))) (RE.b (re_v 1))))) km gB gA q ?_
  clear q gA gB km h
  generalize P' = Z at hw ⊢
  obtain ⟨d, n, rfl, p⟩ := hw
  cases d with
  | tuple es =>
    refine ⟨_, rfl, rfl, ?_⟩
    show Z (.bool (PyData.eqv (.int (es.length : Nat)) (.int (n : Nat))))
    rw [eqvN]
    exact p
  | _ => exact p
end LW

namespace LW
open PySem PySem.Spec PyProof.Rows L2 GL
abbrev srange_of : Stmt := topS 5
theorem scrange_of : FnScope ["question", "column", "name", "low", "high"] ["question", "column"] (defScope srange_of) := ⟨rfl, rfl, rfl, by decide +kernel, rfl, by decide +kernel, by decide +kernel⟩
theorem okrange_of {P : Program} {w : World} {K : PySem.W.Frag} {mg : Str → Option Value} {base : Heap} (D : DefAt K mg "range_of" srange_of ["question", "column"]) :
    Cal P w K mg base 1 "range_of" (spW K wRng) := by
  refine cal_mk D scrange_of (fun vs H Q E h => sp_len (lenrange_of) h) (fun f cdv A outer s H vs Q E hG hr h => ?_)
  have h' := h
  obtain ⟨bg, M, ds, P', km, gB, gA, hw, q⟩ := h'
  have nd := scrange_of.nd
  refine ⟨_, (pss_cons (ps_for PassesOwn.never rfl (pi_tup (pe_ix (ix_seq : IxR _ (rIx K)) (pv 0) pe_int (fun _ _ => rfl)) : PI _ _ _ (iTup K _)) (pg_tup rfl (pgs_cons (pg_name (i := 2) nd rfl (.inl rfl)) (pgs_cons (pg_name (i := 3) nd rfl (.inl rfl)) (pgs_cons (pg_name (i := 4) nd rfl (.inl rfl)) pgs_nil)))) (pss_one (ps_if (pt_cmpR op_eq (pv 2) (pv 1) (nomark _)) (pss_one (ps_ret (pe_tupF (pa_cons (pv 3) (pa_cons (pv 4) pa_nil))))) pss_nil)))
    (pss_one (ps_ret (pe_tupF (pa_cons pe_non (pa_cons pe_non pa_nil)))))), ?_⟩
  refine w_use (N := ["question", "column", "name", "low", "high"]) (rs_seq (rs_forC (ri_t (re_op rp_ix (RE.b (re_v 0)) (RE.b (re_int _)))) (rg_t3 (rg_name 2) (rg_name 3) (rg_name 4)) (rs_if (rt_tst (re_op rp_eq (RE.b (re_v 2)) (RE.b (re_v 1)))) (rs_ret (re_tup (rd_cons (re_v 3) (rd_cons (re_v 4) rd_nil)))) rs_next))
    (rs_ret (re_tup (rd_cons re_non (rd_cons re_non rd_nil))))) km gB gA q ?_
  clear q gA gB km h
  generalize P' = Z at hw ⊢
  obtain ⟨q, c, rfl, hl, hb, p⟩ := hw
  refine for_l (f := rD) (l := q.rs) (fun P' h => ⟨_, rfl, h⟩) (fun i ρ => ∃ x2 x3 x4 : Option DV, ρ = [some (.im (qD q)), some (.im (.str c)), x2, x3, x4] ∧ rngF q.rs c = rngF (q.rs.drop i) c) ⟨none, none, none, rfl, rfl⟩ (fun i r ρ' hr hI => ?_) (fun ρ' hI => ?_)
  · obtain ⟨x2, x3, x4, rfl, hf⟩ := hI
    rw [rng_drop hr] at hf
    refine ⟨rfl, ?_⟩
    show if PyData.eqv (.str r.1) (.str c) = true then _ else _
    rw [eqvS]
    refine iteB (fun h => ?_) (fun h => ?_)
    · rw [if_pos h] at hf
      rw [hf] at p
      exact ⟨by show 2 ≤ 1000; decide, p⟩
    · rw [h, if_neg Bool.false_ne_true] at hf
      exact Cl.here ⟨_, _, _, rfl, hf⟩
  · obtain ⟨x2, x3, x4, rfl, hf⟩ := hI
    rw [List.drop_length] at hf
    rw [hf] at p
    exact ⟨by show 2 ≤ 1000; decide, p⟩
end LW

namespace LW
open PySem PySem.Spec PyProof.Rows L2 GL
abbrev s_law_range_of : Stmt := topS 36
theorem sc_law_range_of : FnScope ["question", "column", "found", "one", "low", "high"] ["question", "column"] (defScope s_law_range_of) := ⟨rfl, rfl, rfl, by decide +kernel, rfl, by decide +kernel, by decide +kernel⟩
theorem ok_law_range_of {P : Program} {w : World} {K : PySem.W.Frag} {mg : Str → Option Value} {base : Heap} (D : DefAt K mg "_law_range_of" s_law_range_of ["question", "column"]) :
    Cal P w K mg base 1 "_law_range_of" (spW K wRng) := by
  refine cal_mk D sc_law_range_of (fun vs H Q E h => sp_len (len_law_range_of) h) (fun f cdv A outer s H vs Q E hG hr h => ?_)
  have h' := h
  obtain ⟨bg, M, ds, P', km, gB, gA, hw, q⟩ := h'
  have nd := sc_law_range_of.nd
  refine ⟨_, (pss_cons (ps_setLc (i := 2) (own := [("one", 3), ("low", 4), ("high", 5)]) (g := (gTup K 3 (gCons (gName 3) (gCons (gName 4) (gCons (gName 5) gNil))))) (by rfl) nd rfl rfl (sw_true rfl rfl rfl (by decide +kernel)) (pi_tup (pe_ix (ix_seq : IxR _ (rIx K)) (pv 0) pe_int (fun _ _ => rfl)) : PI _ _ _ (iTup K _)) (blkOk_by (own := [("one", 3), ("low", 4), ("high", 5)]) (N := ["question", "column", "found", "one", "low", "high"]) (sc := (defScope s_law_range_of)) (by decide +kernel)) (fun _ _ _ _ _ => (pg_tup rfl (pgs_cons (pg_name (i := 3) nd rfl (.inl rfl)) (pgs_cons (pg_name (i := 4) nd rfl (.inl rfl)) (pgs_cons (pg_name (i := 5) nd rfl (.inl rfl)) pgs_nil))))) (fun _ _ _ _ _ => (pts_one (pt_cmpR op_eq (pv 3) (pv 1) (nomark _)))) (fun _ _ _ _ _ => (pe_tupF (pa_cons (pv 4) (pa_cons (pv 5) pa_nil)))))
    (pss_one (ps_ret (pe_ifExp (pt_cmpR (op_neD (by exact hr.units) : OpR _ (compareOp .NotEq) (rNeD K)) (pv 2) (pe_lst pa_nil) (nomark _)) (pe_ix (ix_seq : IxR _ (rIx K)) (pv 2) pe_int (fun _ _ => rfl)) (pe_tupF (pa_cons pe_non (pa_cons pe_non pa_nil))))))), ?_⟩
  refine w_use (N := ["question", "column", "found", "one", "low", "high"]) (rs_seq (rs_set 2 (re_lcC (ri_t (re_op rp_ix (RE.b (re_v 0)) (RE.b (re_int _)))) (rg_t3 (rg_name 3) (rg_name 4) (rg_name 5)) (by decide) (rt_tst (re_op rp_eq (RE.b (re_v 3)) (RE.b (re_v 1)))) (re_tup (rd_cons (re_v 4) (rd_cons (re_v 5) rd_nil)))))
    (rs_ret (re_if (rt_tst (re_op ro_neD (RE.b (re_v 2)) (RE.b (re_lst rd_nil)))) (re_op rp_ix (RE.b (re_v 2)) (RE.b (re_int _))) (re_tup (rd_cons re_non (rd_cons re_non rd_nil)))))) km gB gA q ?_
  clear q gA gB km h
  generalize P' = Z at hw ⊢
  obtain ⟨q, c, rfl, hl, hb, p⟩ := hw
  refine lc_mf (f := rD) (l := q.rs) (p := fun r => r.1 == c) (g := fun r => rD2 r.2) (by omega) (fun P' h => ⟨_, rfl, h⟩) (fun r hr acc J j1 j2 => ?_) ?_
  · refine ⟨rfl, ?_⟩
    show if PyData.eqv (.str r.1) (.str c) = true then _ else _
    rw [eqvS]
    exact iteB (fun h => ⟨by show 2 ≤ 1000; decide, j1 h⟩) (fun h => j2 h)
  have e : rngF q.rs c = (((q.rs.filter fun r => r.1 == c).head?).map (·.2)).getD (none, none) := by rw [List.head?_filter]; rfl
  have okl : ∀ r ∈ q.rs.filter (fun r => r.1 == c), Ok 100 1 (rD2 r.2) := fun r hr => by
    have := hb r (List.mem_filter.mp hr).1
    exact rD2_ok ⟨this.lo, this.hi⟩
  generalize q.rs.filter (fun r => r.1 == c) = l at e okl
  have ok := Ok.list (OkAll.map okl)
  refine ⟨Nat.zero_le _, ok.nd, rfl, ok.shaped (by decide), rfl, ?_⟩
  show if (!PyData.eqv (.list (l.map fun r => rD2 r.2)) (.list [])) = true then _ else _
  rw [eqvM_nil]
  cases l with
  | nil =>
    rw [e] at p
    exact ⟨by show 2 ≤ 1000; decide, p⟩
  | cons r l =>
    rw [e] at p
    exact ⟨_, at_head, p⟩
end LW

namespace LW
open PySem PySem.Spec PyProof.Rows L2 GL
abbrev sis_between : Stmt := topS 6
theorem scis_between : FnScope ["low", "value", "high"] ["low", "value", "high"] (defScope sis_between) := ⟨rfl, rfl, rfl, by decide +kernel, rfl, by decide +kernel, by decide +kernel⟩
theorem okis_between {P : Program} {w : World} {K : PySem.W.Frag} {mg : Str → Option Value} {base : Heap} (D : DefAt K mg "is_between" sis_between ["low", "value", "high"]) :
    Cal P w K mg base 1 "is_between" (spW K wBtw) := by
  refine cal_mk D scis_between (fun vs H Q E h => sp_len (lenis_between) h) (fun f cdv A outer s H vs Q E hG hr h => ?_)
  have h' := h
  obtain ⟨bg, M, ds, P', km, gB, gA, hw, q⟩ := h'
  have nd := scis_between.nd
  refine ⟨_, (pss_one (ps_ret (pe_and (pe_or (pe_cmpR op_isN (pv 0) pe_non (nomark _)) (pe_one (pe_cmpR op_le (pv 0) (pv 1) (nomark _)))) (pe_one (pe_or (pe_cmpR op_isN (pv 2) pe_non (nomark _)) (pe_one (pe_cmpR op_le (pv 1) (pv 2) (nomark _)))))))), ?_⟩
  refine w_use (N := ["low", "value", "high"]) (rs_ret (re_andC (re_orC (re_op rp_isN (RE.b (re_v 0)) (RE.b re_non)) (re_op rp_cmp (RE.b (re_v 0)) (RE.b (re_v 1)))) (re_orC (re_op rp_isN (RE.b (re_v 2)) (RE.b re_non)) (re_op rp_cmp (RE.b (re_v 1)) (RE.b (re_v 2)))))) km gB gA q ?_
  clear q gA gB km h
  generalize P' = Z at hw ⊢
  obtain ⟨lo, v, hi, rfl, p⟩ := hw
  cases lo with
  | none =>
    cases hi with
    | none => exact p
    | some h => exact p
  | some l =>
    have p2 : Z (.bool (decide (l ≤ v) && hiB v hi)) := p
    show if decide (l ≤ v) = true then _ else _
    refine iteB (fun e => ?_) (fun e => ?_)
    · rw [e, Bool.true_and] at p2
      cases hi with
      | none => exact p2
      | some h => exact p2
    · rw [e, Bool.false_and] at p2
      exact p2
end LW

namespace LW
open PySem PySem.Spec PyProof.Rows L2 GL
abbrev slets : Stmt := topS 7
theorem sclets : FnScope ["question", "column", "value", "low", "high"] ["question", "column", "value"] (defScope slets) := ⟨rfl, rfl, rfl, by decide +kernel, rfl, by decide +kernel, by decide +kernel⟩
theorem oklets {P : Program} {w : World} {K : PySem.W.Frag} {mg : Str → Option Value} {base : Heap} (D : DefAt K mg "lets" slets ["question", "column", "value"]) (c_is_between : Cal P w K mg base 1 "is_between" (spW K wBtw)) (c_range_of : Cal P w K mg base 1 "range_of" (spW K wRng)) :
    Cal P w K mg base 2 "lets" (spW K wLets) := by
  refine cal_mk D sclets (fun vs H Q E h => sp_len (lenlets) h) (fun f cdv A outer s H vs Q E hG hr h => ?_)
  have h' := h
  obtain ⟨bg, M, ds, P', km, gB, gA, hw, q⟩ := h'
  have nd := sclets.nd
  refine ⟨_, (pss_cons (ps_asg (pe_cg c_range_of (by exact hG) (by exact hr) (by decide) (by rfl) (pa_cons (pv 0) (pa_cons (pv 1) pa_nil))) (pg_tup rfl (pgs_cons (pg_name (i := 3) nd rfl (.inl rfl)) (pgs_cons (pg_name (i := 4) nd rfl (.inl rfl)) pgs_nil))))
    (pss_one (ps_ret (pe_cg c_is_between (by exact hG) (by exact hr) (by decide) (by rfl) (pa_cons (pv 3) (pa_cons (pv 2) (pa_cons (pv 4) pa_nil))))))), ?_⟩
  refine w_use (N := ["question", "column", "value", "low", "high"]) (rs_seq (rs_asg (re_call (ra_cons (re_v 0) (ra_cons (re_v 1) ra_nil))) (rg_t2 (rg_name 3) (rg_name 4)))
    (rs_ret (re_call (ra_cons (re_v 3) (ra_cons (re_v 2) (ra_cons (re_v 4) ra_nil)))))) km gB gA q ?_
  clear q gA gB km h
  generalize P' = Z at hw ⊢
  obtain ⟨q, c, v, rfl, hl, hb, p⟩ := hw
  exact ⟨q, c, rfl, hl, hb, _, v, _, rfl, p⟩
end LW

namespace LW
open PySem PySem.Spec PyProof.Rows L2 GL
abbrev s_law_is_in_range : Stmt := topS 37
theorem sc_law_is_in_range : FnScope ["question", "column", "value", "low", "high"] ["question", "column", "value"] (defScope s_law_is_in_range) := ⟨rfl, rfl, rfl, by decide +kernel, rfl, by decide +kernel, by decide +kernel⟩
theorem ok_law_is_in_range {P : Program} {w : World} {K : PySem.W.Frag} {mg : Str → Option Value} {base : Heap} (D : DefAt K mg "_law_is_in_range" s_law_is_in_range ["question", "column", "value"]) (c__law_range_of : Cal P w K mg base 1 "_law_range_of" (spW K wRng)) :
    Cal P w K mg base 2 "_law_is_in_range" (spW K wLets) := by
  refine cal_mk D sc_law_is_in_range (fun vs H Q E h => sp_len (len_law_is_in_range) h) (fun f cdv A outer s H vs Q E hG hr h => ?_)
  have h' := h
  obtain ⟨bg, M, ds, P', km, gB, gA, hw, q⟩ := h'
  have nd := sc_law_is_in_range.nd
  refine ⟨_, (pss_cons (ps_asg (pe_cg c__law_range_of (by exact hG) (by exact hr) (by decide) (by rfl) (pa_cons (pv 0) (pa_cons (pv 1) pa_nil))) (pg_tup rfl (pgs_cons (pg_name (i := 3) nd rfl (.inl rfl)) (pgs_cons (pg_name (i := 4) nd rfl (.inl rfl)) pgs_nil))))
    (pss_one (ps_ret (pe_and (pe_or (pe_cmpR op_isN (pv 3) pe_non (nomark _)) (pe_one (pe_cmpR op_le (pv 3) (pv 2) (nomark _)))) (pe_one (pe_or (pe_cmpR op_isN (pv 4) pe_non (nomark _)) (pe_one (pe_cmpR op_le (pv 2) (pv 4) (nomark _))))))))), ?_⟩
  refine w_use (N := ["question", "column", "value", "low", "high"]) (rs_seq (rs_asg (re_call (ra_cons (re_v 0) (ra_cons (re_v 1) ra_nil))) (rg_t2 (rg_name 3) (rg_name 4)))
    (rs_ret (re_andC (re_orC (re_op rp_isN (RE.b (re_v 3)) (RE.b re_non)) (re_op rp_cmp (RE.b (re_v 3)) (RE.b (re_v 2)))) (re_orC (re_op rp_isN (RE.b (re_v 4)) (RE.b re_non)) (re_op rp_cmp (RE.b (re_v 2)) (RE.b (re_v 4))))))) km gB gA q ?_
  clear q gA gB km h
  generalize P' = Z at hw ⊢
  obtain ⟨q, c, v, rfl, hl, hb, p⟩ := hw
  refine ⟨q, c, rfl, hl, hb, ?_⟩
  unfold letsF at p
  generalize rngF q.rs c = e at p ⊢
  obtain ⟨lo, hi⟩ := e
  have p : Z (.bool (btw lo v hi)) := p
  cases lo with
  | none =>
    cases hi with
    | none => exact p
    | some h => exact p
  | some l =>
    have p2 : Z (.bool (decide (l ≤ v) && hiB v hi)) := p
    show if decide (l ≤ v) = true then _ else _
    refine iteB (fun e => ?_) (fun e => ?_)
    · rw [e, Bool.true_and] at p2
      cases hi with
      | none => exact p2
      | some h => exact p2
    · rw [e, Bool.false_and] at p2
      exact p2
end LW

namespace LW
open PySem PySem.Spec PyProof.Rows L2 GL
abbrev sforest_of : Stmt := topS 13
theorem scforest_of : FnScope ["question", "forest", "column"] ["question"] (defScope sforest_of) := ⟨rfl, rfl, rfl, by decide +kernel, rfl, by decide +kernel, by decide +kernel⟩
theorem okforest_of {P : Program} {w : World} {K : PySem.W.Frag} {mg : Str → Option Value} {base : Heap} (D : DefAt K mg "forest_of" sforest_of ["question"]) (c_children_of : Cal P w K mg base 5 "children_of" (spW K wKids)) (c_roots_of : Cal P w K mg base 5 "roots_of" (spW K wRoots)) :
    Cal P w K mg base 6 "forest_of" (spO K (wForestO P w K)) := by
  refine cal_mk D scforest_of (fun vs H Q E h => spO_len lenforest_of h) (fun f cdv A outer s H vs Q E hG hr h => ?_)
  obtain ⟨bg, M, ds, P', km, gB, gA, hw, q⟩ := h
  have nd := scforest_of.nd
  refine ⟨_, (pss_cons (ps_setDc (i := 1) (own := [("column", 2)]) (g := gName 2) (tt := tYes) (by rfl) nd rfl rfl (swD rfl rfl rfl (by decide +kernel)) (pi_tup (pe_ix (ix_seq : IxR _ (rIx K)) (pv 0) pe_int (fun _ _ => rfl)) : PI _ _ _ (iTup K _)) (blkOk_by (own := [("column", 2)]) (N := ["question", "forest", "column"]) (sc := (defScope sforest_of)) (by decide +kernel)) (fun _ _ _ _ _ => (pg_name (i := 2) nd rfl (.inl rfl))) (fun _ _ _ _ _ => pts_nil) (fun _ _ _ _ _ => (pv 2)) (fun _ _ _ _ _ => (pe_cg c_children_of (by exact hG) (by exact hr) (by decide) (by rfl) (pa_cons (pv 0) (pa_cons (pv 2) pa_nil)))))
    (pss_cons (ps_dputN (pv 1) pe_non (pe_cg c_roots_of (by exact hG) (by exact hr) (by decide) (by rfl) (pa_cons (pv 0) pa_nil)) rfl)
    (pss_one (ps_ret (pv 1))))), ?_⟩
  obtain ⟨qq, rfl, ok, ti, z⟩ := hw
  refine forest_use (N := ["question", "forest", "column"]) (rs_ownDc 1 (ri_t (re_op rp_ix (RE.b (re_v 0)) (RE.b (re_int _)))) (rg_name 2) (by decide) rt_yes (re_v 2) (re_call (ra_cons (re_v 0) (ra_cons (re_v 2) ra_nil)))) (re_call (ra_cons (re_v 0) ra_nil)) km gB gA q 1 ?_
  clear q gA gB km
  generalize P' = Z at z ⊢
  have nd := ti.1
  have cl := ok.cl
  refine ⟨⟨_, rfl, ⟨by rw [List.length_map]; omega, fun i acc => acc = (qq.cs.take i).map (fun c => (c, kidD qq (some c))), rfl, fun i d acc hd hI => ?_, fun acc hI => ?_⟩⟩⟩
  · subst hI
    rw [List.getElem?_map] at hd
    cases e : qq.cs[i]? with
    | none => rw [e] at hd; cases hd
    | some c =>
      rw [e] at hd
      cases hd
      have hc := List.mem_of_getElem? e
      refine ⟨qq, c, rfl, ok, hc, ?_⟩
      show putS ((qq.cs.take i).map fun c => (c, kidD qq (some c))) c (kidD qq (some c)) = (qq.cs.take (i + 1)).map fun c => (c, kidD qq (some c))
      have nin : c ∉ ((qq.cs.take i).map fun c => (c, kidD qq (some c))).map (·.1) := fun z => by
        rw [List.map_map, List.map_id'' (f := (fun x : Str × PyData => x.1) ∘ fun c => (c, kidD qq (some c))) (fun _ => rfl)] at z
        obtain ⟨j, hj⟩ := List.getElem?_of_mem z
        rw [List.getElem?_take] at hj
        split at hj
        · have := nodup_get nd hj e
          omega
        · cases hj
      unfold putS
      rw [decide_eq_false nin, if_neg Bool.false_ne_true, List.take_add_one, e, List.map_append]
      rfl
  · rw [List.length_map, List.take_of_length_le (Nat.le_refl _)] at hI
    subst hI
    refine ⟨qq, rfl, ok, _, rfl, by rw [List.length_map]; omega, ?_⟩
    have e : forestKv qq = (qq.cs.map fun c => (c, kidD qq (some c))).map (fun e => (some e.1, e.2)) ++ [(none, .tuple ((kidsF qq none).map .str))] := by
      unfold forestKv
      rw [List.map_map]
      rfl
    rw [e] at z
    exact z
end LW

namespace LW
open PySem PySem.Spec PyProof.Rows L2 GL
abbrev sis_shape : Stmt := topS 17
theorem scis_shape : FnScope ["question", "thing", "forest"] ["question", "thing"] (defScope sis_shape) := ⟨rfl, rfl, rfl, by decide +kernel, rfl, by decide +kernel, by decide +kernel⟩
theorem okis_shape {P : Program} {w : World} {K : PySem.W.Frag} {mg : Str → Option Value} {base : Heap} (D : DefAt K mg "is_shape" sis_shape ["question", "thing"]) (c__are_branches : Cal P w K mg base 20 "_are_branches" (spW K (wAreB P w K 7))) (c_forest_of : Cal P w K mg base 6 "forest_of" (spO K (wForestO P w K))) :
    Cal P w K mg base 21 "is_shape" (spW K wIsShape) := by
  refine cal_mk D scis_shape (fun vs H Q E h => sp_len (lenis_shape) h) (fun f cdv A outer s H vs Q E hG hr h => ?_)
  have h' := h
  obtain ⟨bg, M, ds, P', km, gB, gA, hw, q⟩ := h'
  have nd := scis_shape.nd
  refine ⟨_, (pss_cons (ps_set (i := 2) nd rfl (.inl rfl) (pe_cg c_forest_of (by exact hG) (by exact hr) (by decide) (by rfl) (pa_cons (pv 0) pa_nil)))
    (pss_one (ps_ret (pe_or (pe_cmpR op_isN (pv 1) pe_non (nomark _)) (pe_one (pe_cg c__are_branches (by exact hG) (by exact hr) (by decide) (by rfl) (pa_cons (pv 0) (pa_cons (pv 2) (pa_cons (pe_dgetN (pv 2) pe_non (fun _ _ => rfl)) (pa_cons (pv 1) pa_nil)))))))))), ?_⟩
  refine w_use (N := ["question", "thing", "forest"]) (rs_seq (rs_setOb 2 (ra_cons (re_v 0) ra_nil))
    (rs_ret (re_orC (re_op rp_isN (RE.b (re_v 1)) (RE.b re_non)) (re_call (ra_cons (re_v 0) (ra_ob 2 (ra_cons (re_dgetN 2 re_non) (ra_cons (re_v 1) ra_nil)))))))) km gB gA q ?_
  clear q gA gB km h
  generalize P' = Z at hw ⊢
  obtain ⟨q, d, rfl, ok, ti, ln, p⟩ := hw
  refine ⟨q, rfl, ok, ti, fn_mono P w K _, ?_⟩
  unfold shpB at p
  show if GL.isNone d = true then Z (.bool true) else _
  refine iteB (fun h => ?_) (fun h => ?_)
  · rw [h, Bool.true_or] at p
    exact p
  · rw [h, Bool.false_or] at p
    exact ⟨_, _, rfl, forestKv q, rfl, none, rfl, _, forest_none q, q, kidsF q none, d, 6, rfl, ok, rfl, kids_len ok none, (fun c hc => ⟨(kid_mem.mp hc).1, by omega⟩), ln, p⟩
end LW

namespace LW
open PySem PySem.Spec PyProof.Rows L2 GL
abbrev s_are_branches : Stmt := topS 18
theorem sc_are_branches : FnScope ["question", "forest", "columns", "thing", "column", "branch"] ["question", "forest", "columns", "thing"] (defScope s_are_branches) := ⟨rfl, rfl, rfl, by decide +kernel, rfl, by decide +kernel, by decide +kernel⟩
theorem ok_are_branches {P : Program} {w : World} {K : PySem.W.Frag} {mg : Str → Option Value} {base : Heap} {n : Nat} (D : DefAt K mg "_are_branches" s_are_branches ["question", "forest", "columns", "thing"]) (c__is_branch : Cal P w K mg base (7 + 2 * n) "_is_branch" (spW K (wIsBr P w K n))) (c_is_tuple_of : Cal P w K mg base 1 "is_tuple_of" (spW K wTupOf)) (m_all : mg "all" = none) (m_len : mg "len" = none) (m_zip : mg "zip" = none) :
    Cal P w K mg base (7 + 2 * n + 1) "_are_branches" (spW K (wAreB P w K (n + 1))) := by
  refine cal_mk D sc_are_branches (fun vs H Q E h => sp_len (len_are_branches) h) (fun f cdv A outer s H vs Q E hG hr h => ?_)
  have h' := h
  obtain ⟨bg, M, ds, P', km, gB, gA, hw, q⟩ := h'
  have nd := sc_are_branches.nd
  refine ⟨_, (pss_cons (ps_if (pt_not (pt_val (pe_cg c_is_tuple_of (by exact hG) (by exact hr) (by omega) (by rfl) (pa_cons (pv 3) (pa_cons (pe_callB (call_len2 : CallR _ (.builtin "len") (rLen2 K)) (by rfl) m_len PySem.boot_len (pa_cons (pv 2) pa_nil)) pa_nil))))) (pss_one (ps_ret pe_bl)) pss_nil)
    (pss_one (ps_ret (pe_callB (cr_all rfl : CallR _ (.builtin "all") (rAll K)) (by rfl) m_all (by decide +kernel) (pa_cons (pe_lc (own := [("column", 4), ("branch", 5)]) (g := (gTup K 2 (gCons (gName 4) (gCons (gName 5) gNil)))) (tt := tYes) (by rfl) nd (ZZ.pi_zipZ (by rfl) m_zip (pa_cons (pv 2) (pa_cons (pv 3) pa_nil)) : PI _ _ _ (ZZ.iZipZ K _)) (blkOk_by (own := [("column", 4), ("branch", 5)]) (N := ["question", "forest", "columns", "thing", "column", "branch"]) (sc := (defScope s_are_branches)) (by decide +kernel)) (fun _ _ _ _ _ => (pg_tup rfl (pgs_cons (pg_name (i := 4) nd rfl (.inl rfl)) (pgs_cons (pg_name (i := 5) nd rfl (.inl rfl)) pgs_nil)))) (fun _ _ _ _ _ => pts_nil) (fun _ _ _ _ _ => (pe_cg c__is_branch (by exact hG) (by exact hr) (by omega) (by rfl) (pa_cons (pv 0) (pa_cons (pv 1) (pa_cons (pv 4) (pa_cons (pv 5) pa_nil))))))) pa_nil))))), ?_⟩
  refine w_use (N := ["question", "forest", "columns", "thing", "column", "branch"]) (rs_seq (rs_if (rt_not (rt_vl (re_call (ra_cons (re_v 3) (ra_cons (re_cb rq_lenE (rx_cons (RE.b (re_v 2)) rx_nil)) ra_nil))))) (rs_ret (re_bl _)) rs_next)
    (rs_ret (re_cb rq_all (rx_cons (RE.b (re_lcC (ri_zZ (rd_cons (re_v 2) (rd_cons (re_v 3) rd_nil))) (rg_t2 (rg_name 4) (rg_name 5)) (by decide) rt_yes (re_call (ra_cons (re_v 0) (ra_ob 1 (ra_cons (re_v 4) (ra_cons (re_v 5) ra_nil))))))) rx_nil)))) km gB gA q ?_
  clear q gA gB km h
  generalize P' = Z at hw ⊢
  obtain ⟨q, cs, d, m, rfl, ok, hn, cl, hc, ln, p⟩ := hw
  obtain rfl : m = n := by omega
  refine ⟨((cs.length : Nat) : Int), by rw [List.length_map], d, cs.length, rfl, ?_⟩
  show if (!tupOf d cs.length) = true then Z (.bool false) else _
  cases d with
  | tuple es =>
    show if (!decide (es.length = cs.length)) = true then Z (.bool false) else _
    by_cases hl : es.length = cs.length
    · rw [decide_eq_true hl]
      have lnm := (LN_tup ln).2
      refine lc_mf (f := fun p : Str × PyData => .tuple [.str p.1, p.2]) (l := cs.zip es) (p := fun _ => true) (g := fun p => .bool (brB q p.1 (formB q m (kidsF q (some p.1))) p.2)) (by rw [List.length_zip]; omega) (fun P' h => ?_) (fun x hx acc J j1 _ => ?_) ?_
      · have e := zipD_map PyData.str id cs es
        rw [List.map_id] at e
        show P' (zipD (cs.map .str) es)
        rw [e]
        exact h
      · obtain ⟨h1, h2⟩ := List.of_mem_zip (show (x.1, x.2) ∈ cs.zip es from hx)
        obtain ⟨h3, h4⟩ := hc _ h1
        exact ⟨_, _, rfl, q, x.1, x.2, rfl, ok, h3, h4, lnm _ h2, j1 rfl⟩
      · rw [List.filter_eq_self.mpr fun _ _ => rfl]
        refine ⟨(cs.zip es).map fun p => brB q p.1 (formB q m (kidsF q (some p.1))) p.2, by rw [List.map_map]; rfl, ?_⟩
        have e : formB q (m + 1) cs (.tuple es) = ((cs.zip es).map fun p => brB q p.1 (formB q m (kidsF q (some p.1))) p.2).all id := by
          rw [formB, decide_eq_true hl, List.all_map]
          rfl
        rw [e] at p
        exact p
    · rw [decide_eq_false hl]
      have e : formB q (m + 1) cs (.tuple es) = false := by rw [formB, decide_eq_false hl]; rfl
      rw [e] at p
      exact p
  | _ => exact p
end LW

namespace LW
open PySem PySem.Spec PyProof.Rows L2 GL
abbrev s_is_branch : Stmt := topS 19
theorem sc_is_branch : FnScope ["question", "forest", "column", "thing", "below", "place", "value", "its", "one", "other"] ["question", "forest", "column", "thing"] (defScope s_is_branch) := ⟨rfl, rfl, rfl, by decide +kernel, rfl, by decide +kernel, by decide +kernel⟩
theorem ok_is_branch {P : Program} {w : World} {K : PySem.W.Frag} {mg : Str → Option Value} {base : Heap} {n : Nat} (D : DefAt K mg "_is_branch" s_is_branch ["question", "forest", "column", "thing"]) (c__are_branches : Cal P w K mg base (6 + 2 * n) "_are_branches" (spW K (wAreB P w K n))) (c_is_integer : Cal P w K mg base 1 "is_integer" (spW K wInt)) (c_is_tuple_of : Cal P w K mg base 1 "is_tuple_of" (spW K wTupOf)) (c_lets : Cal P w K mg base 2 "lets" (spW K wLets)) (m_all : mg "all" = none) (m_isinstance : mg "isinstance" = none) (m_tuple : mg "tuple" = none) (m_zip : mg "zip" = none) :
    Cal P w K mg base (6 + 2 * n + 1) "_is_branch" (spW K (wIsBr P w K n)) := by
  refine cal_mk D sc_is_branch (fun vs H Q E h => sp_len (len_is_branch) h) (fun f cdv A outer s H vs Q E hG hr h => ?_)
  have h' := h
  obtain ⟨bg, M, ds, P', km, gB, gA, hw, q⟩ := h'
  have nd := sc_is_branch.nd
  refine ⟨_, (pss_cons (ps_if (PW.pt (pw_or (pt_not (pt_val (pe_callB (call_isi : CallR _ (.builtin "isinstance") (rIsi K)) (by rfl) m_isinstance (by decide +kernel) (pa_cons (pv 3) (pa_cons (pe_bltn (v := .ty "tuple") (u := .type "tuple") (by rfl) m_tuple (by decide +kernel) rfl) pa_nil))))) (pw_or1 (pt_cmpR (op_eqX (by exact hr.units) : OpR _ (compareOp .Eq) (rEqX K)) (pv 3) (pe_tupF pa_nil) (nomark _))))) (pss_one (ps_ret pe_bl)) pss_nil)
    (pss_cons (ps_if (pt_not (pt_val (pe_callB (cr_all rfl : CallR _ (.builtin "all") (rAll K)) (by rfl) m_all (by decide +kernel) (pa_cons (pe_lc (own := [("place", 5)]) (g := gName 5) (tt := tYes) (by rfl) nd (pi_tup (pv 3) : PI _ _ _ (iTup K _)) (blkOk_by (own := [("place", 5)]) (N := ["question", "forest", "column", "thing", "below", "place", "value", "its", "one", "other"]) (sc := (defScope s_is_branch)) (by decide +kernel)) (fun _ _ _ _ _ => (pg_name (i := 5) nd rfl (.inl rfl))) (fun _ _ _ _ _ => pts_nil) (fun _ _ _ _ _ => (pe_and (pe_cg c_is_tuple_of (by exact hG) (by exact hr) (by omega) (by rfl) (pa_cons (pv 5) (pa_cons pe_int pa_nil))) (pe_one (pe_cg c_is_integer (by exact hG) (by exact hr) (by omega) (by rfl) (pa_cons (pe_ix (ix_seq : IxR _ (rIx K)) (pv 5) pe_int (fun _ _ => rfl)) pa_nil)))))) pa_nil)))) (pss_one (ps_ret pe_bl)) pss_nil)
    (pss_cons (ps_if (pt_not (pt_val (pe_callB (cr_all rfl : CallR _ (.builtin "all") (rAll K)) (by rfl) m_all (by decide +kernel) (pa_cons (pe_lc (own := [("one", 8), ("other", 9)]) (g := (gTup K 2 (gCons (gName 8) (gCons (gName 9) gNil)))) (tt := tYes) (by rfl) nd (ZZ.pi_zipZ (by rfl) m_zip (pa_cons (pv 3) (pa_cons (pe_slice (sl_tupA : SlR _ (rSlA K)) (pv 3) (po_some pe_int) po_none) pa_nil)) : PI _ _ _ (ZZ.iZipZ K _)) (blkOk_by (own := [("one", 8), ("other", 9)]) (N := ["question", "forest", "column", "thing", "below", "place", "value", "its", "one", "other"]) (sc := (defScope s_is_branch)) (by decide +kernel)) (fun _ _ _ _ _ => (pg_tup rfl (pgs_cons (pg_name (i := 8) nd rfl (.inl rfl)) (pgs_cons (pg_name (i := 9) nd rfl (.inl rfl)) pgs_nil)))) (fun _ _ _ _ _ => pts_nil) (fun _ _ _ _ _ => (pe_cmpR op_lt (pe_ix (ix_seq : IxR _ (rIx K)) (pv 8) pe_int (fun _ _ => rfl)) (pe_ix (ix_seq : IxR _ (rIx K)) (pv 9) pe_int (fun _ _ => rfl)) (nomark _)))) pa_nil)))) (pss_one (ps_ret pe_bl)) pss_nil)
    (pss_cons (ps_set (i := 4) nd rfl (.inr rfl) (pe_dgetN (pv 1) (pv 2) (fun _ _ => rfl)))
    (pss_one (ps_ret (pe_callB (cr_all rfl : CallR _ (.builtin "all") (rAll K)) (by rfl) m_all (by decide +kernel) (pa_cons (pe_lc (own := [("value", 6), ("its", 7)]) (g := (gTup K 2 (gCons (gName 6) (gCons (gName 7) gNil)))) (tt := tYes) (by rfl) nd (pi_tup (pv 3) : PI _ _ _ (iTup K _)) (blkOk_by (own := [("value", 6), ("its", 7)]) (N := ["question", "forest", "column", "thing", "below", "place", "value", "its", "one", "other"]) (sc := (defScope s_is_branch)) (by decide +kernel)) (fun _ _ _ _ _ => (pg_tup rfl (pgs_cons (pg_name (i := 6) nd rfl (.inl rfl)) (pgs_cons (pg_name (i := 7) nd rfl (.inl rfl)) pgs_nil)))) (fun _ _ _ _ _ => pts_nil) (fun _ _ _ _ _ => (pe_and (pe_cg c_lets (by exact hG) (by exact hr) (by omega) (by rfl) (pa_cons (pv 0) (pa_cons (pv 2) (pa_cons (pv 6) pa_nil)))) (pe_one (pe_cg c__are_branches (by exact hG) (by exact hr) (by omega) (by rfl) (pa_cons (pv 0) (pa_cons (pv 1) (pa_cons (pv 4) (pa_cons (pv 7) pa_nil))))))))) pa_nil)))))))), ?_⟩
  refine w_use (N := ["question", "forest", "column", "thing", "below", "place", "value", "its", "one", "other"]) (rs_seq (rs_if (rt_or (rt_not (rt_vl (re_isi kit_tup (RE.b (re_v 3))))) (rt_tst (re_op rp_eqX (RE.b (re_v 3)) (RE.b (re_tup rd_nil))))) (rs_ret (re_bl _)) rs_next)
    (rs_seq (rs_if (rt_not (rt_vl (re_cb rq_all (rx_cons (RE.b (re_lcC (ri_t (re_v 3)) (rg_name 5) (by decide) rt_yes (re_andC (re_call (ra_cons (re_v 5) (ra_cons (re_int _) ra_nil))) (re_call (ra_cons (re_op rp_ix (RE.b (re_v 5)) (RE.b (re_int _))) ra_nil))))) rx_nil)))) (rs_ret (re_bl _)) rs_next)
    (rs_seq (rs_if (rt_not (rt_vl (re_cb rq_all (rx_cons (RE.b (re_lcC (ri_zZ (rd_cons (re_v 3) (rd_cons (re_slice rx_tupE (RE.b (re_v 3)) (ro_sm (re_int _)) ro_none) rd_nil))) (rg_t2 (rg_name 8) (rg_name 9)) (by decide) rt_yes (re_op rp_cmp (RE.b (re_op rp_ix (RE.b (re_v 8)) (RE.b (re_int _)))) (RE.b (re_op rp_ix (RE.b (re_v 9)) (RE.b (re_int _))))))) rx_nil)))) (rs_ret (re_bl _)) rs_next)
    (rs_seq (rs_set 4 (re_dgetN 1 (re_v 2)))
    (rs_ret (re_cb rq_all (rx_cons (RE.b (re_lcC (ri_t (re_v 3)) (rg_t2 (rg_name 6) (rg_name 7)) (by decide) rt_yes (re_andC (re_call (ra_cons (re_v 0) (ra_cons (re_v 2) (ra_cons (re_v 6) ra_nil)))) (re_call (ra_cons (re_v 0) (ra_ob 1 (ra_cons (re_v 4) (ra_cons (re_v 7) ra_nil)))))))) rx_nil))))))) km gB gA q ?_
  clear q gA gB km h
  generalize P' = Z at hw ⊢
  obtain ⟨q, c, d, rfl, ok, hc, hn, ln, p⟩ := hw
  cases d with
  | tuple ps =>
    have lnm := (LN_tup ln).2
    have ll := (LN_tup ln).1
    refine ⟨Nat.zero_le _, rfl, .inr (.inl rfl), ?_⟩
    cases ps with
    | nil => exact p
    | cons p0 pr =>
    generalize hps : p0 :: pr = ps at *
    have n0 : ps ≠ [] := by rw [← hps]; exact List.cons_ne_nil _ _
    show if nilT (.tuple ps) = true then Z (.bool false) else _
    rw [show nilT (.tuple ps) = false by rw [← hps]; rfl]
    refine lc_mf (f := id) (l := ps) (p := fun _ => true) (g := fun x => .bool (plOk x)) (by omega) (fun P' h => by rw [List.map_id] at h; exact h) (fun x hx acc J j1 _ => ?_) ?_
    · refine ⟨x, 2, rfl, ?_⟩
      show if tupOf x 2 = true then _ else J _
      refine iteB (fun h => ?_) (fun h => ?_)
      · cases x with
        | tuple es =>
          have h2 : es.length = 2 := of_decide_eq_true h
          match es, h2 with
          | [a, b], _ =>
            refine ⟨a, at_head, a, rfl, ?_⟩
            exact j1 rfl
        | _ => cases h
      · have e : plOk x = false := by
          cases x with
          | tuple es =>
            have h2 : ¬ es.length = 2 := of_decide_eq_false h
            match es, h2 with
            | [], _ => rfl
            | [_], _ => rfl
            | [_, _], h => exact absurd rfl h
            | _ :: _ :: _ :: _, _ => rfl
          | _ => rfl
        have j := j1 rfl
        rw [e] at j
        exact j
    rw [List.filter_eq_self.mpr fun _ _ => rfl]
    refine ⟨ps.map plOk, by rw [List.map_map]; rfl, ?_⟩
    show if (!(ps.map plOk).all id) = true then Z (.bool false) else _
    have e0 : (ps.map plOk).all id = ps.all plOk := by rw [List.all_map]; rfl
    rw [e0]
    cases h1 : ps.all plOk with
    | false =>
      have e : brB q c (formB q n (kidsF q (some c))) (.tuple ps) = false := by rw [brB, h1, Bool.false_and, Bool.and_false]
      rw [e] at p
      exact p
    | true =>
      have pl : ∀ x ∈ ps, ∃ (i : Int) (b : PyData), x = .tuple [.int i, b] := fun x hx => plOk_of (List.all_eq_true.mp h1 x hx)
      have nix : ∀ k : Nat, ixT (ps.drop k) = false := fun k => by
        cases e : ps.drop k with
        | nil => rfl
        | cons a r =>
          obtain ⟨i, b, rfl⟩ := pl a (List.mem_of_mem_drop (by rw [e]; exact List.mem_cons_self))
          rfl
      have sl : cutD ps (some ((1 : Nat) : Int)) none = ps.drop 1 := cutD_from ps 1
      refine lc_mf (f := fun x : PyData × PyData => .tuple [x.1, x.2]) (l := ps.zip (ps.drop 1)) (p := fun _ => true) (g := fun x => .bool (decide (plV x.1 < plV x.2))) (by rw [List.length_zip]; omega) (fun P' h => ?_) (fun x hx acc J j1 _ => ?_) ?_
      · have e := zipD_map id id ps (ps.drop 1)
        rw [List.map_id, List.map_id] at e
        refine ⟨_, sl, (fun z => by rw [nix 1] at z; cases z), ?_⟩
        show P' (zipD ps (ps.drop 1))
        rw [e]
        exact h
      · obtain ⟨h2, h3⟩ := List.of_mem_zip (show (x.1, x.2) ∈ ps.zip (ps.drop 1) from hx)
        obtain ⟨i, a, e2⟩ := pl _ h2
        obtain ⟨j, b, e3⟩ := pl _ (List.mem_of_mem_drop h3)
        have j2 := j1 rfl
        obtain ⟨x1, x2⟩ := x
        simp only at e2 e3
        subst e2 e3
        exact ⟨_, at_head, _, at_head, j2⟩
      rw [List.filter_eq_self.mpr fun _ _ => rfl]
      refine ⟨(ps.zip (ps.drop 1)).map fun x => decide (plV x.1 < plV x.2), by rw [List.map_map]; rfl, ?_⟩
      have e1 : ((ps.zip (ps.drop 1)).map fun x => decide (plV x.1 < plV x.2)).all id = ascB ps := by rw [List.all_map]; rfl
      show if (!((ps.zip (ps.drop 1)).map fun x => decide (plV x.1 < plV x.2)).all id) = true then Z (.bool false) else _
      rw [e1]
      cases ha : ascB ps with
      | false =>
        rw [br_asc ha] at p
        exact p
      | true =>
        refine ⟨forestKv q, rfl, some c, rfl, _, forest_some hc, ?_⟩
        have ul := up_lt ok hc
        refine lc_mf (f := id) (l := ps) (p := fun _ => true) (g := fun x => .bool (letsF q.rs c (plV x) && formB q n (kidsF q (some c)) (plB x))) (by omega) (fun P' h => by rw [List.map_id] at h; exact h) (fun x hx acc J j1 _ => ?_) ?_
        · obtain ⟨i, b, rfl⟩ := pl x hx
          have lnb : LN b = true := (LN_tup (lnm _ hx)).2 b (List.mem_cons_of_mem _ List.mem_cons_self)
          refine ⟨q, c, i, rfl, ok.rl, ok.rb, ?_⟩
          have j := j1 rfl
          have e : (letsF q.rs c (plV (.tuple [.int i, b])) && formB q n (kidsF q (some c)) (plB (.tuple [.int i, b]))) = (letsF q.rs c i && formB q n (kidsF q (some c)) b) := rfl
          rw [e] at j
          show if letsF q.rs c i = true then _ else J _
          refine iteB (fun h => ?_) (fun h => ?_)
          · rw [h, Bool.true_and] at j
            refine ⟨_, _, rfl, q, kidsF q (some c), b, n - 1, rfl, ok, by omega, kids_len ok _, (fun k hk => ⟨(kid_mem.mp hk).1, ?_⟩), lnb, j⟩
            have := kid_up ok hc hk
            omega
          · rw [h, Bool.false_and] at j
            exact j
        rw [List.filter_eq_self.mpr fun _ _ => rfl]
        refine ⟨ps.map fun x => letsF q.rs c (plV x) && formB q n (kidsF q (some c)) (plB x), by rw [List.map_map]; rfl, ?_⟩
        have e : brB q c (formB q n (kidsF q (some c))) (.tuple ps) = (ps.map fun x => letsF q.rs c (plV x) && formB q n (kidsF q (some c)) (plB x)).all id := by
          rw [brB, h1, ha, List.all_map]
          rw [show ps.isEmpty = false by rw [← hps]; rfl]
          rfl
        rw [e] at p
        exact p
  | _ => exact p
end LW

namespace LW
open PySem PySem.Spec PyProof.Rows L2 GL
abbrev s_law_is_form : Stmt := topS 42
theorem sc_law_is_form : FnScope ["question", "columns", "thing", "column", "branch", "place", "one", "other"] ["question", "columns", "thing"] (defScope s_law_is_form) := ⟨rfl, rfl, rfl, by decide +kernel, rfl, by decide +kernel, by decide +kernel⟩
theorem ok_law_is_form {P : Program} {w : World} {K : PySem.W.Frag} {mg : Str → Option Value} {base : Heap} {n : Nat} (D : DefAt K mg "_law_is_form" s_law_is_form ["question", "columns", "thing"]) (c__law_children : Cal P w K mg base 4 "_law_children" (spW K wKidsL)) (c__law_is_form : Cal P w K mg base (5 + n) "_law_is_form" (spW K (wFormL n))) (c__law_is_in_range : Cal P w K mg base 2 "_law_is_in_range" (spW K wLets)) (c__law_is_int : Cal P w K mg base 1 "_law_is_int" (spW K wInt)) (m_isinstance : mg "isinstance" = none) (m_len : mg "len" = none) (m_tuple : mg "tuple" = none) (m_zip : mg "zip" = none) :
    Cal P w K mg base (5 + n + 1) "_law_is_form" (spW K (wFormL (n + 1))) := by
  refine cal_mk D sc_law_is_form (fun vs H Q E h => sp_len (len_law_is_form) h) (fun f cdv A outer s H vs Q E hG hr h => ?_)
  have h' := h
  obtain ⟨bg, M, ds, P', km, gB, gA, hw, q⟩ := h'
  have nd := sc_law_is_form.nd
  refine ⟨_, (pss_cons (ps_if (PW.pt (pw_or (pt_not (pt_val (pe_callB (call_isi : CallR _ (.builtin "isinstance") (rIsi K)) (by rfl) m_isinstance (by decide +kernel) (pa_cons (pv 2) (pa_cons (pe_bltn (v := .ty "tuple") (u := .type "tuple") (by rfl) m_tuple (by decide +kernel) rfl) pa_nil))))) (pw_or1 (pt_cmpR op_ne (pe_callB (call_len2 : CallR _ (.builtin "len") (rLen2 K)) (by rfl) m_len PySem.boot_len (pa_cons (pv 2) pa_nil)) (pe_callB (call_len2 : CallR _ (.builtin "len") (rLen2 K)) (by rfl) m_len PySem.boot_len (pa_cons (pv 1) pa_nil)) (nomark _))))) (pss_one (ps_ret pe_bl)) pss_nil)
    (pss_cons (ps_for PassesOwn.never rfl (ZZ.pi_zipZ (by rfl) m_zip (pa_cons (pv 1) (pa_cons (pv 2) pa_nil)) : PI _ _ _ (ZZ.iZipZ K _)) (pg_tup rfl (pgs_cons (pg_name (i := 3) nd rfl (.inl rfl)) (pgs_cons (pg_name (i := 4) nd rfl (.inl rfl)) pgs_nil))) (pss_cons (ps_if (PW.pt (pw_or (pt_not (pt_val (pe_callB (call_isi : CallR _ (.builtin "isinstance") (rIsi K)) (by rfl) m_isinstance (by decide +kernel) (pa_cons (pv 4) (pa_cons (pe_bltn (v := .ty "tuple") (u := .type "tuple") (by rfl) m_tuple (by decide +kernel) rfl) pa_nil))))) (pw_or1 (pt_cmpR (op_eqX (by exact hr.units) : OpR _ (compareOp .Eq) (rEqX K)) (pv 4) (pe_tupF pa_nil) (nomark _))))) (pss_one (ps_ret pe_bl)) pss_nil)
    (pss_cons (ps_for PassesOwn.never rfl (pi_tup (pv 4) : PI _ _ _ (iTup K _)) (pg_name (i := 5) nd rfl (.inl rfl)) (pss_cons (ps_if (PW.pt (pw_or (pt_not (pt_val (pe_callB (call_isi : CallR _ (.builtin "isinstance") (rIsi K)) (by rfl) m_isinstance (by decide +kernel) (pa_cons (pv 5) (pa_cons (pe_bltn (v := .ty "tuple") (u := .type "tuple") (by rfl) m_tuple (by decide +kernel) rfl) pa_nil))))) (pw_or (pt_cmpR op_ne (pe_callB (call_len2 : CallR _ (.builtin "len") (rLen2 K)) (by rfl) m_len PySem.boot_len (pa_cons (pv 5) pa_nil)) pe_int (nomark _)) (pw_or (pt_not (pt_val (pe_cg c__law_is_int (by exact hG) (by exact hr) (by omega) (by rfl) (pa_cons (pe_ix (ix_seq : IxR _ (rIx K)) (pv 5) pe_int (fun _ _ => rfl)) pa_nil)))) (pw_or1 (pt_not (pt_val (pe_cg c__law_is_in_range (by exact hG) (by exact hr) (by omega) (by rfl) (pa_cons (pv 0) (pa_cons (pv 3) (pa_cons (pe_ix (ix_seq : IxR _ (rIx K)) (pv 5) pe_int (fun _ _ => rfl)) pa_nil))))))))))) (pss_one (ps_ret pe_bl)) pss_nil)
    (pss_one (ps_if (pt_not (pt_val (pe_cg c__law_is_form (by exact hG) (by exact hr) (by omega) (by rfl) (pa_cons (pv 0) (pa_cons (pe_cg c__law_children (by exact hG) (by exact hr) (by omega) (by rfl) (pa_cons (pv 0) (pa_cons (pv 3) pa_nil))) (pa_cons (pe_ix (ix_seq : IxR _ (rIx K)) (pv 5) pe_int (fun _ _ => rfl)) pa_nil)))))) (pss_one (ps_ret pe_bl)) pss_nil))))
    (pss_one (ps_if (pt_cmpR (op_neD (by exact hr.units) : OpR _ (compareOp .NotEq) (rNeD K)) (pe_lc (own := [("one", 6), ("other", 7)]) (g := (gTup K 2 (gCons (gName 6) (gCons (gName 7) gNil)))) (by rfl) nd (ZZ.pi_zipZ (by rfl) m_zip (pa_cons (pv 4) (pa_cons (pe_slice (sl_tupA : SlR _ (rSlA K)) (pv 4) (po_some pe_int) po_none) pa_nil)) : PI _ _ _ (ZZ.iZipZ K _)) (blkOk_by (own := [("one", 6), ("other", 7)]) (N := ["question", "columns", "thing", "column", "branch", "place", "one", "other"]) (sc := (defScope s_law_is_form)) (by decide +kernel)) (fun _ _ _ _ _ => (pg_tup rfl (pgs_cons (pg_name (i := 6) nd rfl (.inl rfl)) (pgs_cons (pg_name (i := 7) nd rfl (.inl rfl)) pgs_nil)))) (fun _ _ _ _ _ => (pts_one (pt_cmpR op_ge (pe_ix (ix_seq : IxR _ (rIx K)) (pv 6) pe_int (fun _ _ => rfl)) (pe_ix (ix_seq : IxR _ (rIx K)) (pv 7) pe_int (fun _ _ => rfl)) (nomark _)))) (fun _ _ _ _ _ => pe_int)) (pe_lst pa_nil) (nomark _)) (pss_one (ps_ret pe_bl)) pss_nil)))))
    (pss_one (ps_ret pe_bl)))), ?_⟩
  refine w_use (N := ["question", "columns", "thing", "column", "branch", "place", "one", "other"]) (rs_seq (rs_if (rt_or (rt_not (rt_vl (re_isi kit_tup (RE.b (re_v 2))))) (rt_tst (re_op rp_ne (RE.b (re_cb rq_lenE (rx_cons (RE.b (re_v 2)) rx_nil))) (RE.b (re_cb rq_lenE (rx_cons (RE.b (re_v 1)) rx_nil)))))) (rs_ret (re_bl _)) rs_next)
    (rs_seq (rs_forC (ri_zZ (rd_cons (re_v 1) (rd_cons (re_v 2) rd_nil))) (rg_t2 (rg_name 3) (rg_name 4)) (rs_seq (rs_if (rt_or (rt_not (rt_vl (re_isi kit_tup (RE.b (re_v 4))))) (rt_tst (re_op rp_eqX (RE.b (re_v 4)) (RE.b (re_tup rd_nil))))) (rs_ret (re_bl _)) rs_next)
    (rs_seq (rs_forC (ri_t (re_v 4)) (rg_name 5) (rs_seq (rs_if (rt_or (rt_not (rt_vl (re_isi kit_tup (RE.b (re_v 5))))) (rt_or (rt_tst (re_op rp_ne (RE.b (re_cb rq_lenE (rx_cons (RE.b (re_v 5)) rx_nil))) (RE.b (re_int _)))) (rt_or (rt_not (rt_vl (re_call (ra_cons (re_op rp_ix (RE.b (re_v 5)) (RE.b (re_int _))) ra_nil)))) (rt_not (rt_vl (re_call (ra_cons (re_v 0) (ra_cons (re_v 3) (ra_cons (re_op rp_ix (RE.b (re_v 5)) (RE.b (re_int _))) ra_nil))))))))) (rs_ret (re_bl _)) rs_next)
    (rs_if (rt_not (rt_vl (re_call (ra_cons (re_v 0) (ra_cons (re_call (ra_cons (re_v 0) (ra_cons (re_v 3) ra_nil))) (ra_cons (re_op rp_ix (RE.b (re_v 5)) (RE.b (re_int _))) ra_nil)))))) (rs_ret (re_bl _)) rs_next)))
    (rs_if (rt_tst (re_op ro_neD (RE.b (re_lcC (ri_zZ (rd_cons (re_v 4) (rd_cons (re_slice rx_tupE (RE.b (re_v 4)) (ro_sm (re_int _)) ro_none) rd_nil))) (rg_t2 (rg_name 6) (rg_name 7)) (by decide) (rt_tst (re_op rp_cmp (RE.b (re_op rp_ix (RE.b (re_v 6)) (RE.b (re_int _)))) (RE.b (re_op rp_ix (RE.b (re_v 7)) (RE.b (re_int _)))))) (re_int _))) (RE.b (re_lst rd_nil)))) (rs_ret (re_bl _)) rs_next))))
    (rs_ret (re_bl _)))) km gB gA q ?_
  clear q gA gB km h
  generalize P' = Z at hw ⊢
  obtain ⟨q, cs, d, m, rfl, ok, ne, cv, hn, cl, hc, ln, p⟩ := hw
  obtain rfl : m = n := by omega
  cases d with
  | tuple es =>
    have lnm := (LN_tup ln).2
    have ll := (LN_tup ln).1
    refine ⟨((es.length : Nat) : Int), rfl, ((cs.length : Nat) : Int), by rw [List.length_map], rfl, ?_⟩
    show if (!PyData.eqv (.int ((es.length : Nat) : Int)) (.int ((cs.length : Nat) : Int))) = true then Z (.bool false) else _
    rw [eqvN]
    by_cases hl : es.length = cs.length
    · rw [decide_eq_true hl]
      have no : ∀ {c : Str} {b : PyData}, (c, b) ∈ cs.zip es → brB q c (formB q m (kidsF q (some c))) b = false → Z (.bool false) := fun h1 h2 => by
        rw [form_no h1 h2] at p
        exact p
      refine for_l (f := fun p : Str × PyData => .tuple [.str p.1, p.2]) (l := cs.zip es) (fun P' h => ?_) (fun i ρ => ∃ x3 x4 x5 x6 x7 : Option DV, ρ = [some (.im (qD q)), some (.im (.list (cs.map .str))), some (.im (.tuple es)), x3, x4, x5, x6, x7] ∧ ∀ x ∈ (cs.zip es).take i, brB q x.1 (formB q m (kidsF q (some x.1))) x.2 = true) ⟨none, none, none, none, none, rfl, fun _ z => nomatch z⟩ (fun i x ρ' hx hI => ?_) (fun ρ' hI => ?_)
      · have e := zipD_map PyData.str id cs es
        rw [List.map_id] at e
        show P' (zipD (cs.map .str) es)
        rw [e]
        exact h
      · obtain ⟨x3, x4, x5, x6, x7, rfl, hI⟩ := hI
        obtain ⟨c, b⟩ := x
        have hm := List.mem_of_getElem? hx
        obtain ⟨hm1, hm2⟩ := List.of_mem_zip hm
        obtain ⟨h3, h4⟩ := hc _ hm1
        have no := @no c b hm
        have lnb := lnm _ hm2
        have nxt : brB q c (formB q m (kidsF q (some c))) b = true → ∀ x ∈ (cs.zip es).take (i + 1), brB q x.1 (formB q m (kidsF q (some x.1))) x.2 = true := fun h x hx' => by
          rw [List.take_add_one, hx] at hx'
          rcases List.mem_append.mp hx' with h' | h'
          · exact hI x h'
          · rw [List.mem_singleton.mp h']
            exact h
        have ul := up_lt ok h3
        cases b with
        | tuple ps =>
          refine ⟨Nat.zero_le _, rfl, .inr (.inl rfl), ?_⟩
          show if nilT (.tuple ps) = true then Z (.bool false) else _
          cases ps with
          | nil => exact no rfl
          | cons p0 pr =>
          generalize hps : p0 :: pr = ps at *
          have n0 : ps ≠ [] := by rw [← hps]; exact List.cons_ne_nil _ _
          rw [show nilT (.tuple ps) = false by rw [← hps]; rfl]
          have lnp := (LN_tup lnb).2
          have llp := (LN_tup lnb).1
          refine for_l (f := id) (l := ps) (fun P' h => by rw [List.map_id] at h; exact h) (fun j ρ => ∃ x5 x6 x7 : Option DV, ρ = [some (.im (qD q)), some (.im (.list (cs.map .str))), some (.im (.tuple es)), some (.im (.str c)), some (.im (.tuple ps)), x5, x6, x7] ∧ ∀ x ∈ ps.take j, plOk x = true ∧ (letsF q.rs c (plV x) && formB q m (kidsF q (some c)) (plB x)) = true) ⟨x5, x6, x7, rfl, fun _ z => nomatch z⟩ (fun j d ρ' hd hJ => ?_) (fun ρ' hJ => ?_)
          · obtain ⟨x5, x6, x7, rfl, hJ⟩ := hJ
            have hdm := List.mem_of_getElem? hd
            have lnd := lnp _ hdm
            have nop : plOk d = false → Z (.bool false) := fun h => no (br_ok hdm h)
            cases d with
            | tuple fs =>
              refine ⟨((fs.length : Nat) : Int), rfl, rfl, ?_⟩
              show if (!PyData.eqv (.int ((fs.length : Nat) : Int)) (.int ((2 : Nat) : Int))) = true then Z (.bool false) else _
              rw [eqvN]
              match fs, lnd, hdm, hd, nop with
              | [], _, _, _, nop => exact nop rfl
              | [_], _, _, _, nop => exact nop rfl
              | _ :: _ :: _ :: _, _, _, _, nop =>
                rw [decide_eq_false (by simp)]
                exact nop rfl
              | [a, b], lnd, hdm, hd, nop =>
                rw [show decide (([a, b] : List PyData).length = 2) = true from rfl]
                refine ⟨a, at_head, a, rfl, ?_⟩
                show if (!intD a) = true then Z (.bool false) else _
                cases hi : intD a with
                | false => exact nop hi
                | true =>
                  obtain ⟨k, rfl⟩ := intD_of hi
                  refine ⟨_, at_head, q, c, k, rfl, ok.rl, ok.rb, ?_⟩
                  show if (!letsF q.rs c k) = true then Z (.bool false) else _
                  have inn : (letsF q.rs c k && formB q m (kidsF q (some c)) b) = false → Z (.bool false) := fun h => no (br_in hdm h)
                  cases hlt : letsF q.rs c k with
                  | false =>
                    rw [hlt] at inn
                    exact inn rfl
                  | true =>
                    rw [hlt] at inn
                    refine ⟨q, some c, rfl, ok, ne, cv, (fun x e => by cases e; exact ok.cb c h3), b, atI_nat (j := 1) rfl, q, kidsF q (some c), b, m - 1, rfl, ok, ne, cv, by omega, kids_len ok _, (fun k hk => ⟨(kid_mem.mp hk).1, ?_⟩), ?_, ?_⟩
                    · have := kid_up ok h3 hk
                      omega
                    · exact (LN_tup lnd).2 b (List.mem_cons_of_mem _ List.mem_cons_self)
                    · show if (!formB q m (kidsF q (some c)) b) = true then Z (.bool false) else _
                      cases hf : formB q m (kidsF q (some c)) b with
                      | false =>
                        rw [hf] at inn
                        exact inn rfl
                      | true =>
                        refine Cl.here ⟨_, x6, x7, rfl, fun x hx' => ?_⟩
                        rw [List.take_add_one, hd] at hx'
                        rcases List.mem_append.mp hx' with h' | h'
                        · exact hJ x h'
                        · rw [List.mem_singleton.mp h']
                          refine ⟨hi, ?_⟩
                          show (letsF q.rs c k && formB q m (kidsF q (some c)) b) = true
                          rw [hlt, hf]
                          rfl
            | _ => exact nop rfl
          · obtain ⟨x5, x6, x7, rfl, hJ⟩ := hJ
            rw [List.take_of_length_le (Nat.le_refl _)] at hJ
            have pl : ∀ x ∈ ps, ∃ (i : Int) (b : PyData), x = .tuple [.int i, b] := fun x hx => plOk_of (hJ x hx).1
            have nix : ∀ k : Nat, ixT (ps.drop k) = false := fun k => by
              cases e : ps.drop k with
              | nil => rfl
              | cons a r =>
                obtain ⟨i, b, rfl⟩ := pl a (List.mem_of_mem_drop (by rw [e]; exact List.mem_cons_self))
                rfl
            have sl : cutD ps (some ((1 : Nat) : Int)) none = ps.drop 1 := cutD_from ps 1
            refine lc_mf (f := fun x : PyData × PyData => .tuple [x.1, x.2]) (l := ps.zip (ps.drop 1)) (p := fun x => decide (plV x.1 ≥ plV x.2)) (g := fun x => .int 1) (by rw [List.length_zip]; omega) (fun P' h => ?_) (fun x hx acc J j1 j2 => ?_) ?_
            · have e := zipD_map id id ps (ps.drop 1)
              rw [List.map_id, List.map_id] at e
              refine ⟨_, sl, (fun z => by rw [nix 1] at z; cases z), ?_⟩
              show P' (zipD ps (ps.drop 1))
              rw [e]
              exact h
            · obtain ⟨h2, h3⟩ := List.of_mem_zip (show (x.1, x.2) ∈ ps.zip (ps.drop 1) from hx)
              obtain ⟨i, a, e2⟩ := pl _ h2
              obtain ⟨j, b, e3⟩ := pl _ (List.mem_of_mem_drop h3)
              obtain ⟨x1, x2⟩ := x
              simp only at e2 e3
              subst e2 e3
              exact ⟨_, at_head, _, at_head, iteB (fun h => j1 h) (fun h => j2 h)⟩
            generalize hF : (ps.zip (ps.drop 1)).filter (fun x => decide (plV x.1 ≥ plV x.2)) = F
            have eF : (F.map fun x => PyData.int 1) = (F.map fun _ => (1 : Int)).map .int := by rw [List.map_map]; rfl
            rw [eF]
            refine ⟨Nat.zero_le _, hd_ints _, rfl, shaped_lints _, rfl, ?_⟩
            show if (!PyData.eqv (.list ((F.map fun _ => (1 : Int)).map .int)) (.list [])) = true then Z (.bool false) else _
            rw [eqv_nil, List.isEmpty_map]
            have eA : ascB ps = F.isEmpty := by
              unfold ascB
              rw [Bool.eq_iff_iff, List.isEmpty_iff, ← hF, List.filter_eq_nil_iff, List.all_eq_true]
              refine ⟨fun h x hx => ?_, fun h x hx => ?_⟩
              · have := of_decide_eq_true (h x hx)
                simp only [decide_eq_true_eq]
                omega
              · have := h x hx
                simp only [decide_eq_true_eq] at this ⊢
                omega
            cases hE : F.isEmpty with
            | false =>
              rw [hE] at eA
              exact no (br_asc eA)
            | true =>
              rw [hE] at eA
              exact Cl.here ⟨_, _, x5, x6, x7, rfl, nxt (br_yes n0 hJ eA)⟩
        | _ => exact no rfl
      · obtain ⟨x3, x4, x5, x6, x7, rfl, hI⟩ := hI
        rw [List.take_of_length_le (Nat.le_refl _)] at hI
        rw [form_yes hl hI] at p
        exact p
    · rw [decide_eq_false hl]
      have e : formB q (m + 1) cs (.tuple es) = false := by rw [formB, decide_eq_false hl]; rfl
      rw [e] at p
      exact p
  | _ => exact p
end LW

namespace LW
open PySem PySem.Spec PyProof.Rows L2 GL
def avB4 (d : PyData) : Bool := d.showable && (d.leavesShort 60 && (decide (d.depth ≤ 4) && (decide (d.weight ≤ 400) && (LN d && ((!d.hasDict && d.canLay0) || nlZ d)))))
theorem avB4_of {d : PyData} (h : avB4 d = true) : AV 400 4 d := by
  unfold avB4 at h
  simp only [Bool.and_eq_true, decide_eq_true_eq, Bool.or_eq_true, Bool.not_eq_true'] at h
  obtain ⟨h1, h2, h3, h4, h5, h6⟩ := h
  exact ⟨⟨h1, h2, h3, h4, h5⟩, h6⟩
theorem wt_lst (ds : List PyData) : (PyData.list ds).weight = PyData.weightAll ds := by simp only [PyData.weight]
theorem dep_lst (ds : List PyData) : (PyData.list ds).depth = PyData.depthAll ds + 1 := by simp only [PyData.depth]; try omega
theorem av_mem {l : List PyData} {W k : Nat} (h : ∀ e ∈ l, niB e = true) (hd : ∀ e ∈ l, e.depth ≤ k) (hl : l.length ≤ 20) (hw : PyData.weightAll l ≤ W) : AV W (k + 1) (.tuple l) ∧ AV W (k + 1) (.list l) := by
  have a := ni_es l (niA_of h)
  have d := dA_le.mpr hd
  refine ⟨⟨⟨by simp only [PyData.showable]; exact a.sh, by simp only [PyData.leavesShort]; exact a.sm, by rw [dep_tup]; omega, by rw [wt_tup]; exact hw, by rw [LN, a.ln, decide_eq_true hl]; rfl⟩, .inl ⟨by simp only [PyData.hasDict]; exact a.hd, by simp only [PyData.canLay0]; exact a.cl⟩⟩,
    ⟨⟨by simp only [PyData.showable]; exact a.sh, by simp only [PyData.leavesShort]; exact a.sm, by rw [dep_lst]; omega, by rw [wt_lst]; exact hw, by simp only [LN]⟩, .inl ⟨by simp only [PyData.hasDict]; exact a.hd, by simp only [PyData.canLay0]; exact a.cl⟩⟩⟩
theorem wA_rev : ∀ l : List PyData, PyData.weightAll l.reverse = PyData.weightAll l
  | [] => rfl
  | d :: l => by
    rw [List.reverse_cons, wA_app, wA_rev l, wA_cons, wA_cons]
    simp only [PyData.weightAll]
    omega
theorem wA_take (l : List PyData) (k : Nat) : PyData.weightAll (l.take k) ≤ PyData.weightAll l := by
  have := wA_app (l.take k) (l.drop k)
  rw [List.take_append_drop] at this
  omega
theorem wA_drop (l : List PyData) (k : Nat) : PyData.weightAll (l.drop k) ≤ PyData.weightAll l := by
  have := wA_app (l.take k) (l.drop k)
  rw [List.take_append_drop] at this
  omega
theorem nodup_le {α : Type} [DecidableEq α] : ∀ {l m : List α}, l.Nodup → (∀ a ∈ l, a ∈ m) → l.length ≤ m.length
  | [], _, _, _ => Nat.zero_le _
  | a :: l, m, h, s => by
    rw [List.nodup_cons] at h
    have hm := s a List.mem_cons_self
    have ih := nodup_le (l := l) (m := m.erase a) h.2 fun b hb => (List.mem_erase_of_ne (fun e => h.1 (by rw [← e]; exact hb))).mpr (s b (List.mem_cons_of_mem _ hb))
    rw [List.length_erase_of_mem hm] at ih
    have := List.length_pos_of_mem hm
    rw [List.length_cons]
    omega
theorem lt_nodup {l : List Int} (h : l.Pairwise (· < ·)) : l.Nodup := h.imp fun h e => by omega
theorem rng_sm {rs : List Rng} (h : ∀ r ∈ rs, ROk r) (c : Str) : SmO (rngF rs c).1 ∧ SmO (rngF rs c).2 := by
  unfold rngF
  cases e : rs.find? fun r => r.1 == c with
  | none => exact ⟨fun _ z => (nomatch z), fun _ z => (nomatch z)⟩
  | some r =>
    have := h r (List.mem_of_find?_eq_some e)
    exact ⟨this.lo, this.hi⟩
theorem ixT_ni {l : List PyData} (h : ∀ e ∈ l, niB e = true) : ixT l = false := by
  cases l with
  | nil => rfl
  | cons a l =>
    have := h a List.mem_cons_self
    cases a <;> first | rfl | (simp [niB] at this; done)
theorem ni_shaped {d : PyData} (h : niB d = true) (hd : d.depth ≤ 14) : SeqAt.shaped d = true := by
  unfold SeqAt.shaped
  rw [(ni_e d h).cl, decide_eq_true (by omega)]
  rfl
theorem av_i {i : Int} (h : i.natAbs ≤ 1102) : AV 400 3 (.int i) := by
  have l2 : i.natAbs.log2 < 11 := by
    by_cases z : i.natAbs = 0
    · rw [z]; decide
    · exact (Nat.log2_lt z).mpr (by omega)
  refine ⟨⟨?_, ?_, by simp [PyData.depth], ?_, by simp [LN]⟩, .inl ⟨by simp [PyData.hasDict], by simp [PyData.canLay0]⟩⟩
  · simp only [PyData.showable, decide_eq_true_eq]
    omega
  · simp only [PyData.leavesShort, decide_eq_true_eq]
    exact Nat.le_trans (PyData.shown_int_le (by omega)) (by decide)
  · simp only [PyData.weight]
    split <;> omega
theorem wt_i {i : Int} (h : i.natAbs ≤ 1100) : (PyData.int i).weight ≤ 12 := by
  have l2 : i.natAbs.log2 < 11 := by
    by_cases z : i.natAbs = 0
    · rw [z]; decide
    · exact (Nat.log2_lt z).mpr (by omega)
  simp only [PyData.weight]
  split <;> omega
theorem av_one {i : Int} (h : i.natAbs ≤ 1100) : AV 400 4 (.tuple [.int i]) := by
  have w := wt_i h
  refine ((av_mem (l := [.int i]) (W := 400) (k := 3) (fun e he => ?_) (fun e he => ?_) (by show 1 ≤ 20; decide) ?_).1)
  · rw [List.mem_singleton.mp he, niB, decide_eq_true h]
  · rw [List.mem_singleton.mp he]
    simp [PyData.depth]
  · rw [wA_cons]
    simp only [PyData.weightAll]
    omega
theorem AV.rep2 {w dp : Nat} {d : PyData} (h : AV w dp d) (hw : w ≤ 250000) (hd : dp ≤ 30) : RepOk d := by
  obtain ⟨e, c⟩ := h
  have le := PyData.shown_le 60 (by decide) d e.sm
  have lw := e.wt
  have ld := e.dep
  have l2 : d.shown.length ≤ sizeLine := by rw [sizeLine_eq]; omega
  have sw : ShowsW d := ⟨e.sh, by omega, l2⟩
  have A : clA d → RepOk d := fun c => by
    have so : Shows d := ⟨e.sh, c.1, by omega, l2⟩
    cases d with
    | list ds => exact .inl (.inl ⟨so, fun z => nomatch z⟩)
    | tuple ds => exact .inl (.inl ⟨so, fun z => nomatch z⟩)
    | dict ds => have := c.1; simp [PyData.hasDict] at this
    | _ => exact .inl (.inr ⟨sw, .inl rfl⟩)
  rcases c with c | c
  · exact A c
  · cases d with
    | list ds => exact absurd (show nlZ (.list ds) = true from c) (by simp [nlZ])
    | tuple ds => exact .inr ⟨sw, c, rfl⟩
    | dict ds => exact .inr ⟨sw, c, rfl⟩
    | _ => exact .inl (.inr ⟨sw, .inl rfl⟩)
end LW

namespace LW
open PySem PySem.Spec PyProof.Rows L2 GL
abbrev s_law_odd : Stmt := topS 40
theorem sc_law_odd : FnScope ["bag"] ["bag"] (defScope s_law_odd) := ⟨rfl, rfl, rfl, by decide +kernel, rfl, by decide +kernel, by decide +kernel⟩
theorem ok_law_odd {P : Program} {w : World} {K : PySem.W.Frag} {mg : Str → Option Value} {base : Heap} (D : DefAt K mg "_law_odd" s_law_odd ["bag"]) (c__law_some : Cal P w K mg base 2 "_law_some" (spW K wSome)) :
    Cal P w K mg base 3 "_law_odd" (spW K wOdd2) := by
  refine cal_mk D sc_law_odd (fun vs H Q E h => sp_len (len_law_odd2) h) (fun f cdv A outer s H vs Q E hG hr h => ?_)
  have h' := h
  obtain ⟨bg, M, ds, P', km, gB, gA, hw, q⟩ := h'
  have nd := sc_law_odd.nd
  refine ⟨_, (pss_one (ps_ret (pe_cg c__law_some (by exact hG) (by exact hr) (by decide) (by rfl) (pa_cons (pv 0) (pa_cons (pe_lst (pa_cons pe_non (pa_cons pe_bl (pa_cons pe_int (pa_cons (pe_un un_neg pe_int) (pa_cons pe_str (pa_cons pe_str (pa_cons pe_str (pa_cons (pe_tupF pa_nil) (pa_cons (pe_lst pa_nil) (pa_cons pe_dnewK (pa_cons (pe_tupF (pa_cons (pe_tupF pa_nil) pa_nil)) (pa_cons (pe_tupF (pa_cons pe_int pa_nil)) (pa_cons (pe_tupF (pa_cons (pe_tupF (pa_cons pe_int (pa_cons (pe_tupF pa_nil) pa_nil))) pa_nil)) (pa_cons (pe_tupF (pa_cons (pe_tupF (pa_cons (pe_tupF (pa_cons pe_int (pa_cons (pe_tupF pa_nil) pa_nil))) pa_nil)) pa_nil)) (pa_cons (pe_tupF (pa_cons pe_int (pa_cons pe_int pa_nil))) (pa_cons (pe_tupF (pa_cons pe_str pa_nil)) (pa_cons (pe_op op_pow pe_int pe_int) pa_nil)))))))))))))))))) pa_nil))))), ?_⟩
  refine w_use (N := ["bag"]) (rs_ret (re_call (ra_b 0 (ra_cons (re_lst (rd_cons re_non (rd_cons (re_bl _) (rd_cons (re_int _) (rd_cons (re_neg (re_int _)) (rd_cons (re_str _) (rd_cons (re_str _) (rd_cons (re_str _) (rd_cons (re_tup rd_nil) (rd_cons (re_lst rd_nil) (rd_cons re_dnew (rd_cons (re_tup (rd_cons (re_tup rd_nil) rd_nil)) (rd_cons (re_tup (rd_cons (re_int _) rd_nil)) (rd_cons (re_tup (rd_cons (re_tup (rd_cons (re_int _) (rd_cons (re_tup rd_nil) rd_nil))) rd_nil)) (rd_cons (re_tup (rd_cons (re_tup (rd_cons (re_tup (rd_cons (re_int _) (rd_cons (re_tup rd_nil) rd_nil))) rd_nil)) rd_nil)) (rd_cons (re_tup (rd_cons (re_int _) (rd_cons (re_int _) rd_nil))) (rd_cons (re_tup (rd_cons (re_str _) rd_nil)) (rd_cons (re_op rp_pow (RE.b (re_int _)) (RE.b (re_int _))) rd_nil)))))))))))))))))) ra_nil)))) km gB gA q ?_
  clear q gA gB km h
  generalize P' = Z at hw ⊢
  obtain ⟨rfl, p⟩ := hw
  repeat (refine ⟨by decide, ?_⟩)
  refine ⟨_, _, rfl, rfl, (fun z => nomatch z), by decide, fun d hd => p d (avB4_of (List.all_eq_true.mp (by decide +kernel) d hd))⟩
end LW

namespace LW
open PySem PySem.Spec PyProof.Rows L2 GL
abbrev s_law_bent : Stmt := topS 41
theorem sc_law_bent : FnScope ["bag", "thing", "at"] ["bag", "thing"] (defScope s_law_bent) := ⟨rfl, rfl, rfl, by decide +kernel, rfl, by decide +kernel, by decide +kernel⟩
theorem ok_law_bent {P : Program} {w : World} {K : PySem.W.Frag} {mg : Str → Option Value} {base : Heap} {n : Nat} (D : DefAt K mg "_law_bent" s_law_bent ["bag", "thing"]) (c__law_bent : Cal P w K mg base (4 + n) "_law_bent" (spW K (wBent2 n))) (c__law_is_int : Cal P w K mg base 1 "_law_is_int" (spW K wInt)) (c__law_odd : Cal P w K mg base 3 "_law_odd" (spW K wOdd2)) (c__law_some : Cal P w K mg base 2 "_law_some" (spW K wSome)) (c__law_take : Cal P w K mg base 1 "_law_take" (spW K wTake)) (m_isinstance : mg "isinstance" = none) (m_len : mg "len" = none) (m_list : mg "list" = none) (m_str : mg "str" = none) (m_tuple : mg "tuple" = none) :
    Cal P w K mg base (4 + n + 1) "_law_bent" (spW K (wBent2 (n + 1))) := by
  refine cal_mk D sc_law_bent (fun vs H Q E h => sp_len (len_law_bent2) h) (fun f cdv A outer s H vs Q E hG hr h => ?_)
  have h' := h
  obtain ⟨bg, M, ds, P', km, gB, gA, hw, q⟩ := h'
  have nd := sc_law_bent.nd
  refine ⟨_, (pss_cons (ps_if (PW.pt (pw_and (pt_val (pe_callB (call_isi : CallR _ (.builtin "isinstance") (rIsi K)) (by rfl) m_isinstance (by decide +kernel) (pa_cons (pv 1) (pa_cons (pe_bltn (v := .ty "tuple") (u := .type "tuple") (by rfl) m_tuple (by decide +kernel) rfl) pa_nil)))) (pw_and (pt_cmpR (op_neD (by exact hr.units) : OpR _ (compareOp .NotEq) (rNeD K)) (pv 1) (pe_tupF pa_nil) (nomark _)) (pw_and1 (pt_cmpR op_gt (pe_cg c__law_take (by exact hG) (by exact hr) (by omega) (by rfl) (pa_cons (pv 0) (pa_cons pe_int pa_nil))) pe_int (nomark _)))))) (pss_cons (ps_set (i := 2) nd rfl (.inl rfl) (pe_cg c__law_take (by exact hG) (by exact hr) (by omega) (by rfl) (pa_cons (pv 0) (pa_cons (pe_callB (call_len2 : CallR _ (.builtin "len") (rLen2 K)) (by rfl) m_len PySem.boot_len (pa_cons (pv 1) pa_nil)) pa_nil))))
    (pss_one (ps_ret (pe_op (op_catF : OpR _ (binaryOp .Add) (rCatF K)) (pe_op (op_catF : OpR _ (binaryOp .Add) (rCatF K)) (pe_slice (sl_tupA : SlR _ (rSlA K)) (pv 1) po_none (po_some (pv 2))) (pe_tupF (pa_cons (pe_cg c__law_bent (by exact hG) (by exact hr) (by omega) (by rfl) (pa_cons (pv 0) (pa_cons (pe_ix (ix_seq : IxR _ (rIx K)) (pv 1) (pv 2) (fun _ _ => rfl)) pa_nil))) pa_nil))) (pe_slice (sl_tupA : SlR _ (rSlA K)) (pv 1) (po_some (pe_op op_add (pv 2) pe_int)) po_none))))) pss_nil)
    (pss_cons (ps_if (pt_val (pe_callB (call_isi : CallR _ (.builtin "isinstance") (rIsi K)) (by rfl) m_isinstance (by decide +kernel) (pa_cons (pv 1) (pa_cons (pe_bltn (v := .ty "tuple") (u := .type "tuple") (by rfl) m_tuple (by decide +kernel) rfl) pa_nil)))) (pss_one (ps_ret (pe_cg c__law_some (by exact hG) (by exact hr) (by omega) (by rfl) (pa_cons (pv 0) (pa_cons (pe_lst (pa_cons (pe_callTy call_list_of (by rfl) m_list (by decide +kernel) (pa_cons (pv 1) pa_nil)) (pa_cons (pe_slice (sl_tupA : SlR _ (rSlA K)) (pv 1) (po_some pe_int) po_none) (pa_cons (pe_op (op_catF : OpR _ (binaryOp .Add) (rCatF K)) (pv 1) (pe_slice (sl_tupA : SlR _ (rSlA K)) (pv 1) po_none (po_some pe_int))) (pa_cons (pe_revT (pv 1)) (pa_cons (pe_cg c__law_odd (by exact hG) (by exact hr) (by omega) (by rfl) (pa_cons (pv 0) pa_nil)) pa_nil)))))) pa_nil))))) pss_nil)
    (pss_cons (ps_if (pt_val (pe_cg c__law_is_int (by exact hG) (by exact hr) (by omega) (by rfl) (pa_cons (pv 1) pa_nil))) (pss_one (ps_ret (pe_cg c__law_some (by exact hG) (by exact hr) (by omega) (by rfl) (pa_cons (pv 0) (pa_cons (pe_lst (pa_cons (pe_op op_add (pv 1) pe_int) (pa_cons (pe_op op_sub (pv 1) pe_int) (pa_cons (pe_cmpR op_eq (pv 1) pe_int (nomark _)) (pa_cons pe_non (pa_cons (pe_callTy (call_strI : CallR _ (.type "str") rStrI) (by rfl) m_str (by decide +kernel) (pa_cons (pv 1) pa_nil)) (pa_cons (pe_tupF (pa_cons (pv 1) pa_nil)) pa_nil))))))) pa_nil))))) pss_nil)
    (pss_one (ps_ret (pe_cg c__law_odd (by exact hG) (by exact hr) (by omega) (by rfl) (pa_cons (pv 0) pa_nil))))))), ?_⟩
  refine w_use (N := ["bag", "thing", "at"]) (rs_seq (rs_if (rt_and (rt_vl (re_isi kit_tup (RE.b (re_v 1)))) (rt_and (rt_tst (re_op ro_neD (RE.b (re_v 1)) (RE.b (re_tup rd_nil)))) (rt_tst (re_op rp_cmp (RE.b (re_call (ra_b 0 (ra_cons (re_int _) ra_nil)))) (RE.b (re_int _)))))) (rs_seq (rs_set 2 (re_call (ra_b 0 (ra_cons (re_cb rq_lenE (rx_cons (RE.b (re_v 1)) rx_nil)) ra_nil))))
    (rs_ret (re_op rp_catF (RE.b (re_op rp_catF (RE.b (re_slice rx_tupE (RE.b (re_v 1)) ro_none (ro_sm (re_v 2)))) (RE.b (re_tup (rd_cons (re_call (ra_b 0 (ra_cons (re_op rp_ix (RE.b (re_v 1)) (RE.b (re_v 2))) ra_nil))) rd_nil))))) (RE.b (re_slice rx_tupE (RE.b (re_v 1)) (ro_sm (re_op rp_add (RE.b (re_v 2)) (RE.b (re_int _)))) ro_none))))) rs_next)
    (rs_seq (rs_if (rt_vl (re_isi kit_tup (RE.b (re_v 1)))) (rs_ret (re_call (ra_b 0 (ra_cons (re_lst (rd_cons (re_cb rq_list (rx_cons (RE.b (re_v 1)) rx_nil)) (rd_cons (re_slice rx_tupE (RE.b (re_v 1)) (ro_sm (re_int _)) ro_none) (rd_cons (re_op rp_catF (RE.b (re_v 1)) (RE.b (re_slice rx_tupE (RE.b (re_v 1)) ro_none (ro_sm (re_int _))))) (rd_cons (re_revT (re_v 1)) (rd_cons (re_call (ra_b 0 ra_nil)) rd_nil)))))) ra_nil)))) rs_next)
    (rs_seq (rs_if (rt_vl (re_call (ra_cons (re_v 1) ra_nil))) (rs_ret (re_call (ra_b 0 (ra_cons (re_lst (rd_cons (re_op rp_add (RE.b (re_v 1)) (RE.b (re_int _))) (rd_cons (re_op rp_sub (RE.b (re_v 1)) (RE.b (re_int _))) (rd_cons (re_op rp_eq (RE.b (re_v 1)) (RE.b (re_int _))) (rd_cons re_non (rd_cons (re_cb rq_strI (rx_cons (RE.b (re_v 1)) rx_nil)) (rd_cons (re_tup (rd_cons (re_v 1) rd_nil)) rd_nil))))))) ra_nil)))) rs_next)
    (rs_ret (re_call (ra_b 0 ra_nil)))))) km gB gA q ?_
  clear q gA gB km h
  generalize P' = Z at hw ⊢
  obtain ⟨d, wg, m, rfl, hn, hm, hb, hd, hw, p⟩ := hw
  obtain rfl : m = n := by omega
  have up : ∀ e, AV 400 4 e → Z e := fun e he => p e (he.mono (by omega) (by omega))
  have up3 : ∀ e, AV 400 3 e → Z e := fun e he => up e (he.mono (Nat.le_refl _) (by omega))
  cases d with
  | none => exact ⟨.none, rfl, rfl, fun o ho => up o ho⟩
  | int i =>
    have hi : i.natAbs ≤ 1100 := by rw [niB, decide_eq_true_eq] at hb; exact hb
    refine ⟨.int i, rfl, ?_⟩
    refine ⟨rfl, by omega, by show 1 ≤ 1000; decide, by show 6 ≤ 1000; decide, _, _, rfl, rfl, (fun z => nomatch z), by show 6 < 1000000; decide, fun e he => ?_⟩
    simp only [List.mem_cons, List.not_mem_nil, or_false] at he
    rcases he with rfl | rfl | rfl | rfl | rfl | rfl
    · exact up3 _ (av_i (by omega))
    · exact up3 _ (av_i (by omega))
    · exact up3 _ (av_bool _)
    · exact up3 _ (avB_of (by decide +kernel))
    · exact up3 _ (str_av2 hi)
    · exact up _ (av_one hi)
  | tuple es =>
    have ne := ni_e _ hb
    have hb2 := hb
    rw [niB, Bool.and_eq_true, decide_eq_true_eq] at hb2
    obtain ⟨hl, hA⟩ := hb2
    have mem := niA_mem hA
    have hd2 := hd
    rw [dep_tup] at hd2
    have dm : ∀ e ∈ es, e.depth ≤ m - 1 := fun e he => by
      have := dA_le.mp (Nat.le_refl (PyData.depthAll es)) e he
      omega
    have wm : PyData.weightAll es ≤ wg := by rw [wt_tup] at hw; exact hw
    have AM : ∀ l : List PyData, (∀ e ∈ l, e ∈ es) → l.length ≤ 20 → PyData.weightAll l ≤ 2 * wg → Z (.tuple l) ∧ Z (.list l) := fun l h1 h2 h3 => by
      obtain ⟨a, b⟩ := av_mem (l := l) (W := 2 * wg + 400) (k := m - 1) (fun e he => mem e (h1 e he)) (fun e he => dm e (h1 e he)) h2 (by omega)
      exact ⟨p _ (a.mono (Nat.le_refl _) (by omega)), p _ (b.mono (Nat.le_refl _) (by omega))⟩
    have ixb : ∀ l : List PyData, (∀ e ∈ l, e ∈ es) → ixT l = false := fun l h => ixT_ni fun e he => mem e (h e he)
    have five : ∀ n1 : Nat, n1 = 1 → True := fun _ _ => trivial
    refine ⟨Nat.zero_le _, ne.hd, rfl, ni_shaped hb (by omega), rfl, ?_⟩
    show if (!PyData.eqv (.tuple es) (.tuple [])) = true then _ else _
    rw [eqv_nilT]
    refine iteB (fun h => ?_) (fun _ => ?_)
    · have l1 : 1 ≤ es.length := by
        cases es with
        | nil => cases h
        | cons => rw [List.length_cons]; omega
      refine ⟨6, rfl, by decide, by decide, fun r r0 r1 => ?_⟩
      refine iteB (fun _ => ?_) (fun _ => ?_)
      · refine ⟨((es.length : Nat) : Int), rfl, _, rfl, by omega, by omega, fun a a0 a1 => ?_⟩
        obtain ⟨k, rfl⟩ : ∃ k : Nat, a = k := ⟨a.toNat, by omega⟩
        have kl : k < es.length := by omega
        have eg : es[k]? = some (es[k]'kl) := List.getElem?_eq_getElem _
        have lt : (es.take k).length = k := by rw [List.length_take]; omega
        have s2 : cutD es (some ((k : Int) + 1)) none = es.drop (k + 1) := cutD_from es (k + 1)
        have hm2 := List.getElem_mem kl
        refine ⟨_, cutD_to es k, (fun z => by rw [ixb _ (fun e he => List.mem_of_mem_take he)] at z; cases z), es[k]'kl, atI_nat eg, es[k]'kl, (es[k]'kl).weight, m - 1, rfl, by omega, by omega, mem _ hm2, dm _ hm2, Nat.le_refl _, fun o ho => ?_⟩
        refine ⟨by show 1 ≤ 1000; decide, by show _ + 1 ≤ 1000; omega, _, s2, (fun z => by rw [ixb _ (fun e he => List.mem_of_mem_drop he)] at z; cases z), by rw [List.length_append, List.length_drop]; show _ + 1 + _ ≤ 1000; omega, ?_⟩
        exact p _ (av_repl hb hd hw kl (ho.mono (Nat.le_refl _) (by omega)))
      · refine ⟨_, cutD_from es 1, (fun z => by rw [ixb _ (fun e he => List.mem_of_mem_drop he)] at z; cases z), _, cutD_to es 1, (fun z => by rw [ixb _ (fun e he => List.mem_of_mem_take he)] at z; cases z), by rw [List.length_take]; omega, rfl, fun o ho => ⟨by show 5 ≤ 1000; decide, _, _, rfl, rfl, (fun z => nomatch z), by show 5 < 1000000; decide, fun e he => ?_⟩⟩
        simp only [List.mem_cons, List.not_mem_nil, or_false] at he
        have w1 := wA_drop es 1
        have w2 := wA_take es 1
        rcases he with rfl | rfl | rfl | rfl | rfl
        · exact (AM es (fun e h => h) (by omega) (by omega)).2
        · exact (AM (es.drop 1) (fun e he => List.mem_of_mem_drop he) (by rw [List.length_drop]; omega) (by omega)).1
        · refine (AM (es ++ es.take 1) (fun e he => ?_) (by rw [List.length_append, List.length_take]; omega) (by rw [wA_app]; omega)).1
          rcases List.mem_append.mp he with h | h
          · exact h
          · exact List.mem_of_mem_take h
        · exact (AM es.reverse (fun e he => List.mem_reverse.mp he) (by rw [List.length_reverse]; omega) (by rw [wA_rev]; omega)).1
        · exact up _ ho
    · refine ifF rfl ?_
      refine ⟨_, cutD_from es 1, (fun z => by rw [ixb _ (fun e he => List.mem_of_mem_drop he)] at z; cases z), _, cutD_to es 1, (fun z => by rw [ixb _ (fun e he => List.mem_of_mem_take he)] at z; cases z), by rw [List.length_take]; omega, rfl, fun o ho => ⟨by show 5 ≤ 1000; decide, _, _, rfl, rfl, (fun z => nomatch z), by show 5 < 1000000; decide, fun e he => ?_⟩⟩
      simp only [List.mem_cons, List.not_mem_nil, or_false] at he
      have w1 := wA_drop es 1
      have w2 := wA_take es 1
      rcases he with rfl | rfl | rfl | rfl | rfl
      · exact (AM es (fun e h => h) (by omega) (by omega)).2
      · exact (AM (es.drop 1) (fun e he => List.mem_of_mem_drop he) (by rw [List.length_drop]; omega) (by omega)).1
      · refine (AM (es ++ es.take 1) (fun e he => ?_) (by rw [List.length_append, List.length_take]; omega) (by rw [wA_app]; omega)).1
        rcases List.mem_append.mp he with h | h
        · exact h
        · exact List.mem_of_mem_take h
      · exact (AM es.reverse (fun e he => List.mem_reverse.mp he) (by rw [List.length_reverse]; omega) (by rw [wA_rev]; omega)).1
      · exact up _ ho
  | _ => simp [niB] at hb
end LW

namespace LW
open PySem PySem.Spec PyProof.Rows L2 GL
abbrev s_law_drawn_shape : Stmt := topS 38
theorem sc_law_drawn_shape : FnScope ["bag", "question", "columns", "wide", "found", "column", "begin", "values", "below", "low", "high", "value", "turn"] ["bag", "question", "columns", "wide"] (defScope s_law_drawn_shape) := ⟨rfl, rfl, rfl, by decide +kernel, rfl, by decide +kernel, by decide +kernel⟩
theorem ok_law_drawn_shape {P : Program} {w : World} {K : PySem.W.Frag} {mg : Str → Option Value} {base : Heap} {n : Nat} (D : DefAt K mg "_law_drawn_shape" s_law_drawn_shape ["bag", "question", "columns", "wide"]) (c__law_children : Cal P w K mg base 4 "_law_children" (spW K wKidsL)) (c__law_drawn_shape : Cal P w K mg base (5 + n) "_law_drawn_shape" (spW K (wDrawS n))) (c__law_range_of : Cal P w K mg base 1 "_law_range_of" (spW K wRng)) (c__law_some : Cal P w K mg base 2 "_law_some" (spW K wSome)) (c__law_take : Cal P w K mg base 1 "_law_take" (spW K wTake)) (m_range : mg "range" = none) (m_set : mg "set" = none) (m_sorted : mg "sorted" = none) (m_tuple : mg "tuple" = none) :
    Cal P w K mg base (5 + n + 1) "_law_drawn_shape" (spW K (wDrawS (n + 1))) := by
  refine cal_mk D sc_law_drawn_shape (fun vs H Q E h => sp_len (len_law_drawn_shape) h) (fun f cdv A outer s H vs Q E hG hr h => ?_)
  have h' := h
  obtain ⟨bg, M, ds, P', km, gB, gA, hw, q⟩ := h'
  have nd := sc_law_drawn_shape.nd
  refine ⟨_, (pss_cons (ps_set (i := 4) nd rfl (.inl rfl) (pe_lst pa_nil))
    (pss_cons (ps_for PassesOwn.never rfl (pi_list (pv 2) : PI _ _ _ (iList K _)) (pg_name (i := 5) nd rfl (.inl rfl)) (pss_cons (ps_asg (pe_cg c__law_range_of (by exact hG) (by exact hr) (by omega) (by rfl) (pa_cons (pv 1) (pa_cons (pv 5) pa_nil))) (pg_tup rfl (pgs_cons (pg_name (i := 9) nd rfl (.inl rfl)) (pgs_cons (pg_name (i := 10) nd rfl (.inr rfl)) pgs_nil))))
    (pss_cons (ps_set (i := 6) nd rfl (.inr rfl) (pe_ifExp (pt_cmpR op_notN (pv 9) pe_non (nomark _)) (pv 9) (pe_ifExp (pt_cmpR op_notN (pv 10) pe_non (nomark _)) (pe_op op_sub (pv 10) pe_int) (pe_un un_neg pe_int))))
    (pss_cons (ps_set (i := 7) nd rfl (.inl rfl) (pe_op op_cat (pe_lst (pa_cons (pv 6) pa_nil)) (pe_lc (own := [("turn", 12)]) (g := gName 12) (tt := tYes) (by rfl) nd (pi_range1 (by rfl) m_range (pa_cons (pe_cg c__law_some (by exact hG) (by exact hr) (by omega) (by rfl) (pa_cons (pv 0) (pa_cons (pe_lst (pa_cons pe_int (pa_cons pe_int (pa_cons pe_int (pa_cons (pv 3) pa_nil))))) pa_nil))) pa_nil)) (blkOk_by (own := [("turn", 12)]) (N := ["bag", "question", "columns", "wide", "found", "column", "begin", "values", "below", "low", "high", "value", "turn"]) (sc := (defScope s_law_drawn_shape)) (by decide +kernel)) (fun _ _ _ _ _ => (pg_name (i := 12) nd rfl (.inl rfl))) (fun _ _ _ _ _ => pts_nil) (fun _ _ _ _ _ => (pe_op op_add (pv 6) (pe_cg c__law_take (by exact hG) (by exact hr) (by omega) (by rfl) (pa_cons (pv 0) (pa_cons pe_int pa_nil))))))))
    (pss_cons (ps_setLc (i := 7) (own := [("value", 11)]) (g := gName 11) (by rfl) nd rfl rfl (sw_true rfl rfl rfl (by decide +kernel)) (pi_list (pe_callB (cr_sortedSet rfl : CallR _ (.builtin "sorted") (rSortedSet w)) (by rfl) m_sorted (by decide +kernel) (pa_cons (pe_callTy (cr_setInts rfl : CallR _ (.type "set") (rSetInts K w)) (by rfl) m_set (by decide +kernel) (pa_cons (pe_op op_cat (pe_slice sl_list (pv 7) (po_some (pe_cg c__law_take (by exact hG) (by exact hr) (by omega) (by rfl) (pa_cons (pv 0) (pa_cons pe_int pa_nil)))) po_none) (pe_slice sl_list (pv 7) (po_some (pe_un un_neg pe_int)) po_none)) pa_nil)) pa_nil)) : PI _ _ _ (iList K _)) (blkOk_by (own := [("value", 11)]) (N := ["bag", "question", "columns", "wide", "found", "column", "begin", "values", "below", "low", "high", "value", "turn"]) (sc := (defScope s_law_drawn_shape)) (by decide +kernel)) (fun _ _ _ _ _ => (pg_name (i := 11) nd rfl (.inl rfl))) (fun _ _ _ _ _ => (pts_one (PW.pt (pw_or (pt_cmpR op_isN (pv 10) pe_non (nomark _)) (pw_or1 (pt_cmpR op_le (pv 11) (pv 10) (nomark _))))))) (fun _ _ _ _ _ => (pv 11)))
    (pss_cons (ps_set (i := 7) nd rfl (.inl rfl) (pe_ifExp (pt_cmpR (op_neD (by exact hr.units) : OpR _ (compareOp .NotEq) (rNeD K)) (pv 7) (pe_lst pa_nil) (nomark _)) (pv 7) (pe_lst (pa_cons (pv 6) pa_nil))))
    (pss_cons (ps_set (i := 8) nd rfl (.inr rfl) (pe_cg c__law_children (by exact hG) (by exact hr) (by omega) (by rfl) (pa_cons (pv 1) (pa_cons (pv 5) pa_nil))))
    (pss_one (ps_expr (pe_bm PySem.F.plainAttrs_list PySem.F.slot_list_append PySem.F.type_list_append mt_append (pv 4) (pa_cons (pe_callTy (call_tupF : CallR _ (.type "tuple") (rTupF K)) (by rfl) m_tuple (by decide +kernel) (pa_cons (pe_lc (own := [("value", 11)]) (g := gName 11) (tt := tYes) (by rfl) nd (pi_list (pv 7) : PI _ _ _ (iList K _)) (blkOk_by (own := [("value", 11)]) (N := ["bag", "question", "columns", "wide", "found", "column", "begin", "values", "below", "low", "high", "value", "turn"]) (sc := (defScope s_law_drawn_shape)) (by decide +kernel)) (fun _ _ _ _ _ => (pg_name (i := 11) nd rfl (.inl rfl))) (fun _ _ _ _ _ => pts_nil) (fun _ _ _ _ _ => (pe_tupF (pa_cons (pv 11) (pa_cons (pe_cg c__law_drawn_shape (by exact hG) (by exact hr) (by omega) (by rfl) (pa_cons (pv 0) (pa_cons (pv 1) (pa_cons (pv 8) (pa_cons (pv 3) pa_nil))))) pa_nil))))) pa_nil)) pa_nil)))))))))))
    (pss_one (ps_ret (pe_callTy (call_tupF : CallR _ (.type "tuple") (rTupF K)) (by rfl) m_tuple (by decide +kernel) (pa_cons (pv 4) pa_nil)))))), ?_⟩
  refine w_use (N := ["bag", "question", "columns", "wide", "found", "column", "begin", "values", "below", "low", "high", "value", "turn"]) (rs_seq (rs_own 4 rd_nil)
    (rs_seq (rs_forC (ri_l (re_v 2)) (rg_name 5) (rs_weak (rs_seq (rs_asg (re_call (ra_cons (re_v 1) (ra_cons (re_v 5) ra_nil))) (rg_t2 (rg_name 9) (rg_name 10)))
    (rs_weak (rs_seq (rs_set 6 (re_ifS (rt_tst (re_op rp_notN (RE.b (re_v 9)) (RE.b re_non))) (re_v 9) (re_ifS (rt_tst (re_op rp_notN (RE.b (re_v 10)) (RE.b re_non))) (re_op rp_sub (RE.b (re_v 10)) (RE.b (re_int _))) (re_neg (re_int _)))))
    (rs_weak (rs_seq (rs_set 7 (re_op rp_cat (RE.b (re_lst (rd_cons (re_v 6) rd_nil))) (RE.b (re_lcC (ri_r1 (rx_cons (RE.b (re_call (ra_b 0 (ra_cons (re_lst (rd_cons (re_int _) (rd_cons (re_int _) (rd_cons (re_int _) (rd_cons (re_v 3) rd_nil))))) ra_nil)))) rx_nil)) (rg_name 12) (by decide) rt_yes (re_op rp_add (RE.b (re_v 6)) (RE.b (re_call (ra_b 0 (ra_cons (re_int _) ra_nil)))))))))
    (rs_weak (rs_seq (rs_set 7 (re_lcC (ri_l (re_sortSetI (RE.b (re_op rp_cat (RE.b (re_slice rx_listE (RE.b (re_v 7)) (ro_sm (re_call (ra_b 0 (ra_cons (re_int _) ra_nil)))) ro_none)) (RE.b (re_slice rx_listE (RE.b (re_v 7)) (ro_sm (re_neg (re_int _))) ro_none)))))) (rg_name 11) (by decide) (rt_or (rt_tst (re_op rp_isN (RE.b (re_v 10)) (RE.b re_non))) (rt_tst (re_op rp_cmp (RE.b (re_v 11)) (RE.b (re_v 10))))) (re_v 11)))
    (rs_weak (rs_seq (rs_set 7 (re_ifS (rt_tst (re_op ro_neD (RE.b (re_v 7)) (RE.b (re_lst rd_nil)))) (re_v 7) (re_lst (rd_cons (re_v 6) rd_nil))))
    (rs_weak (rs_seq (rs_set 8 (re_call (ra_cons (re_v 1) (ra_cons (re_v 5) ra_nil))))
    (rs_weak (rs_app 4 (re_cb rq_tup (rx_cons (RE.b (re_lcC (ri_l (re_v 7)) (rg_name 11) (by decide) rt_yes (re_tup (rd_cons (re_v 11) (rd_cons (re_call (ra_b 0 (ra_cons (re_v 1) (ra_cons (re_v 8) (ra_cons (re_v 3) ra_nil))))) rd_nil))))) rx_nil)))))))))))))))))
    (rs_weak (rs_ret (re_cb rq_tup (rx_cons (RE.b (re_v 4)) rx_nil)))))) km gB gA q ?_
  clear q gA gB km h
  generalize P' = Z at hw ⊢
  obtain ⟨q, cs, wide, m, rfl, ok, ne, cv, hn, hw3, hm4, hcl, nd0, ncs, hc, p⟩ := hw
  obtain rfl : m = n := by omega
  refine ⟨Nat.zero_le _, ?_⟩
  have BRm : ∀ d : PyData, True := fun _ => trivial
  refine for_l (f := .str) (l := cs) (fun P' h => h) (fun i ρ => ∃ (x5 x6 x7 x8 x9 x10 x11 x12 : Option DV) (ds : List PyData), ρ = [some .bag, some (.im (qD q)), some (.im (.list (cs.map .str))), some (.im (.int (wide : Nat))), some (.ow ds), x5, x6, x7, x8, x9, x10, x11, x12] ∧ ds.length ≤ i ∧ ∀ d ∈ ds, niB d = true ∧ d.depth ≤ 3 * m ∧ d.weight ≤ 4 * (wS (m - 1) + 15))
    ⟨none, none, none, none, none, none, none, none, [], rfl, Nat.le_refl _, fun _ z => nomatch z⟩ (fun i c ρ' hci hI => ?_) (fun ρ' hI => ?_)
  · obtain ⟨x5, x6, x7, x8, x9, x10, x11, x12, ds, rfl, hdl, hds⟩ := hI
    have hm := List.mem_of_getElem? hci
    obtain ⟨hcq, hup⟩ := hc _ hm
    have kf := kids_few ok hcq
    have il : i < cs.length := (List.getElem?_eq_some_iff.mp hci).1
    refine ⟨[some .bag, some (.im (qD q)), some (.im (.list (cs.map .str))), some (.im (.int (wide : Nat))), some (.ow ds), some (.im (.str c)), x6, x7, x8, x9, x10, x11, x12], Le.rf _, ?_⟩
    refine ⟨q, c, rfl, ok.rl, ok.rb, ?_⟩
    obtain ⟨s1, s2⟩ := rng_ok ok.rb c
    generalize rngF q.rs c = en at s1 s2 ⊢
    obtain ⟨lo, hi⟩ := en
    have s1 : SmO lo := s1
    have s2 : SmO hi := s2
    refine ⟨[some .bag, some (.im (qD q)), some (.im (.list (cs.map .str))), some (.im (.int (wide : Nat))), some (.ow ds), some (.im (.str c)), x6, x7, x8, some (.im (oD lo)), some (.im (oD hi)), x11, x12], Le.rf _, ?_⟩
    refine WIf.by (fun d => ∃ b : Int, d = .int b ∧ b.natAbs ≤ 1006) (fun P' hP => ?_) ?_
    · cases lo with
      | some l => exact hP _ ⟨l, rfl, by have := s1 l rfl; omega⟩
      | none =>
        refine WIf.mk ?_
        cases hi with
        | some h => exact hP _ ⟨h - 6, rfl, by have := s2 h rfl; omega⟩
        | none => exact hP _ ⟨-2, rfl, by decide⟩
    rintro _ ⟨b, rfl, hb⟩
    refine ⟨[some .bag, some (.im (qD q)), some (.im (.list (cs.map .str))), some (.im (.int (wide : Nat))), some (.ow ds), some (.im (.str c)), some (.im (.int b)), x7, x8, some (.im (oD lo)), some (.im (oD hi)), x11, x12], Le.rf _, ?_⟩
    refine ⟨by show 1 ≤ 1000; decide, WLc.mk ⟨by show 4 ≤ 1000; decide, _, _, rfl, rfl, (fun z => nomatch z), by show 4 < 1000000; decide, fun d hd => ?_⟩⟩
    obtain ⟨k, hk, rfl⟩ := nat_of (l := [0, 1, 2, wide]) hd
    have k3 : k ≤ 3 := by
      simp only [List.mem_cons, List.not_mem_nil, or_false] at hk
      omega
    refine ⟨by omega, by omega, rg_iN rfl ?_⟩
    refine lci_dr (f := iN) (l := List.range k) (R := fun d => ∃ i : Int, d = .int i ∧ i.natAbs ≤ 1012) (by rw [List.length_range]; omega) (fun a ha acc J hJ => ?_) (fun es el ea => ?_)
    · exact ⟨7, rfl, by decide, by decide, fun r r0 r1 => hJ _ ⟨b + r, rfl, by omega⟩⟩
    obtain ⟨ns, rfl, nsb⟩ := all_ints ea
    rw [List.length_map, List.length_range] at el
    refine ⟨by rw [List.length_map]; show 1 + _ ≤ 1000; omega, ?_⟩
    have evs : [PyData.int b] ++ ns.map .int = (b :: ns).map .int := rfl
    rw [evs]
    have v4 : (b :: ns).length ≤ 4 := by rw [List.length_cons]; omega
    have vb : ∀ v ∈ b :: ns, v.natAbs ≤ 1012 := fun v hv => by
      rcases List.mem_cons.mp hv with rfl | h
      · omega
      · exact nsb v h
    clear evs el ea hd hk
    generalize b :: ns = vs0 at v4 vb ⊢
    refine ⟨[some .bag, some (.im (qD q)), some (.im (.list (cs.map .str))), some (.im (.int (wide : Nat))), some (.ow ds), some (.im (.str c)), some (.im (.int b)), some (.im (.list (vs0.map .int))), x8, some (.im (oD lo)), some (.im (oD hi)), x11, x12], Le.rf _, ?_⟩
    obtain ⟨m2, e2, sub2, _⟩ := cut_map PyData.int vs0 (some (-1)) none
    have l2 := sub2.length_le
    refine WLc.mk ⟨2, rfl, by decide, by decide, fun r r0 r1 => ⟨_, cut_fromI .int vs0 (k := r.toNat) (by omega), _, e2, by rw [List.length_map, List.length_map, List.length_drop]; omega, vs0.drop r.toNat ++ m2, by rw [List.map_append], by rw [List.length_append, List.length_drop]; omega, fun ms pw mem => ?_⟩⟩
    have ms0 : ∀ v ∈ ms, v ∈ vs0 := fun v hv => by
      rcases List.mem_append.mp ((mem v).mp hv) with h | h
      · exact List.mem_of_mem_drop h
      · exact sub2.subset h
    have ml := nodup_le (lt_nodup pw) ms0
    refine lci_mf (f := .int) (l := ms) (p := fun v => hi.all fun h => decide (v ≤ h)) (g := .int) (by omega) (fun v hv acc J j1 j2 => ?_) ?_
    · cases hi with
      | none => exact j1 rfl
      | some h => exact iteB (fun h => j1 h) (fun h => j2 h)
    have fl : (ms.filter fun v => hi.all fun h => decide (v ≤ h)).length ≤ 4 := Nat.le_trans (List.length_filter_le _ _) (by omega)
    have fb : ∀ v ∈ ms.filter fun v => hi.all fun h => decide (v ≤ h), v.natAbs ≤ 1012 := fun v hv => vb v (ms0 v (List.mem_filter.mp hv).1)
    generalize ms.filter (fun v => hi.all fun h => decide (v ≤ h)) = fs at fl fb ⊢
    refine ⟨[some .bag, some (.im (qD q)), some (.im (.list (cs.map .str))), some (.im (.int (wide : Nat))), some (.ow ds), some (.im (.str c)), some (.im (.int b)), some (.im (.list (fs.map .int))), x8, some (.im (oD lo)), some (.im (oD hi)), x11, x12], Le.rf _, ?_⟩
    refine WIf.by (fun d => ∃ gs : List Int, d = .list (gs.map .int) ∧ gs.length ≤ 4 ∧ ∀ v ∈ gs, v.natAbs ≤ 1012) (fun P' hP => ?_) ?_
    · refine ⟨Nat.zero_le _, hd_ints _, rfl, shaped_lints _, rfl, ?_⟩
      show if (!PyData.eqv (.list (fs.map .int)) (.list [])) = true then _ else _
      refine iteB (fun _ => hP _ ⟨fs, rfl, fl, fb⟩) (fun _ => ⟨by show 1 ≤ 1000; decide, hP _ ⟨[b], rfl, by show 1 ≤ 4; decide, fun v hv => by rw [List.mem_singleton.mp hv]; omega⟩⟩)
    rintro _ ⟨gs, rfl, gl, gb⟩
    refine ⟨[some .bag, some (.im (qD q)), some (.im (.list (cs.map .str))), some (.im (.int (wide : Nat))), some (.ow ds), some (.im (.str c)), some (.im (.int b)), some (.im (.list (gs.map .int))), x8, some (.im (oD lo)), some (.im (oD hi)), x11, x12], Le.rf _, ?_⟩
    refine ⟨q, some c, rfl, ok, ne, cv, (fun x e => by cases e; exact ok.cb c hcq), ?_⟩
    refine ⟨[some .bag, some (.im (qD q)), some (.im (.list (cs.map .str))), some (.im (.int (wide : Nat))), some (.ow ds), some (.im (.str c)), some (.im (.int b)), some (.im (.list (gs.map .int))), some (.im (.list ((kidsF q (some c)).map .str))), some (.im (oD lo)), some (.im (oD hi)), x11, x12], Le.rf _, ?_⟩
    refine ⟨by omega, ?_⟩
    refine lc_dr (f := .int) (l := gs) (R := fun d => niB d = true ∧ d.depth ≤ 3 * m - 1 ∧ d.weight ≤ wS (m - 1) + 14) (by omega) (fun P' h => h) (fun v hv acc J hJ => ?_) (fun es el ea => ?_)
    · refine ⟨q, kidsF q (some c), wide, m - 1, rfl, ok, ne, cv, by omega, hw3, by omega, by omega, nd0, ncs, (fun k hk => ⟨(kid_mem.mp hk).1, by have := kid_up ok hcq hk; omega⟩), fun d d1 d2 d3 _ => ⟨by show 2 ≤ 1000; decide, hJ _ ⟨?_, ?_, ?_⟩⟩⟩
      · have vv := gb v hv
        have v1 : v.natAbs ≤ 1100 := by omega
        rw [niB, niA, niA, niA, d1, niB, decide_eq_true v1]
        rfl
      · rw [dep_tup]
        have : PyData.depthAll [.int v, d] ≤ 3 * (m - 1) + 1 := dA_le.mpr fun e he => by
          simp only [List.mem_cons, List.not_mem_nil, or_false] at he
          rcases he with rfl | rfl
          · simp [PyData.depth]
          · exact d2
        omega
      · rw [wt_tup, wA_cons, wA_cons]
        have := wt_i (i := v) (by have := gb v hv; omega)
        simp only [PyData.weightAll]
        omega
    refine Cl.here ⟨_, _, _, _, _, _, x11, x12, ds ++ [.tuple es], rfl, by rw [List.length_append]; show _ + 1 ≤ _; omega, fun d hd => ?_⟩
    rcases List.mem_append.mp hd with h | h
    · exact hds d h
    · rw [List.mem_singleton.mp h]
      refine ⟨?_, ?_, ?_⟩
      · rw [niB, niA_of fun e he => (ea e he).1, decide_eq_true (by omega)]
        rfl
      · rw [dep_tup]
        have : PyData.depthAll es ≤ 3 * m - 1 := dA_le.mpr fun e he => (ea e he).2.1
        omega
      · rw [wt_tup]
        refine Nat.le_trans (wA_le fun e he => (ea e he).2.2) ?_
        exact Nat.mul_le_mul_right _ (by omega)
  · obtain ⟨x5, x6, x7, x8, x9, x10, x11, x12, ds, rfl, hdl, hds⟩ := hI
    refine ⟨_, Le.freeze (i := 4) rfl, ?_⟩
    refine p _ ?_ ?_ ?_ ⟨ds, rfl⟩
    · rw [niB, niA_of fun e he => (hds e he).1, decide_eq_true (by omega)]
      rfl
    · rw [dep_tup]
      have : PyData.depthAll ds ≤ 3 * m := dA_le.mpr fun e he => (hds e he).2.1
      omega
    · rw [wt_tup]
      refine Nat.le_trans (wA_le fun e he => (hds e he).2.2) ?_
      cases m with
      | zero =>
        have : ds.length = 0 := by omega
        rw [this, Nat.zero_mul]
        exact Nat.zero_le _
      | succ m =>
        show _ ≤ (m + 1) * (4 * (wS m + 15) + 1)
        exact Nat.mul_le_mul_right _ (by omega)
end LW

namespace LW
open PySem PySem.Spec PyProof.Rows L2 GL
abbrev s_law_any_shape : Stmt := topS 39
theorem sc_law_any_shape : FnScope ["bag", "question"] ["bag", "question"] (defScope s_law_any_shape) := ⟨rfl, rfl, rfl, by decide +kernel, rfl, by decide +kernel, by decide +kernel⟩
theorem ok_law_any_shape {P : Program} {w : World} {K : PySem.W.Frag} {mg : Str → Option Value} {base : Heap} (D : DefAt K mg "_law_any_shape" s_law_any_shape ["bag", "question"]) (c__law_children : Cal P w K mg base 4 "_law_children" (spW K wKidsL)) (c__law_drawn_shape : Cal P w K mg base 10 "_law_drawn_shape" (spW K (wDrawS 5))) (c__law_some : Cal P w K mg base 2 "_law_some" (spW K wSome)) (c__law_take : Cal P w K mg base 1 "_law_take" (spW K wTake)) :
    Cal P w K mg base 11 "_law_any_shape" (spW K wAnyS) := by
  refine cal_mk D sc_law_any_shape (fun vs H Q E h => sp_len (len_law_any_shape) h) (fun f cdv A outer s H vs Q E hG hr h => ?_)
  have h' := h
  obtain ⟨bg, M, ds, P', km, gB, gA, hw, q⟩ := h'
  have nd := sc_law_any_shape.nd
  refine ⟨_, (pss_cons (ps_if (pt_cmpR op_eq (pe_cg c__law_take (by exact hG) (by exact hr) (by decide) (by rfl) (pa_cons (pv 0) (pa_cons pe_int pa_nil))) pe_int (nomark _)) (pss_one (ps_ret pe_non)) pss_nil)
    (pss_one (ps_ret (pe_cg c__law_drawn_shape (by exact hG) (by exact hr) (by decide) (by rfl) (pa_cons (pv 0) (pa_cons (pv 1) (pa_cons (pe_cg c__law_children (by exact hG) (by exact hr) (by decide) (by rfl) (pa_cons (pv 1) (pa_cons pe_non pa_nil))) (pa_cons (pe_cg c__law_some (by exact hG) (by exact hr) (by decide) (by rfl) (pa_cons (pv 0) (pa_cons (pe_lst (pa_cons pe_int (pa_cons pe_int (pa_cons pe_int pa_nil)))) pa_nil))) pa_nil)))))))), ?_⟩
  refine w_use (N := ["bag", "question"]) (rs_seq (rs_if (rt_tst (re_op rp_eq (RE.b (re_call (ra_b 0 (ra_cons (re_int _) ra_nil)))) (RE.b (re_int _)))) (rs_ret re_non) rs_next)
    (rs_ret (re_call (ra_b 0 (ra_cons (re_v 1) (ra_cons (re_call (ra_cons (re_v 1) (ra_cons re_non ra_nil))) (ra_cons (re_call (ra_b 0 (ra_cons (re_lst (rd_cons (re_int _) (rd_cons (re_int _) (rd_cons (re_int _) rd_nil)))) ra_nil))) ra_nil))))))) km gB gA q ?_
  clear q gA gB km h
  generalize P' = Z at hw ⊢
  obtain ⟨q, rfl, ok, ne, cv, nd0, ncs, p⟩ := hw
  refine ⟨12, rfl, by decide, by decide, fun r r0 r1 => ⟨rfl, ?_⟩⟩
  refine iteB (fun _ => p _ ⟨by decide, by decide, by decide⟩) (fun _ => ?_)
  refine ⟨q, none, rfl, ok, ne, cv, (fun _ z => nomatch z), by show 3 ≤ 1000; decide, _, _, rfl, rfl, (fun z => nomatch z), by show 3 < 1000000; decide, fun d hd => ?_⟩
  obtain ⟨k, hk, rfl⟩ := nat_of (l := [1, 2, 3]) hd
  have k3 : k ≤ 3 := by
    simp only [List.mem_cons, List.not_mem_nil, or_false] at hk
    omega
  exact ⟨q, kidsF q none, k, 4, rfl, ok, ne, cv, rfl, k3, by omega, Nat.le_trans (List.length_filter_le _ _) ncs, nd0, ncs, (fun c hc => ⟨(kid_mem.mp hc).1, by omega⟩), fun d d1 d2 d3 _ => p d ⟨d1, by omega, d3⟩⟩
end LW

namespace LW
open PySem PySem.Spec PyProof.Rows L2 GL
abbrev slaw : Stmt := topS 43
theorem sclaw : FnScope ["script", "bag", "turn", "things", "thing", "question", "other", "shape", "columns", "kept", "due", "k"] ["script"] (defScope slaw) := ⟨rfl, rfl, rfl, by decide +kernel, rfl, by decide +kernel, by decide +kernel⟩
theorem oklaw {P : Program} {w : World} {K : PySem.W.Frag} {mg : Str → Option Value} {base : Heap} {f0 : Addr} {fd0 : FuncData} (F0 : L2.Fun K "law" "law" slaw f0 fd0) (c__law_alike : Cal P w K mg base 1 "_law_alike" (spW K wAlikeX)) (c__law_any_shape : Cal P w K mg base 11 "_law_any_shape" (spW K wAnyS)) (c__law_bag : Cal P w K mg base 1 "_law_bag" (spBag K)) (c__law_bent : Cal P w K mg base 19 "_law_bent" (spW K (wBent2 15))) (c__law_children : Cal P w K mg base 4 "_law_children" (spW K wKidsL)) (c__law_is_form : Cal P w K mg base 12 "_law_is_form" (spW K (wFormL 7))) (c__law_nested_question : Cal P w K mg base 4 "_law_nested_question" (spW K wNestedN)) (c__law_odd : Cal P w K mg base 3 "_law_odd" (spW K wOdd2)) (c__law_some : Cal P w K mg base 2 "_law_some" (spW K wSome)) (c_is_shape : Cal P w K mg base 21 "is_shape" (spW K wIsShape)) (m_range : mg "range" = none) (m_repr : mg "repr" = none) :
    Fn0 P w K mg base CX0 23 f0 fd0 ["script"] (spLaw K) := by
  refine fn_mk F0 sclaw (fun vs H Q E h => by obtain ⟨a, ns, rfl, _⟩ := h; rfl) (fun f cdv A outer s H vs Q E hG hr h => ?_)
  obtain ⟨a, ns, rfl, hS, h63, q⟩ := h
  have nd := sclaw.nd
  refine ⟨_, (pss_cons (ps_set (i := 1) nd rfl (.inr rfl) (pe_cg c__law_bag (by exact hG) (by exact hr) (by decide) (by rfl) (pa_cons (pv 0) pa_nil)))
    (pss_cons (ps_for PassesOwn.never rfl (pi_range1 (by rfl) m_range (pa_cons pe_int pa_nil)) (pg_name (i := 2) nd rfl (.inl rfl)) (pss_cons (ps_par (i := 5) (j := 6) (by rfl) nd rfl rfl (by decide) rfl rfl (pa_cons (pe_cg c__law_nested_question (by exact hG) (by exact hr) (by decide) (by rfl) (pa_cons (pv 1) (pa_cons (pe_cg c__law_some (by exact hG) (by exact hr) (by decide) (by rfl) (pa_cons (pv 1) (pa_cons (pe_lst (pa_cons pe_int (pa_cons pe_int (pa_cons pe_int pa_nil)))) pa_nil))) pa_nil))) (pa_cons (pe_cg c__law_nested_question (by exact hG) (by exact hr) (by decide) (by rfl) (pa_cons (pv 1) (pa_cons pe_int pa_nil))) pa_nil)) (by rfl))
    (pss_cons (ps_asg (pe_tupF (pa_cons (pe_cg c__law_any_shape (by exact hG) (by exact hr) (by decide) (by rfl) (pa_cons (pv 1) (pa_cons (pv 5) pa_nil))) (pa_cons (pe_cg c__law_children (by exact hG) (by exact hr) (by decide) (by rfl) (pa_cons (pv 5) (pa_cons pe_non pa_nil))) pa_nil))) (pg_tup rfl (pgs_cons (pg_name (i := 7) nd rfl (.inr rfl)) (pgs_cons (pg_name (i := 8) nd rfl (.inl rfl)) pgs_nil))))
    (pss_cons (ps_set (i := 3) nd rfl (.inl rfl) (pe_op op_cat (pe_lst (pa_cons (pv 7) (pa_cons (pe_cg c__law_any_shape (by exact hG) (by exact hr) (by decide) (by rfl) (pa_cons (pv 1) (pa_cons (pv 6) pa_nil))) (pa_cons (pe_cg c__law_odd (by exact hG) (by exact hr) (by decide) (by rfl) (pa_cons (pv 1) pa_nil)) pa_nil)))) (pe_lc (own := [("k", 11)]) (g := gName 11) (tt := tYes) (by rfl) nd (pi_range1 (by rfl) m_range (pa_cons pe_int pa_nil)) (blkOk_by (own := [("k", 11)]) (N := ["script", "bag", "turn", "things", "thing", "question", "other", "shape", "columns", "kept", "due", "k"]) (sc := (defScope slaw)) (by decide +kernel)) (fun _ _ _ _ _ => (pg_name (i := 11) nd rfl (.inl rfl))) (fun _ _ _ _ _ => pts_nil) (fun _ _ _ _ _ => (pe_cg c__law_bent (by exact hG) (by exact hr) (by decide) (by rfl) (pa_cons (pv 1) (pa_cons (pv 7) pa_nil)))))))
    (pss_one (ps_for PassesOwn.never rfl (pi_list (pv 3) : PI _ _ _ (iList K _)) (pg_name (i := 4) nd rfl (.inl rfl)) (pss_cons (ps_par (i := 9) (j := 10) (by rfl) nd rfl rfl (by decide) rfl rfl (pa_cons (pe_callB (call_reprA (by exact hG) (by exact hr.units) : CallR _ (.builtin "repr") (rReprA K)) (by rfl) m_repr (by decide +kernel) (pa_cons (pv 4) pa_nil)) (pa_cons (pe_or (pe_cmpR op_isN (pv 4) pe_non (nomark _)) (pe_one (pe_cg c__law_is_form (by exact hG) (by exact hr) (by decide) (by rfl) (pa_cons (pv 5) (pa_cons (pv 8) (pa_cons (pv 4) pa_nil)))))) pa_nil)) (by rfl))
    (pss_one (ps_if (PW.pt (pw_or (pt_not (pt_val (pe_cg c__law_alike (by exact hG) (by exact hr) (by decide) (by rfl) (pa_cons (pe_cg c_is_shape (by exact hG) (by exact hr) (by decide) (by rfl) (pa_cons (pv 5) (pa_cons (pv 4) pa_nil))) (pa_cons (pv 10) pa_nil))))) (pw_or1 (pt_cmpR op_ne (pe_callB (call_reprA (by exact hG) (by exact hr.units) : CallR _ (.builtin "repr") (rReprA K)) (by rfl) m_repr (by decide +kernel) (pa_cons (pv 4) pa_nil)) (pv 9) (nomark _))))) (pss_one (ps_ret pe_bl)) pss_nil)))))))))
    (pss_one (ps_ret pe_bl)))), ?_⟩
  refine law_start (N := ["script", "bag", "turn", "things", "thing", "question", "other", "shape", "columns", "kept", "due", "k"]) (n := 10) (rs_seq (rs_forC (ri_r1 (rx_cons (RE.b (re_int _)) rx_nil)) (rg_name 2) (rs_seq (rs_par2 5 6 (rd_cons (re_call (ra_b 1 (ra_cons (re_call (ra_b 1 (ra_cons (re_lst (rd_cons (re_int _) (rd_cons (re_int _) (rd_cons (re_int _) rd_nil)))) ra_nil))) ra_nil))) (rd_cons (re_call (ra_b 1 (ra_cons (re_int _) ra_nil))) rd_nil)))
    (rs_weak (rs_seq (rs_asg (re_tup (rd_cons (re_call (ra_b 1 (ra_cons (re_v 5) ra_nil))) (rd_cons (re_call (ra_cons (re_v 5) (ra_cons re_non ra_nil))) rd_nil))) (rg_t2 (rg_name 7) (rg_name 8)))
    (rs_weak (rs_seq (rs_set 3 (re_op rp_cat (RE.b (re_lst (rd_cons (re_v 7) (rd_cons (re_call (ra_b 1 (ra_cons (re_v 6) ra_nil))) (rd_cons (re_call (ra_b 1 ra_nil)) rd_nil))))) (RE.b (re_lcC (ri_r1 (rx_cons (RE.b (re_int _)) rx_nil)) (rg_name 11) (by decide) rt_yes (re_call (ra_b 1 (ra_cons (re_v 7) ra_nil)))))))
    (rs_weak (rs_forC (ri_l (re_v 3)) (rg_name 4) (rs_weak (rs_seq (rs_par2 9 10 (rd_cons (re_cb rq_reprA (rx_cons (RE.b (re_v 4)) rx_nil)) (rd_cons (re_orC (re_op rp_isN (RE.b (re_v 4)) (RE.b re_non)) (re_call (ra_cons (re_v 5) (ra_cons (re_v 8) (ra_cons (re_v 4) ra_nil))))) rd_nil)))
    (rs_weak (rs_if (rt_or (rt_not (rt_vl (re_call (ra_cons (re_call (ra_cons (re_v 5) (ra_cons (re_v 4) ra_nil))) (ra_cons (re_v 10) ra_nil))))) (rt_tst (re_op rp_ne (RE.b (re_cb rq_reprA (rx_cons (RE.b (re_v 4)) rx_nil))) (RE.b (re_v 9))))) (rs_ret (re_bl _)) rs_next))))))))))))
    (rs_ret (re_bl _))) rfl hS h63 q ?_
  clear q hS h63
  refine for_l (f := iN) (l := List.range 4) (fun P' h => ⟨by decide, by decide, rg_iN (n := 4) rfl h⟩) (fun i ρ => ∃ x2 x3 x4 x5 x6 x7 x8 x9 x10 x11 : Option DV, ρ = [none, some .bag, x2, x3, x4, x5, x6, x7, x8, x9, x10, x11]) ⟨_, _, _, _, _, _, _, _, _, _, rfl⟩ (fun i tn ρ' ha hI => ?_) (fun ρ' hI => rfl)
  obtain ⟨x2, x3, x4, x5, x6, x7, x8, x9, x10, x11, rfl⟩ := hI
  refine ⟨by show 3 ≤ 1000; decide, _, _, rfl, rfl, (fun z => nomatch z), by show 3 < 1000000; decide, fun d hd => ?_⟩
  obtain ⟨most, hmost, rfl⟩ := nat_of (l := [4, 3, 2]) hd
  have m4 : 1 ≤ most ∧ most ≤ 4 := by
    simp at hmost
    omega
  refine ⟨most, rfl, by omega, by omega, fun q ok ne cv ti nm ql => ⟨3, rfl, by decide, by decide, fun o ok2 ne2 cv2 ti2 nm2 ol => ?_⟩⟩
  clear hd hmost
  refine ⟨[none, some .bag, some (.im (iN tn)), x3, x4, some (.im (qD q)), some (.im (qD o)), x7, x8, x9, x10, x11], Le.rf _, ?_⟩
  refine ⟨q, rfl, ok, ne, cv, ti.1, by omega, fun sh hsh => ?_⟩
  refine ⟨q, none, rfl, ok, ne, cv, (fun _ z => nomatch z), by show 2 ≤ 1000; decide, ?_⟩
  refine ⟨[none, some .bag, some (.im (iN tn)), x3, x4, some (.im (qD q)), some (.im (qD o)), some (.im (sh)), some (.im (.list ((kidsF q none).map .str))), x9, x10, x11], Le.rf _, ?_⟩
  refine ⟨o, rfl, ok2, ne2, cv2, ti2.1, by omega, fun s2 hs2 => ⟨rfl, fun od hod => ⟨by show 3 ≤ 1000; decide, ?_⟩⟩⟩
  have W4 : wS 4 = 120292 := by decide +kernel
  refine lc_dr (f := iN) (l := List.range 5) (R := fun d => AV 240984 18 d) (by decide) (fun P' h => ⟨by decide, by decide, rg_iN (n := 5) rfl h⟩) (fun k hk acc J hJ => ?_) (fun ds dl dsa => ?_)
  · exact ⟨sh, 120292, 14, rfl, rfl, by decide, hsh.1, by have := hsh.2.1; omega, by have := hsh.2.2; omega, fun e he => hJ _ (he.mono (by decide) (by decide))⟩
  refine ⟨by rw [dl]; show 3 + 5 ≤ 1000; decide, ?_⟩
  have hall : ∀ d ∈ [sh, s2, od] ++ ds, AV 240984 18 d := fun d hd => by
    rcases List.mem_append.mp hd with h | h
    · simp only [List.mem_cons, List.not_mem_nil, or_false] at h
      rcases h with rfl | rfl | rfl
      · exact ni_av hsh.1 (by have := hsh.2.2; omega) (by have := hsh.2.1; omega)
      · exact ni_av hs2.1 (by have := hs2.2.2; omega) (by have := hs2.2.1; omega)
      · exact hod.mono (by decide) (by decide)
    · exact dsa d h
  generalize [sh, s2, od] ++ ds = things at hall ⊢
  clear dsa dl W4
  refine ⟨[none, some .bag, some (.im (iN tn)), some (.im (.list things)), x4, some (.im (qD q)), some (.im (qD o)), some (.im (sh)), some (.im (.list ((kidsF q none).map .str))), x9, x10, x11], Le.rf _, ?_⟩
  rw [show things = things.map id from (List.map_id _).symm]
  refine for_l (f := id) (l := things) (fun P' h => h) (fun i ρ => ∃ x2 x4 x9 x10 x11 : Option DV, ρ = [none, some .bag, x2, some (.im (.list (things.map id))), x4, some (.im (qD q)), some (.im (qD o)), some (.im (sh)), some (.im (.list ((kidsF q none).map .str))), x9, x10, x11]) ⟨_, _, _, _, _, rfl⟩ (fun i d ρ' hd hI => ?_) (fun ρ' hI => ?_)
  · obtain ⟨x2, x4, x9, x10, x11, rfl⟩ := hI
    have av := hall d (List.mem_of_getElem? hd)
    have rep := av.rep2 (by decide) (by decide)
    have ln := av.1.ln
    have kl := kids_len ok none
    refine ⟨[none, some .bag, x2, some (.im (.list (things.map id))), some (.im (d)), some (.im (qD q)), some (.im (qD o)), some (.im (sh)), some (.im (.list ((kidsF q none).map .str))), x9, x10, x11], Le.rf _, ?_⟩
    rw [List.map_id] at *
    refine ⟨rep, ?_⟩
    show if GL.isNone d = true then _ else _
    refine iteB (fun h => ?_) (fun h => ?_)
    · have e : shpB q d = true := by unfold shpB; rw [h]; rfl
      have kb := Ok.bool true
      refine ⟨[none, some .bag, x2, some (.im (.list things)), some (.im (d)), some (.im (qD q)), some (.im (qD o)), some (.im (sh)), some (.im (.list ((kidsF q none).map .str))), some (.im (.str d.shown)), some (.im (.bool true)), x11], Le.rf _, ?_⟩
      refine ⟨q, d, rfl, ok, ti, ln, ?_⟩
      rw [e]
      refine ⟨.bool true, rfl, kb.shaped (by decide), kb.shows (by omega) (by omega), ?_⟩
      refine ⟨rep, rfl, ?_⟩
      show if (!PyData.eqv (.str d.shown) (.str d.shown)) = true then _ else _
      rw [eqv_str]
      exact Cl.here ⟨_, _, _, _, _, rfl⟩
    · refine ⟨q, kidsF q none, d, 6, rfl, ok, ne, cv, rfl, kl, (fun c hc => ⟨(kid_mem.mp hc).1, by omega⟩), ln, ?_⟩
      have e : shpB q d = formB q 7 (kidsF q none) d := by unfold shpB; rw [h]; rfl
      have kb := Ok.bool (formB q 7 (kidsF q none) d)
      refine ⟨[none, some .bag, x2, some (.im (.list things)), some (.im (d)), some (.im (qD q)), some (.im (qD o)), some (.im (sh)), some (.im (.list ((kidsF q none).map .str))), some (.im (.str d.shown)), some (.im (.bool (formB q 7 (kidsF q none) d))), x11], Le.rf _, ?_⟩
      refine ⟨q, d, rfl, ok, ti, ln, ?_⟩
      rw [e]
      refine ⟨.bool (formB q 7 (kidsF q none) d), rfl, kb.shaped (by decide), kb.shows (by omega) (by omega), ?_⟩
      refine ⟨rep, rfl, ?_⟩
      show if (!PyData.eqv (.str d.shown) (.str d.shown)) = true then _ else _
      rw [eqv_str]
      exact Cl.here ⟨_, _, _, _, _, rfl⟩
  obtain ⟨x2, x4, x9, x10, x11, rfl⟩ := hI
  exact Cl.here ⟨_, _, _, _, _, _, _, _, _, _, rfl⟩

end LW

namespace LW
open PySem PySem.Spec PyProof.Rows L2 GL
theorem okare {P : Program} {w : World} {K : PySem.W.Frag} {mg : Str → Option Value} {base : Heap} (D1 : DefAt K mg "_are_branches" s_are_branches ["question", "forest", "columns", "thing"]) (D2 : DefAt K mg "_is_branch" s_is_branch ["question", "forest", "column", "thing"]) (c_is_tuple_of : Cal P w K mg base 1 "is_tuple_of" (spW K wTupOf)) (c_is_integer : Cal P w K mg base 1 "is_integer" (spW K wInt)) (c_lets : Cal P w K mg base 2 "lets" (spW K wLets)) (m_all : mg "all" = none) (m_len : mg "len" = none) (m_zip : mg "zip" = none) (m_isinstance : mg "isinstance" = none) (m_tuple : mg "tuple" = none) :
    ∀ n : Nat, Cal P w K mg base (6 + 2 * n) "_are_branches" (spW K (wAreB P w K n))
  | 0 => by
    show Cal P w K mg base (5 + 1) "_are_branches" (spW K (wAreB P w K 0))
    refine cal_mk D1 sc_are_branches (fun vs H Q E h => sp_len len_are_branches h) (fun f cdv A outer s H vs Q E hG hr h => ?_)
    obtain ⟨bg, M, ds, P', km, gB, gA, ⟨q, cs, d, m, _, _, hn, _⟩, _⟩ := h
    omega
  | n + 1 => by
    have h2 : Cal P w K mg base (6 + 2 * n + 1) "_is_branch" (spW K (wIsBr P w K n)) := ok_is_branch D2 (okare D1 D2 c_is_tuple_of c_is_integer c_lets m_all m_len m_zip m_isinstance m_tuple n) c_is_integer c_is_tuple_of c_lets m_all m_isinstance m_tuple m_zip
    rw [show 6 + 2 * n + 1 = 7 + 2 * n by omega] at h2
    rw [show 6 + 2 * (n + 1) = 7 + 2 * n + 1 by omega]
    exact ok_are_branches D1 h2 c_is_tuple_of m_all m_len m_zip
theorem okisb {P : Program} {w : World} {K : PySem.W.Frag} {mg : Str → Option Value} {base : Heap} (D1 : DefAt K mg "_are_branches" s_are_branches ["question", "forest", "columns", "thing"]) (D2 : DefAt K mg "_is_branch" s_is_branch ["question", "forest", "column", "thing"]) (c_is_tuple_of : Cal P w K mg base 1 "is_tuple_of" (spW K wTupOf)) (c_is_integer : Cal P w K mg base 1 "is_integer" (spW K wInt)) (c_lets : Cal P w K mg base 2 "lets" (spW K wLets)) (m_all : mg "all" = none) (m_len : mg "len" = none) (m_zip : mg "zip" = none) (m_isinstance : mg "isinstance" = none) (m_tuple : mg "tuple" = none) :
    Cal P w K mg base 19 "_is_branch" (spW K (wIsBr P w K 6)) := ok_is_branch (n := 6) D2 (okare D1 D2 c_is_tuple_of c_is_integer c_lets m_all m_len m_zip m_isinstance m_tuple 6) c_is_integer c_is_tuple_of c_lets m_all m_isinstance m_tuple m_zip
theorem okform {P : Program} {w : World} {K : PySem.W.Frag} {mg : Str → Option Value} {base : Heap} (D : DefAt K mg "_law_is_form" s_law_is_form ["question", "columns", "thing"]) (c__law_children : Cal P w K mg base 4 "_law_children" (spW K wKidsL)) (c__law_is_in_range : Cal P w K mg base 2 "_law_is_in_range" (spW K wLets)) (c__law_is_int : Cal P w K mg base 1 "_law_is_int" (spW K wInt)) (m_isinstance : mg "isinstance" = none) (m_len : mg "len" = none) (m_tuple : mg "tuple" = none) (m_zip : mg "zip" = none) :
    ∀ n : Nat, Cal P w K mg base (5 + n) "_law_is_form" (spW K (wFormL n))
  | 0 => by
    show Cal P w K mg base (4 + 1) "_law_is_form" (spW K (wFormL 0))
    refine cal_mk D sc_law_is_form (fun vs H Q E h => sp_len len_law_is_form h) (fun f cdv A outer s H vs Q E hG hr h => ?_)
    obtain ⟨bg, M, ds, P', km, gB, gA, ⟨q, cs, d, m, _, _, _, _, hn, _⟩, _⟩ := h
    omega
  | n + 1 => ok_law_is_form D c__law_children (okform D c__law_children c__law_is_in_range c__law_is_int m_isinstance m_len m_tuple m_zip n) c__law_is_in_range c__law_is_int m_isinstance m_len m_tuple m_zip
theorem okdraw {P : Program} {w : World} {K : PySem.W.Frag} {mg : Str → Option Value} {base : Heap} (D : DefAt K mg "_law_drawn_shape" s_law_drawn_shape ["bag", "question", "columns", "wide"]) (c__law_children : Cal P w K mg base 4 "_law_children" (spW K wKidsL)) (c__law_range_of : Cal P w K mg base 1 "_law_range_of" (spW K wRng)) (c__law_some : Cal P w K mg base 2 "_law_some" (spW K wSome)) (c__law_take : Cal P w K mg base 1 "_law_take" (spW K wTake)) (m_range : mg "range" = none) (m_set : mg "set" = none) (m_sorted : mg "sorted" = none) (m_tuple : mg "tuple" = none) :
    ∀ n : Nat, Cal P w K mg base (5 + n) "_law_drawn_shape" (spW K (wDrawS n))
  | 0 => by
    show Cal P w K mg base (4 + 1) "_law_drawn_shape" (spW K (wDrawS 0))
    refine cal_mk D sc_law_drawn_shape (fun vs H Q E h => sp_len len_law_drawn_shape h) (fun f cdv A outer s H vs Q E hG hr h => ?_)
    obtain ⟨bg, M, ds, P', km, gB, gA, ⟨q, cs, wd, m, _, _, _, _, hn, _⟩, _⟩ := h
    omega
  | n + 1 => ok_law_drawn_shape D c__law_children (okdraw D c__law_children c__law_range_of c__law_some c__law_take m_range m_set m_sorted m_tuple n) c__law_range_of c__law_some c__law_take m_range m_set m_sorted m_tuple
theorem okbent {P : Program} {w : World} {K : PySem.W.Frag} {mg : Str → Option Value} {base : Heap} (D : DefAt K mg "_law_bent" s_law_bent ["bag", "thing"]) (c__law_is_int : Cal P w K mg base 1 "_law_is_int" (spW K wInt)) (c__law_odd : Cal P w K mg base 3 "_law_odd" (spW K wOdd2)) (c__law_some : Cal P w K mg base 2 "_law_some" (spW K wSome)) (c__law_take : Cal P w K mg base 1 "_law_take" (spW K wTake)) (m_isinstance : mg "isinstance" = none) (m_len : mg "len" = none) (m_list : mg "list" = none) (m_str : mg "str" = none) (m_tuple : mg "tuple" = none) :
    ∀ n : Nat, Cal P w K mg base (4 + n) "_law_bent" (spW K (wBent2 n))
  | 0 => by
    show Cal P w K mg base (3 + 1) "_law_bent" (spW K (wBent2 0))
    refine cal_mk D sc_law_bent (fun vs H Q E h => sp_len len_law_bent2 h) (fun f cdv A outer s H vs Q E hG hr h => ?_)
    obtain ⟨bg, M, ds, P', km, gB, gA, ⟨d, wg, m, _, hn, _⟩, _⟩ := h
    omega
  | n + 1 => ok_law_bent D (okbent D c__law_is_int c__law_odd c__law_some c__law_take m_isinstance m_len m_list m_str m_tuple n) c__law_is_int c__law_odd c__law_some c__law_take m_isinstance m_len m_list m_str m_tuple
end LW

namespace LW
open PySem PySem.Spec PyProof.Rows L2 GL
abbrev s_law_bag : Stmt := topS 21
theorem sc_law_bag : FnScope ["script", "cell"] ["script"] (defScope s_law_bag) := ⟨rfl, rfl, rfl, by decide +kernel, rfl, by decide +kernel, by decide +kernel⟩
theorem ok_law_bag {P : Program} {w : World} {K : PySem.W.Frag} {mg : Str → Option Value} {base : Heap} (D : DefAt K mg "_law_bag" s_law_bag ["script"]) (m_abs : mg "abs" = none) :
    Cal P w K mg base 1 "_law_bag" (spBag K) := by
  refine cal_mk D sc_law_bag (fun vs H Q E h => ?_) (fun f cdv A outer s H vs Q E hG hr h => ?_)
  · obtain ⟨a, ns, rfl, _⟩ := h; rfl
  have nd := sc_law_bag.nd
  obtain ⟨a, ns, rfl, hS, h63, q⟩ := h
  refine ⟨_, (pss_one (ps_ret (pe_lst (pa_cons pe_int (pa_cons pe_int (pa_cons pe_int (pa_cons (pe_lc (own := [("cell", 1)]) (g := gName 1) (tt := tYes) (by rfl) nd (pi_list (pe_slice sl_list (pv 0) po_none (po_some pe_int)) : PI _ _ _ (iList K _)) (blkOk_by (own := [("cell", 1)]) (N := ["script", "cell"]) (sc := (defScope s_law_bag)) (by decide +kernel)) (fun _ _ _ _ _ => (pg_name (i := 1) nd rfl (.inl rfl))) (fun _ _ _ _ _ => pts_nil) (fun _ _ _ _ _ => (pe_callB call_abs (by rfl) m_abs (by decide +kernel) (pa_cons (pv 1) pa_nil)))) pa_nil))))))), ?_⟩
  have hl : (ns.map V.int).length = ns.length := List.length_map ..
  obtain ⟨ms, em⟩ := cut_ints ns none (some 63)
  refine ⟨.ref a, rfl, 63, rfl, a, ns.map V.int, rfl, hS, fun c0 n0 => ?_⟩
  have k0 := put_new n0 (.lst (cutV (ns.map V.int) none (some 63)))
  have hc0 : upd H c0 (.lst (cutV (ns.map V.int) none (some 63))) c0 = some (.lst (ms.map V.int)) := by rw [upd_same, em]
  have lms : ms.length ≤ 63 := by
    have l1 := cutV_length (ns.map V.int) none (some 63)
    rw [em, List.length_map, List.length_map] at l1
    omega
  generalize upd H c0 (.lst (cutV (ns.map V.int) none (some 63))) = H0 at *
  refine ⟨c0, rfl, ⟨_, SqL.of hc0⟩, fun d nd0 => ?_⟩
  have ncd : c0 ≠ d := ne_of_none hc0 nd0
  refine lc_list (K := K) (a := c0) (xs := ms.map V.int) (fun i H1 => ∃ js : List Int, js.length = i ∧ H1 d = some (.lst (js.map V.int)) ∧ H1 c0 = some (.lst (ms.map V.int)) ∧ ∀ q o, H0 q = some o → H1 q = some o)
    ⟨[], rfl, upd_same, by rw [upd_ne ncd]; exact hc0, put_new nd0 _⟩ (fun i H1 _ hp => ?_) (fun i x H1 hx hp => ?_) (fun H1 hp => ?_)
  · obtain ⟨js, _, _, h2, _⟩ := hp
    exact SqL.of h2
  · obtain ⟨js, l1, h2, h3, h4⟩ := hp
    obtain ⟨m, hm, rfl⟩ := List.mem_map.mp (List.mem_of_getElem? hx)
    have hi : i < ms.length := by
      have := (List.getElem?_eq_some_iff.mp hx).1
      rw [List.length_map] at this
      exact this
    refine ⟨rfl, .int m, rfl, _, rfl, js.map V.int, h2, small1000 (by rw [List.length_map]; omega), js ++ [if m < 0 then -m else m], by rw [List.length_append, l1]; rfl, ?_, ?_, fun q o e => ?_⟩
    · rw [upd_same, List.map_append]
      rfl
    · rw [upd_ne ncd]
      exact h3
    · rw [upd_ne (ne_of_none e nd0)]
      exact h4 q o e
  · obtain ⟨js, l1, h2, h3, h4⟩ := hp
    refine ⟨by show 4 ≤ sizeLine; decide, fun b hb => ?_⟩
    refine q b d _ ((k0.trans h4).trans (put_new hb _)) ?_ ?_ ⟨0, 1234567891, 0, js, upd_same, ?_, by decide, by decide, ?_⟩
    · cases e : H b with
      | none => rfl
      | some o =>
        have := h4 b o (k0 b o e)
        rw [hb] at this
        cases this
    · cases e : H d with
      | none => rfl
      | some o =>
        have := k0 d o e
        rw [nd0] at this
        cases this
    · rw [upd_ne (ne_of_none h2 hb)]
      exact h2
    · rw [l1, List.length_map]
      omega

abbrev s_law_take : Stmt := topS 22
theorem sc_law_take : FnScope ["bag", "many", "begin", "second", "cell", "stirred", "value"] ["bag", "many"] (defScope s_law_take) := ⟨rfl, rfl, rfl, by decide +kernel, rfl, by decide +kernel, by decide +kernel⟩
theorem ok_law_take {P : Program} {w : World} {K : PySem.W.Frag} {mg : Str → Option Value} {base : Heap} (D : DefAt K mg "_law_take" s_law_take ["bag", "many"]) (m_int : mg "int" = none) :
    Cal P w K mg base 1 "_law_take" spTake := by
  refine cal_mk D sc_law_take (fun vs H Q E h => ?_) (fun f cdv A outer s H vs Q E hG hr h => ?_)
  · obtain ⟨b, c, many, rfl, _⟩ := h; rfl
  have nd := sc_law_take.nd
  obtain ⟨b, c, many, rfl, hB, h0, h1, q⟩ := h
  obtain ⟨s0, s1, s2, ns, hb, hc, g1, g2, g3⟩ := hB
  refine ⟨_, (C8.pss_cut (ps_if (pt_cmpR op_eq (pe_ix (ix_list : IxR _ (rIxL K)) (pv 0) pe_int (fun _ _ => rfl)) pe_int (nomark _)) (pss_cons (ps_set (i := 4) nd rfl (.inl rfl) (pe_ix (ix_list : IxR _ (rIxL K)) (pe_op op_cat (pe_slice sl_list (pe_ix (ix_list : IxR _ (rIxL K)) (pv 0) pe_int (fun _ _ => rfl)) (po_some (pe_ix (ix_list : IxR _ (rIxL K)) (pv 0) pe_int (fun _ _ => rfl))) po_none) (pe_lst (pa_cons pe_int pa_nil))) pe_int (fun _ _ => rfl)))
    (pss_cons (ps_augS (pv 0) pe_int pg_list pe_int ip_add set_list)
    (C8.pss_cut (ps_if (pt_cmpR op_ge (pv 4) (pe_op op_pow pe_int pe_int) (nomark _)) (pss_one (ps_asg (pv 4) (pg_sub (pv 0) pe_int set_list))) pss_nil)
    (pss_cons (ps_set (i := 5) nd rfl (.inl rfl) (pe_op op_add (pe_op op_add (pe_op op_mul (pe_ix (ix_list : IxR _ (rIxL K)) (pv 0) pe_int (fun _ _ => rfl)) pe_int) (pe_op op_modN (pe_callTy (call_intD : CallR _ (.type "int") rInt1) (by rfl) m_int (by decide +kernel) (pa_cons (pv 4) pa_nil)) pe_int)) (pe_op op_mul pe_int (pe_ix (ix_list : IxR _ (rIxL K)) (pv 0) pe_int (fun _ _ => rfl)))))
    (pss_one (ps_asg (pe_op op_modN (pe_callTy (call_intD : CallR _ (.type "int") rInt1) (by rfl) m_int (by decide +kernel) (pa_cons (pv 5) pa_nil)) pe_int) (pg_sub (pv 0) pe_int set_list))))))) pss_nil)
    (pss_cons (ps_if (pt_cmpR op_gt (pe_ix (ix_list : IxR _ (rIxL K)) (pv 0) pe_int (fun _ _ => rfl)) pe_int (nomark _)) (pss_cons (ps_set (i := 6) nd rfl (.inl rfl) (pe_op op_modN (pe_callTy (call_intD : CallR _ (.type "int") rInt1) (by rfl) m_int (by decide +kernel) (pa_cons (pe_ix (ix_list : IxR _ (rIxL K)) (pv 0) pe_int (fun _ _ => rfl)) pa_nil)) (pv 1)))
    (pss_cons (ps_asg (pe_op op_fdivN (pe_callTy (call_intD : CallR _ (.type "int") rInt1) (by rfl) m_int (by decide +kernel) (pa_cons (pe_ix (ix_list : IxR _ (rIxL K)) (pv 0) pe_int (fun _ _ => rfl)) pa_nil)) (pv 1)) (pg_sub (pv 0) pe_int set_list))
    (pss_one (ps_ret (pv 6))))) pss_nil)
    (pss_cons (ps_set (i := 2) nd rfl (.inl rfl) (pe_op op_modN (pe_callTy (call_intD : CallR _ (.type "int") rInt1) (by rfl) m_int (by decide +kernel) (pa_cons (pe_op op_mul (pe_op op_add (pe_ix (ix_list : IxR _ (rIxL K)) (pv 0) pe_int (fun _ _ => rfl)) pe_int) pe_int) pa_nil)) pe_int))
    (pss_cons (ps_set (i := 3) nd rfl (.inl rfl) (pe_op op_modN (pe_callTy (call_intD : CallR _ (.type "int") rInt1) (by rfl) m_int (by decide +kernel) (pa_cons (pe_op op_mul (pe_op op_modN (pe_callTy (call_intD : CallR _ (.type "int") rInt1) (by rfl) m_int (by decide +kernel) (pa_cons (pe_op op_mul (pv 2) (pv 2)) pa_nil)) pe_int) pe_int) pa_nil)) pe_int))
    (pss_one (ps_ret (pe_op op_modN (pe_callTy (call_intD : CallR _ (.type "int") rInt1) (by rfl) m_int (by decide +kernel) (pa_cons (pe_op op_fdivN (pv 3) pe_int) pa_nil)) (pv 1)))))))), ?_⟩
  have ncb : c ≠ b := Bag.cne hb hc
  refine ⟨fun σ H1 => ∃ x4 x5, σ = [some (.ref b), some (.int many), none, none, x4, x5, none] ∧ Kp b H H1 ∧ Bag H1 b c, ?_, ?_⟩
  · refine ⟨.ref b, rfl, b, _, 0, .int s0, rfl, rfl, SqL.of hb, atI_nat (j := 0) rfl, rfl, _, rfl, ite2 (fun e => ?_) (fun e => ?_)⟩
    · obtain ⟨ms, em⟩ := cut_ints ns (some s2) none
      refine ⟨.ref b, rfl, b, _, 3, .ref c, rfl, rfl, SqL.of hb, atI_nat (j := 3) rfl, .ref b, rfl, b, _, 2, .int s2, rfl, rfl, SqL.of hb, atI_nat (j := 2) rfl,
        s2, rfl, c, ns.map V.int, rfl, SqL.of hc, fun p1 n1 => ?_⟩
      refine ⟨by show 1 ≤ sizeLine; decide, fun p2 n2 => ?_⟩
      have z21 : p1 ≠ p2 := ne_of_none upd_same n2
      have e1 : upd (upd H p1 (.lst (cutV (ns.map V.int) (some s2) none))) p2 (.lst [.int 0]) p1 = some (.lst (ms.map V.int)) := by
        rw [upd_ne z21, upd_same, em]
      have lms : (ms.map V.int).length + 1 ≤ sizeLine := by
        have l1 := cutV_length (ns.map V.int) (some s2) none
        rw [em, List.length_map, List.length_map] at l1
        rw [List.length_map]
        exact Nat.le_trans (Nat.succ_le_succ l1) (len1000 g3)
      refine ⟨p1, p2, _, _, rfl, rfl, e1, upd_same, lms, fun p3 n3 => ?_⟩
      have k1 : Same H (upd H p1 (.lst (cutV (ns.map V.int) (some s2) none))) := put_new n1 _
      have k2 := k1.trans (put_new n2 (.lst [.int 0]))
      have k3 := k2.trans (put_new n3 (.lst (ms.map V.int ++ [.int 0])))
      obtain ⟨cv, hcv⟩ : ∃ cv : Int, (ms.map V.int ++ [V.int 0])[0]? = some (.int cv) := by
        cases ms with
        | nil => exact ⟨0, rfl⟩
        | cons m r => exact ⟨m, rfl⟩
      refine ⟨p3, _, 0, .int cv, rfl, rfl, SqL.of upd_same, atI_nat (j := 0) hcv, ?_⟩
      have hb3 := k3 _ _ hb
      have hc3 := k3 _ _ hc
      generalize upd (upd (upd H p1 (.lst (cutV (ns.map V.int) (some s2) none))) p2 (.lst [.int 0])) p3 (.lst (ms.map V.int ++ [.int 0])) = H3 at *
      -- bag[2] += 1
      refine ⟨.ref b, rfl, b, _, 2, .int s2, rfl, rfl, SqL.of hb3, by decide, rfl, s2, 1, rfl, rfl, b, _, 2, 2, rfl, rfl, hb3, rfl, ?_⟩
      have kp4 : Kp b H (upd H3 b (.lst [.int s0, .int s1, .int (s2 + 1), .ref c])) := (Kp.of k3).trans Kp.at
      have hb4 : upd H3 b (.lst [.int s0, .int s1, .int (s2 + 1), .ref c]) b = some (.lst [.int s0, .int s1, .int (s2 + 1), .ref c]) := upd_same
      have hc4 : upd H3 b (.lst [.int s0, .int s1, .int (s2 + 1), .ref c]) c = some (.lst (ns.map V.int)) := by rw [upd_ne ncb]; exact hc3
      show (fun H4 => _) (upd H3 b (.lst [.int s0, .int s1, .int (s2 + 1), .ref c]))
      generalize upd H3 b (.lst [.int s0, .int s1, .int (s2 + 1), .ref c]) = H4 at *
      refine ⟨fun σ H5 => ∃ s0' : Int, σ = [some (.ref b), some (.int many), none, none, some (.int cv), none, none] ∧ Kp b H H5 ∧
        H5 b = some (.lst [.int s0', .int s1, .int (s2 + 1), .ref c]) ∧ H5 c = some (.lst (ns.map V.int)), ?_, ?_⟩
      · refine ⟨.int cv, rfl, 10, 18, rfl, rfl, ⟨by decide, by decide, by decide⟩, _, _, rfl, rfl, _, rfl, ite2 (fun e5 => ?_) (fun e5 => ?_)⟩
        · refine ⟨.int cv, rfl, .ref b, rfl, b, _, 0, 0, rfl, rfl, hb4, rfl, cv, rfl, kp4.trans Kp.at, upd_same, ?_⟩
          rw [upd_ne ncb]
          exact hc4
        · exact ⟨s0, rfl, kp4, hb4, hc4⟩
      · rintro σ H5 ⟨s0', rfl, kp5, hb5, hc5⟩
        refine ⟨.ref b, rfl, b, _, 1, .int s1, rfl, rfl, SqL.of hb5, atI_nat (j := 1) rfl, s1, 48271, rfl, rfl, .inl ⟨by omega, by omega⟩,
          .int cv, rfl, .inl ⟨cv, rfl, cv, 2147483647, rfl, rfl, (by show (2147483647 : Int) ≠ 0; decide), _, _, rfl, rfl,
          .ref b, rfl, b, _, 2, .int (s2 + 1), rfl, rfl, SqL.of hb5, atI_nat (j := 2) rfl, 7919, s2 + 1, rfl, rfl, .inl ⟨by decide, by decide⟩, _, _, rfl, rfl, ?_⟩⟩
        refine ⟨.int _, rfl, .inl ⟨_, rfl, _, 2147483647, rfl, rfl, (by show (2147483647 : Int) ≠ 0; decide), .ref b, rfl, b, _, 1, 1, rfl, rfl, hb5, rfl, some (.int cv), _, rfl, kp5.trans Kp.at, ?_⟩⟩
        refine ⟨s0', _, s2 + 1, ns, upd_same, ?_, ?_, ?_, g3⟩
        · rw [upd_ne ncb]
          exact hc5
        · exact Int.fmod_nonneg_of_pos _ (by decide)
        · exact Int.fmod_lt_of_pos _ (by decide)
    · exact ⟨none, none, rfl, Kp.refl _ _, s0, s1, s2, ns, hb, hc, g1, g2, g3⟩
  · rintro σ H1 ⟨x4, x5, rfl, k1, t0, t1, t2, ms, hb1, hd1, j1, j2, j3⟩
    have ndb : c ≠ b := Bag.cne hb1 hd1
    refine ⟨.ref b, rfl, b, _, 0, .int t0, rfl, rfl, SqL.of hb1, atI_nat (j := 0) rfl, t0, 0, rfl, rfl, _, rfl, ite2 (fun e => ?_) (fun e => ?_)⟩
    · refine ⟨.ref b, rfl, b, _, 0, .int t0, rfl, rfl, SqL.of hb1, atI_nat (j := 0) rfl, .inl ⟨t0, rfl, .int many, rfl, t0, many, rfl, rfl, by show many ≠ 0; omega, ?_⟩⟩
      refine ⟨.ref b, rfl, b, _, 0, .int t0, rfl, rfl, SqL.of hb1, atI_nat (j := 0) rfl, .inl ⟨t0, rfl, .int many, rfl, t0, many, rfl, rfl, ⟨by omega, by omega⟩,
        .ref b, rfl, b, _, 0, 0, rfl, rfl, hb1, rfl, .int (t0.fmod many), rfl, ?_⟩⟩
      refine q _ _ (k1.trans Kp.at) ⟨_, t1, t2, ms, upd_same, ?_, j1, j2, j3⟩ (Int.fmod_nonneg_of_pos _ h0) (Int.fmod_lt_of_pos _ h0)
      rw [upd_ne ndb]
      exact hd1
    · refine ⟨.ref b, rfl, b, _, 1, .int t1, rfl, rfl, SqL.of hb1, atI_nat (j := 1) rfl, t1, 1, rfl, rfl, t1 + 1, 39373, rfl, rfl, .inl ⟨by omega, by omega⟩,
        .inl ⟨_, rfl, _, 1000000007, rfl, rfl, by show (1000000007 : Int) ≠ 0; decide, ?_⟩⟩
      have b1 : 0 ≤ ((t1 + 1) * 39373).fmod 1000000007 := Int.fmod_nonneg_of_pos _ (by decide)
      have b2 : ((t1 + 1) * 39373).fmod 1000000007 < 1000000007 := Int.fmod_lt_of_pos _ (by decide)
      refine ⟨.int (((t1 + 1) * 39373).fmod 1000000007), rfl, .int (((t1 + 1) * 39373).fmod 1000000007), rfl, _, _, rfl, rfl, .inl ⟨Int.lt_of_lt_of_le (by decide) b1, Int.lt_trans b2 (by decide)⟩, .inl ⟨_, rfl, _, 998244353, rfl, rfl, by show (998244353 : Int) ≠ 0; decide, ?_⟩⟩
      generalize ((t1 + 1) * 39373).fmod 1000000007 = bg at *
      have c1 : 0 ≤ (bg * bg).fmod 998244353 := Int.fmod_nonneg_of_pos _ (by decide)
      have c2 : (bg * bg).fmod 998244353 < 998244353 := Int.fmod_lt_of_pos _ (by decide)
      refine ⟨(bg * bg).fmod 998244353, 30011, rfl, rfl, .inl ⟨Int.lt_of_lt_of_le (by decide) c1, Int.lt_trans c2 (by decide)⟩, .inl ⟨_, rfl, _, 998244353, rfl, rfl, by show (998244353 : Int) ≠ 0; decide, ?_⟩⟩
      refine ⟨.int _, rfl, _, 7, rfl, rfl, ⟨by decide, by decide⟩, .inl ⟨_, rfl, .int many, rfl, _, many, rfl, rfl, by show many ≠ 0; omega, ?_⟩⟩
      exact q _ _ k1 ⟨t0, t1, t2, ms, hb1, hd1, j1, j2, j3⟩ (Int.fmod_nonneg_of_pos _ h0) (Int.fmod_lt_of_pos _ h0)

abbrev s_law_some : Stmt := topS 23
theorem sc_law_some : FnScope ["bag", "things"] ["bag", "things"] (defScope s_law_some) := ⟨rfl, rfl, rfl, by decide +kernel, rfl, by decide +kernel, by decide +kernel⟩
theorem ok_law_some {P : Program} {w : World} {K : PySem.W.Frag} {mg : Str → Option Value} {base : Heap} (D : DefAt K mg "_law_some" s_law_some ["bag", "things"]) (c__law_take : Cal P w K mg base 1 "_law_take" spTake) (m_len : mg "len" = none) :
    Cal P w K mg base 2 "_law_some" (spSome K) := by
  refine cal_mk D sc_law_some (fun vs H Q E h => ?_) (fun f cdv A outer s H vs Q E hG hr h => ?_)
  · obtain ⟨b, c, t, xs, rfl, _⟩ := h; rfl
  have nd := sc_law_some.nd
  obtain ⟨b, c, t, xs, rfl, hB, hS, hne, hlt, q⟩ := h
  refine ⟨_, (pss_one (ps_ret (pe_ix (ix_seq : IxR _ (rIx K)) (pv 1) (pe_cg c__law_take (by exact hG) (by exact hr) (by decide) (by rfl) (pa_cons (pv 0) (pa_cons (pe_callB (call_len2 : CallR _ (.builtin "len") (rLen2 K)) (by rfl) m_len PySem.boot_len (pa_cons (pv 1) pa_nil)) pa_nil))) (fun _ _ => rfl)))), ?_⟩
  refine ⟨.ref t, rfl, .ref b, rfl, .ref t, rfl, t, xs, rfl, hS.imp And.left id, b, c, _, rfl, hB, ?_, ?_, fun r H' k1 hB' r0 r1 => ?_⟩
  · have := List.length_pos_iff.mpr hne
    omega
  · omega
  · obtain ⟨x, hx⟩ : ∃ x, xs[r.toNat]? = some x := by
      have : r.toNat < xs.length := by omega
      exact ⟨_, List.getElem?_eq_getElem this⟩
    have hat : atI xs r = some x := by
      have e : r = ((r.toNat : Nat) : Int) := by omega
      rw [e]
      exact atI_nat hx
    have fin := q x H' (List.mem_of_getElem? hx) k1 hB'
    rcases hS with ⟨hS, ne⟩ | hS
    · exact .inl ⟨t, xs, r, x, rfl, rfl, k1.sqL ne hS, hat, fin⟩
    · obtain ⟨zs, hz⟩ := hB.lst
      exact .inr (.inl ⟨t, xs, r, x, rfl, rfl, k1.sqT hz hS, hat, fin⟩)

abbrev s_law_mixed : Stmt := topS 24
theorem sc_law_mixed : FnScope ["bag", "things", "found", "thing"] ["bag", "things"] (defScope s_law_mixed) := ⟨rfl, rfl, rfl, by decide +kernel, rfl, by decide +kernel, by decide +kernel⟩
theorem ok_law_mixed {P : Program} {w : World} {K : PySem.W.Frag} {mg : Str → Option Value} {base : Heap} (D : DefAt K mg "_law_mixed" s_law_mixed ["bag", "things"]) (c__law_take : Cal P w K mg base 1 "_law_take" spTake) (m_len : mg "len" = none) :
    Cal P w K mg base 2 "_law_mixed" (spMixed K) := by
  refine cal_mk D sc_law_mixed (fun vs H Q E h => ?_) (fun f cdv A outer s H vs Q E hG hr h => ?_)
  · obtain ⟨b, c, t, xs, rfl, _⟩ := h; rfl
  have nd := sc_law_mixed.nd
  obtain ⟨b, c, t, xs, rfl, hB, hS, htb, hlen, q⟩ := h
  refine ⟨_, (pss_cons (ps_set (i := 2) nd rfl (.inl rfl) (pe_lst pa_nil))
    (pss_cons (ps_for PassesOwn.never rfl (pi_list (pv 1) : PI _ _ _ (iList K _)) (pg_name (i := 3) nd rfl (.inl rfl)) (pss_one (ps_expr (pe_bm PySem.F.plainAttrs_list PySem.F.slot_list_insert PySem.F.type_list_insert mt_insert (pv 2) (pa_cons (pe_cg c__law_take (by exact hG) (by exact hr) (by decide) (by rfl) (pa_cons (pv 0) (pa_cons (pe_op op_add (pe_callB (call_len2 : CallR _ (.builtin "len") (rLen2 K)) (by rfl) m_len PySem.boot_len (pa_cons (pv 2) pa_nil)) pe_int) pa_nil))) (pa_cons (pv 3) pa_nil))))))
    (pss_one (ps_ret (pv 2))))), ?_⟩
  obtain ⟨zs, hz⟩ := hB.lst
  refine ⟨Nat.zero_le _, fun p np => ?_⟩
  have npb : p ≠ b := fun z => by rw [z, hz] at np; cases np
  have npc : p ≠ c := fun z => by
    obtain ⟨_, ns, hc⟩ := hB.cell
    rw [z, hc] at np
    cases np
  refine ⟨.ref t, rfl, t, rfl, ⟨_, (put_new np (.lst [])).seq hS⟩, ?_⟩
  refine for_list (K := K) (a := t) (xs := xs) (fun i σ H1 => ∃ (ys : List V) (y3 : Option V), σ = [some (.ref b), some (.ref t), some (.ref p), y3] ∧ ys.Perm (xs.take i) ∧ Kp b H H1 ∧ Bag H1 b c ∧ H1 p = some (.lst ys))
    ⟨[], none, rfl, List.Perm.refl _, Kp.new np, hB.new np, upd_same⟩ (fun i σ H1 _ hp => ?_) (fun i x σ H1 hx hp => ?_) (fun σ H1 hp => ?_)
  · obtain ⟨ys, y3, _, _, k1, _⟩ := hp
    exact k1.sqL htb hS
  · obtain ⟨ys, y3, rfl, pm, k1, hB1, hp1⟩ := hp
    have hi : i < xs.length := (List.getElem?_eq_some_iff.mp hx).1
    have ly : ys.length = i := by rw [pm.length_eq, List.length_take]; omega
    refine ⟨.ref p, rfl, .inl ⟨rfl, _, SqL.of hp1⟩, .ref b, rfl, .ref p, rfl, p, ys, rfl, .inl (SqL.of hp1), _, _, rfl, rfl, b, c, _, rfl, hB1, by omega, by omega, fun r H2 k2 hB2 r0 r1 => ?_⟩
    have hp2 := k2 p _ npb hp1
    refine ⟨x, rfl, p, ys, r, x, rfl, rfl, hp2, small1000 (by omega), r0, by omega, ys.take r.toNat ++ [x] ++ ys.drop r.toNat, some x, rfl, ?_, ?_, ?_, upd_same⟩
    · rw [List.take_add_one, hx]
      have q1 : (ys.take r.toNat ++ [x] ++ ys.drop r.toNat).Perm (x :: ys) := by
        rw [List.append_assoc, List.singleton_append]
        refine List.perm_middle.trans ?_
        rw [List.take_append_drop]
      refine q1.trans ((pm.cons x).trans ?_)
      exact (List.perm_append_singleton x (xs.take i)).symm
    · intro q o n e
      have n2 : q ≠ p := ne_of_none e np
      rw [upd_ne n2]
      exact k2 q o n (k1 q o n e)
    · exact hB2.other npb npc
  · obtain ⟨ys, y3, rfl, pm, k1, hB1, hp1⟩ := hp
    rw [List.take_of_length_le (Nat.le_refl _)] at pm
    exact ⟨.ref p, rfl, q p ys H1 pm k1 hB1 np hp1⟩

abbrev s_law_alike : Stmt := topS 25
theorem sc_law_alike : FnScope ["found", "due"] ["found", "due"] (defScope s_law_alike) := ⟨rfl, rfl, rfl, by decide +kernel, rfl, by decide +kernel, by decide +kernel⟩
theorem ok_law_alike {P : Program} {w : World} {K : PySem.W.Frag} {mg : Str → Option Value} {base : Heap} (D : DefAt K mg "_law_alike" s_law_alike ["found", "due"]) (m_repr : mg "repr" = none) :
    Cal P w K mg base 1 "_law_alike" (spAlikeX K) := by
  refine cal_mk D sc_law_alike (fun vs H Q E h => ?_) (fun f cdv A outer s H vs Q E hG hr h => ?_)
  · obtain ⟨v, u, d, rfl, _⟩ := h; rfl
  have nd := sc_law_alike.nd
  obtain ⟨v, u, d, rfl, ha, hb, sh, so, q⟩ := h
  refine ⟨_, (pss_one (ps_ret (pe_and (pe_cmpR (op_eqD (by exact hr.units) : OpR _ (compareOp .Eq) (rEqD K)) (pv 0) (pv 1) (nomark _)) (pe_one (pe_cmpR op_eq (pe_callB (call_reprX (by exact hG) (by exact hr.units) : CallR _ (.builtin "repr") (rReprX K)) (by rfl) m_repr (by decide +kernel) (pa_cons (pv 0) pa_nil)) (pe_callB (call_reprX (by exact hG) (by exact hr.units) : CallR _ (.builtin "repr") (rReprX K)) (by rfl) m_repr (by decide +kernel) (pa_cons (pv 1) pa_nil)) (nomark _)))))), ?_⟩
  refine ⟨v, rfl, u, rfl, d, d, ha, hb, sh, sh, _, rfl, ?_⟩
  rw [SeqAt.eqv_refl d (SeqAt.canLay_of_shaped sh)]
  refine iteT ⟨v, rfl, dp_repr ha so ⟨u, rfl, dp_repr hb so ⟨rfl, ?_⟩⟩⟩
  rw [decide_eq_true rfl]
  exact q

end LW

namespace LW
open PySem PySem.Spec PyProof.Rows L2 GL
theorem all_mk {l : PySem.W.OpenLaw} {w : World} {K : PySem.W.Frag} {h : Heap} {mg : Str → Option Value} {fa f0 f1 f2 f3 f4 f5 f6 f7 f8 f9 f10 f11 f12 f13 f14 f15 f16 f17 f18 f19 f20 f21 f22 f23 f24 f25 f26 f27 f28 f29 f30 f31 f32 f33 f34 f35 f36 f37 f38 : Addr} (X : K.In h) (G : h.Ns mainGlobals mg) (hfa : mg "law" = some (.ref fa))
    {od0 an0 od1 an1 od2 an2 od3 an3 od4 an4 od5 an5 od6 an6 od7 an7 od8 an8 od9 an9 od10 an10 od11 an11 od12 an12 od13 an13 od14 an14 od15 an15 od16 an16 od17 an17 od18 an18 od19 an19 od20 an20 od21 an21 od22 an22 od23 an23 od24 an24 od25 an25 od26 an26 od27 an27 od28 an28 od29 an29 od30 an30 od31 an31 od32 an32 od33 an33 od34 an34 od35 an35 od36 an36 od37 an37 od38 an38 : Option Addr} {sl0 sl1 sl2 sl3 sl4 sl5 sl6 sl7 sl8 sl9 sl10 sl11 sl12 sl13 sl14 sl15 sl16 sl17 sl18 sl19 sl20 sl21 sl22 sl23 sl24 sl25 sl26 sl27 sl28 sl29 sl30 sl31 sl32 sl33 sl34 sl35 sl36 sl37 sl38 : Array (Option Value)} {oc0 kV0 dc0 pm0 cd0 ct0 oc1 kV1 dc1 pm1 cd1 ct1 oc2 kV2 dc2 pm2 cd2 ct2 oc3 kV3 dc3 pm3 cd3 ct3 oc4 kV4 dc4 pm4 cd4 ct4 oc5 kV5 dc5 pm5 cd5 ct5 oc6 kV6 dc6 pm6 cd6 ct6 oc7 kV7 dc7 pm7 cd7 ct7 oc8 kV8 dc8 pm8 cd8 ct8 oc9 kV9 dc9 pm9 cd9 ct9 oc10 kV10 dc10 pm10 cd10 ct10 oc11 kV11 dc11 pm11 cd11 ct11 oc12 kV12 dc12 pm12 cd12 ct12 oc13 kV13 dc13 pm13 cd13 ct13 oc14 kV14 dc14 pm14 cd14 ct14 oc15 kV15 dc15 pm15 cd15 ct15 oc16 kV16 dc16 pm16 cd16 ct16 oc17 kV17 dc17 pm17 cd17 ct17 oc18 kV18 dc18 pm18 cd18 ct18 oc19 kV19 dc19 pm19 cd19 ct19 oc20 kV20 dc20 pm20 cd20 ct20 oc21 kV21 dc21 pm21 cd21 ct21 oc22 kV22 dc22 pm22 cd22 ct22 oc23 kV23 dc23 pm23 cd23 ct23 oc24 kV24 dc24 pm24 cd24 ct24 oc25 kV25 dc25 pm25 cd25 ct25 oc26 kV26 dc26 pm26 cd26 ct26 oc27 kV27 dc27 pm27 cd27 ct27 oc28 kV28 dc28 pm28 cd28 ct28 oc29 kV29 dc29 pm29 cd29 ct29 oc30 kV30 dc30 pm30 cd30 ct30 oc31 kV31 dc31 pm31 cd31 ct31 oc32 kV32 dc32 pm32 cd32 ct32 oc33 kV33 dc33 pm33 cd33 ct33 oc34 kV34 dc34 pm34 cd34 ct34 oc35 kV35 dc35 pm35 cd35 ct35 oc36 kV36 dc36 pm36 cd36 ct36 oc37 kV37 dc37 pm37 cd37 ct37 oc38 kV38 dc38 pm38 cd38 ct38 : Value}
    (a0 : PySem.W.nsIn K mainGlobals "_law_bag" = some (some (.ref f0))) (l0 : K.lookup f0 = some ⟨oc0, od0, .func (PySem.W.fnOf "_law_bag" "_law_bag" (defArgs s_law_bag) (defBody s_law_bag) (defScope s_law_bag) .none kV0 dc0 pm0 an0 cd0 ct0), sl0⟩) (c0 : PySem.W.codeIn K cd0 "_law_bag" = true) (k0 : PySem.W.keepIn K (.ref f0) = true)
    (a1 : PySem.W.nsIn K mainGlobals "_law_take" = some (some (.ref f1))) (l1 : K.lookup f1 = some ⟨oc1, od1, .func (PySem.W.fnOf "_law_take" "_law_take" (defArgs s_law_take) (defBody s_law_take) (defScope s_law_take) .none kV1 dc1 pm1 an1 cd1 ct1), sl1⟩) (c1 : PySem.W.codeIn K cd1 "_law_take" = true) (k1 : PySem.W.keepIn K (.ref f1) = true)
    (a2 : PySem.W.nsIn K mainGlobals "_law_some" = some (some (.ref f2))) (l2 : K.lookup f2 = some ⟨oc2, od2, .func (PySem.W.fnOf "_law_some" "_law_some" (defArgs s_law_some) (defBody s_law_some) (defScope s_law_some) .none kV2 dc2 pm2 an2 cd2 ct2), sl2⟩) (c2 : PySem.W.codeIn K cd2 "_law_some" = true) (k2 : PySem.W.keepIn K (.ref f2) = true)
    (a3 : PySem.W.nsIn K mainGlobals "_law_mixed" = some (some (.ref f3))) (l3 : K.lookup f3 = some ⟨oc3, od3, .func (PySem.W.fnOf "_law_mixed" "_law_mixed" (defArgs s_law_mixed) (defBody s_law_mixed) (defScope s_law_mixed) .none kV3 dc3 pm3 an3 cd3 ct3), sl3⟩) (c3 : PySem.W.codeIn K cd3 "_law_mixed" = true) (k3 : PySem.W.keepIn K (.ref f3) = true)
    (a4 : PySem.W.nsIn K mainGlobals "_law_alike" = some (some (.ref f4))) (l4 : K.lookup f4 = some ⟨oc4, od4, .func (PySem.W.fnOf "_law_alike" "_law_alike" (defArgs s_law_alike) (defBody s_law_alike) (defScope s_law_alike) .none kV4 dc4 pm4 an4 cd4 ct4), sl4⟩) (c4 : PySem.W.codeIn K cd4 "_law_alike" = true) (k4 : PySem.W.keepIn K (.ref f4) = true)
    (a5 : PySem.W.nsIn K mainGlobals "is_integer" = some (some (.ref f5))) (l5 : K.lookup f5 = some ⟨oc5, od5, .func (PySem.W.fnOf "is_integer" "is_integer" (defArgs sis_integer) (defBody sis_integer) (defScope sis_integer) .none kV5 dc5 pm5 an5 cd5 ct5), sl5⟩) (c5 : PySem.W.codeIn K cd5 "is_integer" = true) (k5 : PySem.W.keepIn K (.ref f5) = true)
    (a6 : PySem.W.nsIn K mainGlobals "is_tuple_of" = some (some (.ref f6))) (l6 : K.lookup f6 = some ⟨oc6, od6, .func (PySem.W.fnOf "is_tuple_of" "is_tuple_of" (defArgs sis_tuple_of) (defBody sis_tuple_of) (defScope sis_tuple_of) .none kV6 dc6 pm6 an6 cd6 ct6), sl6⟩) (c6 : PySem.W.codeIn K cd6 "is_tuple_of" = true) (k6 : PySem.W.keepIn K (.ref f6) = true)
    (a7 : PySem.W.nsIn K mainGlobals "atoms_of" = some (some (.ref f7))) (l7 : K.lookup f7 = some ⟨oc7, od7, .func (PySem.W.fnOf "atoms_of" "atoms_of" (defArgs satoms_of) (defBody satoms_of) (defScope satoms_of) .none kV7 dc7 pm7 an7 cd7 ct7), sl7⟩) (c7 : PySem.W.codeIn K cd7 "atoms_of" = true) (k7 : PySem.W.keepIn K (.ref f7) = true)
    (a8 : PySem.W.nsIn K mainGlobals "range_of" = some (some (.ref f8))) (l8 : K.lookup f8 = some ⟨oc8, od8, .func (PySem.W.fnOf "range_of" "range_of" (defArgs srange_of) (defBody srange_of) (defScope srange_of) .none kV8 dc8 pm8 an8 cd8 ct8), sl8⟩) (c8 : PySem.W.codeIn K cd8 "range_of" = true) (k8 : PySem.W.keepIn K (.ref f8) = true)
    (a9 : PySem.W.nsIn K mainGlobals "is_between" = some (some (.ref f9))) (l9 : K.lookup f9 = some ⟨oc9, od9, .func (PySem.W.fnOf "is_between" "is_between" (defArgs sis_between) (defBody sis_between) (defScope sis_between) .none kV9 dc9 pm9 an9 cd9 ct9), sl9⟩) (c9 : PySem.W.codeIn K cd9 "is_between" = true) (k9 : PySem.W.keepIn K (.ref f9) = true)
    (a10 : PySem.W.nsIn K mainGlobals "lets" = some (some (.ref f10))) (l10 : K.lookup f10 = some ⟨oc10, od10, .func (PySem.W.fnOf "lets" "lets" (defArgs slets) (defBody slets) (defScope slets) .none kV10 dc10 pm10 an10 cd10 ct10), sl10⟩) (c10 : PySem.W.codeIn K cd10 "lets" = true) (k10 : PySem.W.keepIn K (.ref f10) = true)
    (a11 : PySem.W.nsIn K mainGlobals "_is_above" = some (some (.ref f11))) (l11 : K.lookup f11 = some ⟨oc11, od11, .func (PySem.W.fnOf "_is_above" "_is_above" (defArgs s_is_above) (defBody s_is_above) (defScope s_is_above) .none kV11 dc11 pm11 an11 cd11 ct11), sl11⟩) (c11 : PySem.W.codeIn K cd11 "_is_above" = true) (k11 : PySem.W.keepIn K (.ref f11) = true)
    (a12 : PySem.W.nsIn K mainGlobals "_downward" = some (some (.ref f12))) (l12 : K.lookup f12 = some ⟨oc12, od12, .func (PySem.W.fnOf "_downward" "_downward" (defArgs s_downward) (defBody s_downward) (defScope s_downward) .none kV12 dc12 pm12 an12 cd12 ct12), sl12⟩) (c12 : PySem.W.codeIn K cd12 "_downward" = true) (k12 : PySem.W.keepIn K (.ref f12) = true)
    (a13 : PySem.W.nsIn K mainGlobals "path_of" = some (some (.ref f13))) (l13 : K.lookup f13 = some ⟨oc13, od13, .func (PySem.W.fnOf "path_of" "path_of" (defArgs spath_of) (defBody spath_of) (defScope spath_of) .none kV13 dc13 pm13 an13 cd13 ct13), sl13⟩) (c13 : PySem.W.codeIn K cd13 "path_of" = true) (k13 : PySem.W.keepIn K (.ref f13) = true)
    (a14 : PySem.W.nsIn K mainGlobals "parent_of" = some (some (.ref f14))) (l14 : K.lookup f14 = some ⟨oc14, od14, .func (PySem.W.fnOf "parent_of" "parent_of" (defArgs sparent_of) (defBody sparent_of) (defScope sparent_of) .none kV14 dc14 pm14 an14 cd14 ct14), sl14⟩) (c14 : PySem.W.codeIn K cd14 "parent_of" = true) (k14 : PySem.W.keepIn K (.ref f14) = true)
    (a15 : PySem.W.nsIn K mainGlobals "children_of" = some (some (.ref f15))) (l15 : K.lookup f15 = some ⟨oc15, od15, .func (PySem.W.fnOf "children_of" "children_of" (defArgs schildren_of) (defBody schildren_of) (defScope schildren_of) .none kV15 dc15 pm15 an15 cd15 ct15), sl15⟩) (c15 : PySem.W.codeIn K cd15 "children_of" = true) (k15 : PySem.W.keepIn K (.ref f15) = true)
    (a16 : PySem.W.nsIn K mainGlobals "roots_of" = some (some (.ref f16))) (l16 : K.lookup f16 = some ⟨oc16, od16, .func (PySem.W.fnOf "roots_of" "roots_of" (defArgs sroots_of) (defBody sroots_of) (defScope sroots_of) .none kV16 dc16 pm16 an16 cd16 ct16), sl16⟩) (c16 : PySem.W.codeIn K cd16 "roots_of" = true) (k16 : PySem.W.keepIn K (.ref f16) = true)
    (a17 : PySem.W.nsIn K mainGlobals "forest_of" = some (some (.ref f17))) (l17 : K.lookup f17 = some ⟨oc17, od17, .func (PySem.W.fnOf "forest_of" "forest_of" (defArgs sforest_of) (defBody sforest_of) (defScope sforest_of) .none kV17 dc17 pm17 an17 cd17 ct17), sl17⟩) (c17 : PySem.W.codeIn K cd17 "forest_of" = true) (k17 : PySem.W.keepIn K (.ref f17) = true)
    (a18 : PySem.W.nsIn K mainGlobals "_are_branches" = some (some (.ref f18))) (l18 : K.lookup f18 = some ⟨oc18, od18, .func (PySem.W.fnOf "_are_branches" "_are_branches" (defArgs s_are_branches) (defBody s_are_branches) (defScope s_are_branches) .none kV18 dc18 pm18 an18 cd18 ct18), sl18⟩) (c18 : PySem.W.codeIn K cd18 "_are_branches" = true) (k18 : PySem.W.keepIn K (.ref f18) = true)
    (a19 : PySem.W.nsIn K mainGlobals "_is_branch" = some (some (.ref f19))) (l19 : K.lookup f19 = some ⟨oc19, od19, .func (PySem.W.fnOf "_is_branch" "_is_branch" (defArgs s_is_branch) (defBody s_is_branch) (defScope s_is_branch) .none kV19 dc19 pm19 an19 cd19 ct19), sl19⟩) (c19 : PySem.W.codeIn K cd19 "_is_branch" = true) (k19 : PySem.W.keepIn K (.ref f19) = true)
    (a20 : PySem.W.nsIn K mainGlobals "is_shape" = some (some (.ref f20))) (l20 : K.lookup f20 = some ⟨oc20, od20, .func (PySem.W.fnOf "is_shape" "is_shape" (defArgs sis_shape) (defBody sis_shape) (defScope sis_shape) .none kV20 dc20 pm20 an20 cd20 ct20), sl20⟩) (c20 : PySem.W.codeIn K cd20 "is_shape" = true) (k20 : PySem.W.keepIn K (.ref f20) = true)
    (a21 : PySem.W.nsIn K mainGlobals "_law_is_int" = some (some (.ref f21))) (l21 : K.lookup f21 = some ⟨oc21, od21, .func (PySem.W.fnOf "_law_is_int" "_law_is_int" (defArgs s_law_is_int) (defBody s_law_is_int) (defScope s_law_is_int) .none kV21 dc21 pm21 an21 cd21 ct21), sl21⟩) (c21 : PySem.W.codeIn K cd21 "_law_is_int" = true) (k21 : PySem.W.keepIn K (.ref f21) = true)
    (a22 : PySem.W.nsIn K mainGlobals "_law_forest" = some (some (.ref f22))) (l22 : K.lookup f22 = some ⟨oc22, od22, .func (PySem.W.fnOf "_law_forest" "_law_forest" (defArgs s_law_forest) (defBody s_law_forest) (defScope s_law_forest) .none kV22 dc22 pm22 an22 cd22 ct22), sl22⟩) (c22 : PySem.W.codeIn K cd22 "_law_forest" = true) (k22 : PySem.W.keepIn K (.ref f22) = true)
    (a23 : PySem.W.nsIn K mainGlobals "_law_line" = some (some (.ref f23))) (l23 : K.lookup f23 = some ⟨oc23, od23, .func (PySem.W.fnOf "_law_line" "_law_line" (defArgs s_law_line) (defBody s_law_line) (defScope s_law_line) .none kV23 dc23 pm23 an23 cd23 ct23), sl23⟩) (c23 : PySem.W.codeIn K cd23 "_law_line" = true) (k23 : PySem.W.keepIn K (.ref f23) = true)
    (a24 : PySem.W.nsIn K mainGlobals "_law_columns_mixed" = some (some (.ref f24))) (l24 : K.lookup f24 = some ⟨oc24, od24, .func (PySem.W.fnOf "_law_columns_mixed" "_law_columns_mixed" (defArgs s_law_columns_mixed) (defBody s_law_columns_mixed) (defScope s_law_columns_mixed) .none kV24 dc24 pm24 an24 cd24 ct24), sl24⟩) (c24 : PySem.W.codeIn K cd24 "_law_columns_mixed" = true) (k24 : PySem.W.keepIn K (.ref f24) = true)
    (a25 : PySem.W.nsIn K mainGlobals "_law_ranges" = some (some (.ref f25))) (l25 : K.lookup f25 = some ⟨oc25, od25, .func (PySem.W.fnOf "_law_ranges" "_law_ranges" (defArgs s_law_ranges) (defBody s_law_ranges) (defScope s_law_ranges) .none kV25 dc25 pm25 an25 cd25 ct25), sl25⟩) (c25 : PySem.W.codeIn K cd25 "_law_ranges" = true) (k25 : PySem.W.keepIn K (.ref f25) = true)
    (a26 : PySem.W.nsIn K mainGlobals "_law_nested_question" = some (some (.ref f26))) (l26 : K.lookup f26 = some ⟨oc26, od26, .func (PySem.W.fnOf "_law_nested_question" "_law_nested_question" (defArgs s_law_nested_question) (defBody s_law_nested_question) (defScope s_law_nested_question) .none kV26 dc26 pm26 an26 cd26 ct26), sl26⟩) (c26 : PySem.W.codeIn K cd26 "_law_nested_question" = true) (k26 : PySem.W.keepIn K (.ref f26) = true)
    (a27 : PySem.W.nsIn K mainGlobals "_law_atoms_of" = some (some (.ref f27))) (l27 : K.lookup f27 = some ⟨oc27, od27, .func (PySem.W.fnOf "_law_atoms_of" "_law_atoms_of" (defArgs s_law_atoms_of) (defBody s_law_atoms_of) (defScope s_law_atoms_of) .none kV27 dc27 pm27 an27 cd27 ct27), sl27⟩) (c27 : PySem.W.codeIn K cd27 "_law_atoms_of" = true) (k27 : PySem.W.keepIn K (.ref f27) = true)
    (a28 : PySem.W.nsIn K mainGlobals "_law_is_above" = some (some (.ref f28))) (l28 : K.lookup f28 = some ⟨oc28, od28, .func (PySem.W.fnOf "_law_is_above" "_law_is_above" (defArgs s_law_is_above) (defBody s_law_is_above) (defScope s_law_is_above) .none kV28 dc28 pm28 an28 cd28 ct28), sl28⟩) (c28 : PySem.W.codeIn K cd28 "_law_is_above" = true) (k28 : PySem.W.keepIn K (.ref f28) = true)
    (a29 : PySem.W.nsIn K mainGlobals "_law_path" = some (some (.ref f29))) (l29 : K.lookup f29 = some ⟨oc29, od29, .func (PySem.W.fnOf "_law_path" "_law_path" (defArgs s_law_path) (defBody s_law_path) (defScope s_law_path) .none kV29 dc29 pm29 an29 cd29 ct29), sl29⟩) (c29 : PySem.W.codeIn K cd29 "_law_path" = true) (k29 : PySem.W.keepIn K (.ref f29) = true)
    (a30 : PySem.W.nsIn K mainGlobals "_law_children" = some (some (.ref f30))) (l30 : K.lookup f30 = some ⟨oc30, od30, .func (PySem.W.fnOf "_law_children" "_law_children" (defArgs s_law_children) (defBody s_law_children) (defScope s_law_children) .none kV30 dc30 pm30 an30 cd30 ct30), sl30⟩) (c30 : PySem.W.codeIn K cd30 "_law_children" = true) (k30 : PySem.W.keepIn K (.ref f30) = true)
    (a31 : PySem.W.nsIn K mainGlobals "_law_range_of" = some (some (.ref f31))) (l31 : K.lookup f31 = some ⟨oc31, od31, .func (PySem.W.fnOf "_law_range_of" "_law_range_of" (defArgs s_law_range_of) (defBody s_law_range_of) (defScope s_law_range_of) .none kV31 dc31 pm31 an31 cd31 ct31), sl31⟩) (c31 : PySem.W.codeIn K cd31 "_law_range_of" = true) (k31 : PySem.W.keepIn K (.ref f31) = true)
    (a32 : PySem.W.nsIn K mainGlobals "_law_is_in_range" = some (some (.ref f32))) (l32 : K.lookup f32 = some ⟨oc32, od32, .func (PySem.W.fnOf "_law_is_in_range" "_law_is_in_range" (defArgs s_law_is_in_range) (defBody s_law_is_in_range) (defScope s_law_is_in_range) .none kV32 dc32 pm32 an32 cd32 ct32), sl32⟩) (c32 : PySem.W.codeIn K cd32 "_law_is_in_range" = true) (k32 : PySem.W.keepIn K (.ref f32) = true)
    (a33 : PySem.W.nsIn K mainGlobals "_law_drawn_shape" = some (some (.ref f33))) (l33 : K.lookup f33 = some ⟨oc33, od33, .func (PySem.W.fnOf "_law_drawn_shape" "_law_drawn_shape" (defArgs s_law_drawn_shape) (defBody s_law_drawn_shape) (defScope s_law_drawn_shape) .none kV33 dc33 pm33 an33 cd33 ct33), sl33⟩) (c33 : PySem.W.codeIn K cd33 "_law_drawn_shape" = true) (k33 : PySem.W.keepIn K (.ref f33) = true)
    (a34 : PySem.W.nsIn K mainGlobals "_law_any_shape" = some (some (.ref f34))) (l34 : K.lookup f34 = some ⟨oc34, od34, .func (PySem.W.fnOf "_law_any_shape" "_law_any_shape" (defArgs s_law_any_shape) (defBody s_law_any_shape) (defScope s_law_any_shape) .none kV34 dc34 pm34 an34 cd34 ct34), sl34⟩) (c34 : PySem.W.codeIn K cd34 "_law_any_shape" = true) (k34 : PySem.W.keepIn K (.ref f34) = true)
    (a35 : PySem.W.nsIn K mainGlobals "_law_odd" = some (some (.ref f35))) (l35 : K.lookup f35 = some ⟨oc35, od35, .func (PySem.W.fnOf "_law_odd" "_law_odd" (defArgs s_law_odd) (defBody s_law_odd) (defScope s_law_odd) .none kV35 dc35 pm35 an35 cd35 ct35), sl35⟩) (c35 : PySem.W.codeIn K cd35 "_law_odd" = true) (k35 : PySem.W.keepIn K (.ref f35) = true)
    (a36 : PySem.W.nsIn K mainGlobals "_law_bent" = some (some (.ref f36))) (l36 : K.lookup f36 = some ⟨oc36, od36, .func (PySem.W.fnOf "_law_bent" "_law_bent" (defArgs s_law_bent) (defBody s_law_bent) (defScope s_law_bent) .none kV36 dc36 pm36 an36 cd36 ct36), sl36⟩) (c36 : PySem.W.codeIn K cd36 "_law_bent" = true) (k36 : PySem.W.keepIn K (.ref f36) = true)
    (a37 : PySem.W.nsIn K mainGlobals "_law_is_form" = some (some (.ref f37))) (l37 : K.lookup f37 = some ⟨oc37, od37, .func (PySem.W.fnOf "_law_is_form" "_law_is_form" (defArgs s_law_is_form) (defBody s_law_is_form) (defScope s_law_is_form) .none kV37 dc37 pm37 an37 cd37 ct37), sl37⟩) (c37 : PySem.W.codeIn K cd37 "_law_is_form" = true) (k37 : PySem.W.keepIn K (.ref f37) = true)
    (a38 : PySem.W.nsIn K mainGlobals "law" = some (some (.ref f38))) (l38 : K.lookup f38 = some ⟨oc38, od38, .func (PySem.W.fnOf "law" "law" (defArgs slaw) (defBody slaw) (defScope slaw) .none kV38 dc38 pm38 an38 cd38 ct38), sl38⟩) (c38 : PySem.W.codeIn K cd38 "law" = true) (k38 : PySem.W.keepIn K (.ref f38) = true)
    (z_abs : PySem.W.nsIn K mainGlobals "abs" = some none)
    (z_all : PySem.W.nsIn K mainGlobals "all" = some none)
    (z_bool : PySem.W.nsIn K mainGlobals "bool" = some none)
    (z_enumerate : PySem.W.nsIn K mainGlobals "enumerate" = some none)
    (z_int : PySem.W.nsIn K mainGlobals "int" = some none)
    (z_isinstance : PySem.W.nsIn K mainGlobals "isinstance" = some none)
    (z_len : PySem.W.nsIn K mainGlobals "len" = some none)
    (z_list : PySem.W.nsIn K mainGlobals "list" = some none)
    (z_range : PySem.W.nsIn K mainGlobals "range" = some none)
    (z_repr : PySem.W.nsIn K mainGlobals "repr" = some none)
    (z_set : PySem.W.nsIn K mainGlobals "set" = some none)
    (z_sorted : PySem.W.nsIn K mainGlobals "sorted" = some none)
    (z_str : PySem.W.nsIn K mainGlobals "str" = some none)
    (z_tuple : PySem.W.nsIn K mainGlobals "tuple" = some none)
    (z_zip : PySem.W.nsIn K mainGlobals "zip" = some none) :
    ∃ fd : FuncData, (∀ (s : Shared) (v : Value), BindsTo s fd ⟨[v], []⟩ [("script", v)]) ∧ ∀ base : Heap, K.In base → base.Ns mainGlobals mg → Fn0 l.prog w K mg base CX0 23 fa fd ["script"] (spLaw K) := by
  have e := hfa.symm.trans (PySem.W.mg_of X G a38)
  cases e
  have F0 := fun_mk (st := s_law_bag) l0 c0 k0
  have b0 := F0.binds (ps := ["script"]) fun _ _ _ _ _ _ us hl => match us, hl with | [_], _ => rfl
  have D0 : DefAt K mg "_law_bag" s_law_bag ["script"] := def_at X G a0 F0 b0
  have F1 := fun_mk (st := s_law_take) l1 c1 k1
  have b1 := F1.binds (ps := ["bag", "many"]) fun _ _ _ _ _ _ us hl => match us, hl with | [_, _], _ => rfl
  have D1 : DefAt K mg "_law_take" s_law_take ["bag", "many"] := def_at X G a1 F1 b1
  have F2 := fun_mk (st := s_law_some) l2 c2 k2
  have b2 := F2.binds (ps := ["bag", "things"]) fun _ _ _ _ _ _ us hl => match us, hl with | [_, _], _ => rfl
  have D2 : DefAt K mg "_law_some" s_law_some ["bag", "things"] := def_at X G a2 F2 b2
  have F3 := fun_mk (st := s_law_mixed) l3 c3 k3
  have b3 := F3.binds (ps := ["bag", "things"]) fun _ _ _ _ _ _ us hl => match us, hl with | [_, _], _ => rfl
  have D3 : DefAt K mg "_law_mixed" s_law_mixed ["bag", "things"] := def_at X G a3 F3 b3
  have F4 := fun_mk (st := s_law_alike) l4 c4 k4
  have b4 := F4.binds (ps := ["found", "due"]) fun _ _ _ _ _ _ us hl => match us, hl with | [_, _], _ => rfl
  have D4 : DefAt K mg "_law_alike" s_law_alike ["found", "due"] := def_at X G a4 F4 b4
  have F5 := fun_mk (st := sis_integer) l5 c5 k5
  have b5 := F5.binds (ps := ["thing"]) fun _ _ _ _ _ _ us hl => match us, hl with | [_], _ => rfl
  have D5 : DefAt K mg "is_integer" sis_integer ["thing"] := def_at X G a5 F5 b5
  have F6 := fun_mk (st := sis_tuple_of) l6 c6 k6
  have b6 := F6.binds (ps := ["thing", "many"]) fun _ _ _ _ _ _ us hl => match us, hl with | [_, _], _ => rfl
  have D6 : DefAt K mg "is_tuple_of" sis_tuple_of ["thing", "many"] := def_at X G a6 F6 b6
  have F7 := fun_mk (st := satoms_of) l7 c7 k7
  have b7 := F7.binds (ps := ["question", "column"]) fun _ _ _ _ _ _ us hl => match us, hl with | [_, _], _ => rfl
  have D7 : DefAt K mg "atoms_of" satoms_of ["question", "column"] := def_at X G a7 F7 b7
  have F8 := fun_mk (st := srange_of) l8 c8 k8
  have b8 := F8.binds (ps := ["question", "column"]) fun _ _ _ _ _ _ us hl => match us, hl with | [_, _], _ => rfl
  have D8 : DefAt K mg "range_of" srange_of ["question", "column"] := def_at X G a8 F8 b8
  have F9 := fun_mk (st := sis_between) l9 c9 k9
  have b9 := F9.binds (ps := ["low", "value", "high"]) fun _ _ _ _ _ _ us hl => match us, hl with | [_, _, _], _ => rfl
  have D9 : DefAt K mg "is_between" sis_between ["low", "value", "high"] := def_at X G a9 F9 b9
  have F10 := fun_mk (st := slets) l10 c10 k10
  have b10 := F10.binds (ps := ["question", "column", "value"]) fun _ _ _ _ _ _ us hl => match us, hl with | [_, _, _], _ => rfl
  have D10 : DefAt K mg "lets" slets ["question", "column", "value"] := def_at X G a10 F10 b10
  have F11 := fun_mk (st := s_is_above) l11 c11 k11
  have b11 := F11.binds (ps := ["question", "one", "other"]) fun _ _ _ _ _ _ us hl => match us, hl with | [_, _, _], _ => rfl
  have D11 : DefAt K mg "_is_above" s_is_above ["question", "one", "other"] := def_at X G a11 F11 b11
  have F12 := fun_mk (st := s_downward) l12 c12 k12
  have b12 := F12.binds (ps := ["question", "columns"]) fun _ _ _ _ _ _ us hl => match us, hl with | [_, _], _ => rfl
  have D12 : DefAt K mg "_downward" s_downward ["question", "columns"] := def_at X G a12 F12 b12
  have F13 := fun_mk (st := spath_of) l13 c13 k13
  have b13 := F13.binds (ps := ["question", "column"]) fun _ _ _ _ _ _ us hl => match us, hl with | [_, _], _ => rfl
  have D13 : DefAt K mg "path_of" spath_of ["question", "column"] := def_at X G a13 F13 b13
  have F14 := fun_mk (st := sparent_of) l14 c14 k14
  have b14 := F14.binds (ps := ["question", "column"]) fun _ _ _ _ _ _ us hl => match us, hl with | [_, _], _ => rfl
  have D14 : DefAt K mg "parent_of" sparent_of ["question", "column"] := def_at X G a14 F14 b14
  have F15 := fun_mk (st := schildren_of) l15 c15 k15
  have b15 := F15.binds (ps := ["question", "column"]) fun _ _ _ _ _ _ us hl => match us, hl with | [_, _], _ => rfl
  have D15 : DefAt K mg "children_of" schildren_of ["question", "column"] := def_at X G a15 F15 b15
  have F16 := fun_mk (st := sroots_of) l16 c16 k16
  have b16 := F16.binds (ps := ["question"]) fun _ _ _ _ _ _ us hl => match us, hl with | [_], _ => rfl
  have D16 : DefAt K mg "roots_of" sroots_of ["question"] := def_at X G a16 F16 b16
  have F17 := fun_mk (st := sforest_of) l17 c17 k17
  have b17 := F17.binds (ps := ["question"]) fun _ _ _ _ _ _ us hl => match us, hl with | [_], _ => rfl
  have D17 : DefAt K mg "forest_of" sforest_of ["question"] := def_at X G a17 F17 b17
  have F18 := fun_mk (st := s_are_branches) l18 c18 k18
  have b18 := F18.binds (ps := ["question", "forest", "columns", "thing"]) fun _ _ _ _ _ _ us hl => match us, hl with | [_, _, _, _], _ => rfl
  have D18 : DefAt K mg "_are_branches" s_are_branches ["question", "forest", "columns", "thing"] := def_at X G a18 F18 b18
  have F19 := fun_mk (st := s_is_branch) l19 c19 k19
  have b19 := F19.binds (ps := ["question", "forest", "column", "thing"]) fun _ _ _ _ _ _ us hl => match us, hl with | [_, _, _, _], _ => rfl
  have D19 : DefAt K mg "_is_branch" s_is_branch ["question", "forest", "column", "thing"] := def_at X G a19 F19 b19
  have F20 := fun_mk (st := sis_shape) l20 c20 k20
  have b20 := F20.binds (ps := ["question", "thing"]) fun _ _ _ _ _ _ us hl => match us, hl with | [_, _], _ => rfl
  have D20 : DefAt K mg "is_shape" sis_shape ["question", "thing"] := def_at X G a20 F20 b20
  have F21 := fun_mk (st := s_law_is_int) l21 c21 k21
  have b21 := F21.binds (ps := ["thing"]) fun _ _ _ _ _ _ us hl => match us, hl with | [_], _ => rfl
  have D21 : DefAt K mg "_law_is_int" s_law_is_int ["thing"] := def_at X G a21 F21 b21
  have F22 := fun_mk (st := s_law_forest) l22 c22 k22
  have b22 := F22.binds (ps := ["bag", "many"]) fun _ _ _ _ _ _ us hl => match us, hl with | [_, _], _ => rfl
  have D22 : DefAt K mg "_law_forest" s_law_forest ["bag", "many"] := def_at X G a22 F22 b22
  have F23 := fun_mk (st := s_law_line) l23 c23 k23
  have b23 := F23.binds (ps := ["parents", "at"]) fun _ _ _ _ _ _ us hl => match us, hl with | [_, _], _ => rfl
  have D23 : DefAt K mg "_law_line" s_law_line ["parents", "at"] := def_at X G a23 F23 b23
  have F24 := fun_mk (st := s_law_columns_mixed) l24 c24 k24
  have b24 := F24.binds (ps := ["bag", "names", "parents", "at"]) fun _ _ _ _ _ _ us hl => match us, hl with | [_, _, _, _], _ => rfl
  have D24 : DefAt K mg "_law_columns_mixed" s_law_columns_mixed ["bag", "names", "parents", "at"] := def_at X G a24 F24 b24
  have F25 := fun_mk (st := s_law_ranges) l25 c25 k25
  have b25 := F25.binds (ps := ["bag", "columns"]) fun _ _ _ _ _ _ us hl => match us, hl with | [_, _], _ => rfl
  have D25 : DefAt K mg "_law_ranges" s_law_ranges ["bag", "columns"] := def_at X G a25 F25 b25
  have F26 := fun_mk (st := s_law_nested_question) l26 c26 k26
  have b26 := F26.binds (ps := ["bag", "most"]) fun _ _ _ _ _ _ us hl => match us, hl with | [_, _], _ => rfl
  have D26 : DefAt K mg "_law_nested_question" s_law_nested_question ["bag", "most"] := def_at X G a26 F26 b26
  have F27 := fun_mk (st := s_law_atoms_of) l27 c27 k27
  have b27 := F27.binds (ps := ["question", "column"]) fun _ _ _ _ _ _ us hl => match us, hl with | [_, _], _ => rfl
  have D27 : DefAt K mg "_law_atoms_of" s_law_atoms_of ["question", "column"] := def_at X G a27 F27 b27
  have F28 := fun_mk (st := s_law_is_above) l28 c28 k28
  have b28 := F28.binds (ps := ["question", "one", "other"]) fun _ _ _ _ _ _ us hl => match us, hl with | [_, _, _], _ => rfl
  have D28 : DefAt K mg "_law_is_above" s_law_is_above ["question", "one", "other"] := def_at X G a28 F28 b28
  have F29 := fun_mk (st := s_law_path) l29 c29 k29
  have b29 := F29.binds (ps := ["question", "column"]) fun _ _ _ _ _ _ us hl => match us, hl with | [_, _], _ => rfl
  have D29 : DefAt K mg "_law_path" s_law_path ["question", "column"] := def_at X G a29 F29 b29
  have F30 := fun_mk (st := s_law_children) l30 c30 k30
  have b30 := F30.binds (ps := ["question", "column"]) fun _ _ _ _ _ _ us hl => match us, hl with | [_, _], _ => rfl
  have D30 : DefAt K mg "_law_children" s_law_children ["question", "column"] := def_at X G a30 F30 b30
  have F31 := fun_mk (st := s_law_range_of) l31 c31 k31
  have b31 := F31.binds (ps := ["question", "column"]) fun _ _ _ _ _ _ us hl => match us, hl with | [_, _], _ => rfl
  have D31 : DefAt K mg "_law_range_of" s_law_range_of ["question", "column"] := def_at X G a31 F31 b31
  have F32 := fun_mk (st := s_law_is_in_range) l32 c32 k32
  have b32 := F32.binds (ps := ["question", "column", "value"]) fun _ _ _ _ _ _ us hl => match us, hl with | [_, _, _], _ => rfl
  have D32 : DefAt K mg "_law_is_in_range" s_law_is_in_range ["question", "column", "value"] := def_at X G a32 F32 b32
  have F33 := fun_mk (st := s_law_drawn_shape) l33 c33 k33
  have b33 := F33.binds (ps := ["bag", "question", "columns", "wide"]) fun _ _ _ _ _ _ us hl => match us, hl with | [_, _, _, _], _ => rfl
  have D33 : DefAt K mg "_law_drawn_shape" s_law_drawn_shape ["bag", "question", "columns", "wide"] := def_at X G a33 F33 b33
  have F34 := fun_mk (st := s_law_any_shape) l34 c34 k34
  have b34 := F34.binds (ps := ["bag", "question"]) fun _ _ _ _ _ _ us hl => match us, hl with | [_, _], _ => rfl
  have D34 : DefAt K mg "_law_any_shape" s_law_any_shape ["bag", "question"] := def_at X G a34 F34 b34
  have F35 := fun_mk (st := s_law_odd) l35 c35 k35
  have b35 := F35.binds (ps := ["bag"]) fun _ _ _ _ _ _ us hl => match us, hl with | [_], _ => rfl
  have D35 : DefAt K mg "_law_odd" s_law_odd ["bag"] := def_at X G a35 F35 b35
  have F36 := fun_mk (st := s_law_bent) l36 c36 k36
  have b36 := F36.binds (ps := ["bag", "thing"]) fun _ _ _ _ _ _ us hl => match us, hl with | [_, _], _ => rfl
  have D36 : DefAt K mg "_law_bent" s_law_bent ["bag", "thing"] := def_at X G a36 F36 b36
  have F37 := fun_mk (st := s_law_is_form) l37 c37 k37
  have b37 := F37.binds (ps := ["question", "columns", "thing"]) fun _ _ _ _ _ _ us hl => match us, hl with | [_, _, _], _ => rfl
  have D37 : DefAt K mg "_law_is_form" s_law_is_form ["question", "columns", "thing"] := def_at X G a37 F37 b37
  have F38 := fun_mk (st := slaw) l38 c38 k38
  have m_abs : mg "abs" = none := PySem.W.mg_none_of X G z_abs
  have m_all : mg "all" = none := PySem.W.mg_none_of X G z_all
  have m_bool : mg "bool" = none := PySem.W.mg_none_of X G z_bool
  have m_enumerate : mg "enumerate" = none := PySem.W.mg_none_of X G z_enumerate
  have m_int : mg "int" = none := PySem.W.mg_none_of X G z_int
  have m_isinstance : mg "isinstance" = none := PySem.W.mg_none_of X G z_isinstance
  have m_len : mg "len" = none := PySem.W.mg_none_of X G z_len
  have m_list : mg "list" = none := PySem.W.mg_none_of X G z_list
  have m_range : mg "range" = none := PySem.W.mg_none_of X G z_range
  have m_repr : mg "repr" = none := PySem.W.mg_none_of X G z_repr
  have m_set : mg "set" = none := PySem.W.mg_none_of X G z_set
  have m_sorted : mg "sorted" = none := PySem.W.mg_none_of X G z_sorted
  have m_str : mg "str" = none := PySem.W.mg_none_of X G z_str
  have m_tuple : mg "tuple" = none := PySem.W.mg_none_of X G z_tuple
  have m_zip : mg "zip" = none := PySem.W.mg_none_of X G z_zip
  refine ⟨PySem.W.fnOf "law" "law" (defArgs slaw) (defBody slaw) (defScope slaw) .none kV38 dc38 pm38 an38 cd38 ct38, fun s v => .of_eq rfl, fun base _ _ => ?_⟩
  have R__law_bag : Cal l.prog w K mg base 1 "_law_bag" (spBag K) := ok_law_bag D0 m_abs
  have C__law_bag := R__law_bag
  have R__law_take : Cal l.prog w K mg base 1 "_law_take" spTake := ok_law_take D1 m_int
  have C__law_take : Cal l.prog w K mg base 1 "_law_take" (spW K wTake) := take_w R__law_take
  have R__law_some : Cal l.prog w K mg base 2 "_law_some" (spSome K) := ok_law_some D2 R__law_take m_len
  have C__law_some : Cal l.prog w K mg base 2 "_law_some" (spW K wSome) := some_w R__law_some
  have R__law_mixed : Cal l.prog w K mg base 2 "_law_mixed" (spMixed K) := ok_law_mixed D3 R__law_take m_len
  have C__law_mixed : Cal l.prog w K mg base 2 "_law_mixed" (spW K wMixed) := mixed_w R__law_mixed
  have R__law_alike : Cal l.prog w K mg base 1 "_law_alike" (spAlikeX K) := ok_law_alike D4 m_repr
  have C__law_alike : Cal l.prog w K mg base 1 "_law_alike" (spW K wAlikeX) := alikeX_w R__law_alike
  have C_is_integer : Cal l.prog w K mg base 1 "is_integer" (spW K wInt) := okis_integer D5 m_bool m_int m_isinstance
  have C_is_tuple_of : Cal l.prog w K mg base 1 "is_tuple_of" (spW K wTupOf) := okis_tuple_of D6 m_isinstance m_len m_tuple
  have C_atoms_of : Cal l.prog w K mg base 1 "atoms_of" (spW K wAtoms) := okatoms_of D7 m_enumerate m_tuple
  have C_range_of : Cal l.prog w K mg base 1 "range_of" (spW K wRng) := okrange_of D8
  have C_is_between : Cal l.prog w K mg base 1 "is_between" (spW K wBtw) := okis_between D9
  have C_lets : Cal l.prog w K mg base 2 "lets" (spW K wLets) := oklets D10 C_is_between C_range_of
  have C__is_above : Cal l.prog w K mg base 2 "_is_above" (spW K wAbove) := ok_is_above D11 C_atoms_of m_all m_len
  have C__downward : Cal l.prog w K mg base 2 "_downward" (spW K wDown) := ok_downward D12 C_atoms_of m_len m_sorted m_tuple
  have C_path_of : Cal l.prog w K mg base 3 "path_of" (spW K wPath) := okpath_of D13 C__downward C__is_above
  have C_parent_of : Cal l.prog w K mg base 4 "parent_of" (spW K wPar) := okparent_of D14 C_path_of m_len
  have C_children_of : Cal l.prog w K mg base 5 "children_of" (spW K wKids) := okchildren_of D15 C_parent_of m_tuple
  have C_roots_of : Cal l.prog w K mg base 5 "roots_of" (spW K wRoots) := okroots_of D16 C_parent_of m_tuple
  have C_forest_of : Cal l.prog w K mg base 6 "forest_of" (spO K (wForestO l.prog w K)) := okforest_of D17 C_children_of C_roots_of 
  have C__are_branches : Cal l.prog w K mg base 20 "_are_branches" (spW K (wAreB l.prog w K 7)) := okare D18 D19 C_is_tuple_of C_is_integer C_lets m_all m_len m_zip m_isinstance m_tuple 7
  have C__is_branch : Cal l.prog w K mg base 19 "_is_branch" (spW K (wIsBr l.prog w K 6)) := okisb D18 D19 C_is_tuple_of C_is_integer C_lets m_all m_len m_zip m_isinstance m_tuple
  have C_is_shape : Cal l.prog w K mg base 21 "is_shape" (spW K wIsShape) := okis_shape D20 C__are_branches C_forest_of
  have C__law_is_int : Cal l.prog w K mg base 1 "_law_is_int" (spW K wInt) := ok_law_is_int D21 m_bool m_int m_isinstance
  have C__law_forest : Cal l.prog w K mg base 3 "_law_forest" (spW K wForest) := ok_law_forest D22 C__law_some m_list m_range
  have C__law_line : Cal l.prog w K mg base 1 "_law_line" (spW K wLine) := ok_law_line D23
  have C__law_columns_mixed : Cal l.prog w K mg base 3 "_law_columns_mixed" (spW K wCols) := ok_law_columns_mixed D24 C__law_line C__law_mixed m_tuple
  have C__law_ranges : Cal l.prog w K mg base 3 "_law_ranges" (spW K wRanges) := ok_law_ranges D25 C__law_mixed C__law_some C__law_take m_list m_tuple
  have C__law_nested_question : Cal l.prog w K mg base 4 "_law_nested_question" (spW K wNestedN) := ok_law_nested_question D26 C__law_columns_mixed C__law_forest C__law_mixed C__law_ranges C__law_some C__law_take m_len m_range m_tuple m_zip
  have C__law_atoms_of : Cal l.prog w K mg base 1 "_law_atoms_of" (spW K wAtomsL) := ok_law_atoms_of D27 m_enumerate
  have C__law_is_above : Cal l.prog w K mg base 2 "_law_is_above" (spW K wAbove) := ok_law_is_above D28 C__law_atoms_of m_len
  have C__law_path : Cal l.prog w K mg base 3 "_law_path" (spW K wPathL) := ok_law_path D29 C__law_is_above m_len m_sorted
  have C__law_children : Cal l.prog w K mg base 4 "_law_children" (spW K wKidsL) := ok_law_children D30 C__law_path m_len
  have C__law_range_of : Cal l.prog w K mg base 1 "_law_range_of" (spW K wRng) := ok_law_range_of D31
  have C__law_is_in_range : Cal l.prog w K mg base 2 "_law_is_in_range" (spW K wLets) := ok_law_is_in_range D32 C__law_range_of
  have C__law_drawn_shape : Cal l.prog w K mg base 10 "_law_drawn_shape" (spW K (wDrawS 5)) := okdraw D33 C__law_children C__law_range_of C__law_some C__law_take m_range m_set m_sorted m_tuple 5
  have C__law_any_shape : Cal l.prog w K mg base 11 "_law_any_shape" (spW K wAnyS) := ok_law_any_shape D34 C__law_children C__law_drawn_shape C__law_some C__law_take
  have C__law_odd : Cal l.prog w K mg base 3 "_law_odd" (spW K wOdd2) := ok_law_odd D35 C__law_some
  have C__law_bent : Cal l.prog w K mg base 19 "_law_bent" (spW K (wBent2 15)) := okbent D36 C__law_is_int C__law_odd C__law_some C__law_take m_isinstance m_len m_list m_str m_tuple 15
  have C__law_is_form : Cal l.prog w K mg base 12 "_law_is_form" (spW K (wFormL 7)) := okform D37 C__law_children C__law_is_in_range C__law_is_int m_isinstance m_len m_tuple m_zip 7
  exact oklaw F38 C__law_alike C__law_any_shape C__law_bag C__law_bent C__law_children C__law_is_form C__law_nested_question C__law_odd C__law_some C_is_shape m_range m_repr
end LW
open PySem PySem.W PyProof.Rows
set_option maxRecDepth 100000 in
set_option maxHeartbeats 0 in
theorem PySem.Challenge.cw_enoughlooks_k56_shapes_of_any_value_holds : PySem.Challenge.rw_enoughlooks_k56_shapes_of_any_value.Holds := by
  w_on; o_law; k_head; (case hw => w_witness2)
  k_fill
  refine GL.walk0 (l := PySem.Challenge.rw_enoughlooks_k56_shapes_of_any_value) (n := 63) (k := 23) (x := "script") (sp := fun w => GL.spLaw _) rfl (by decide) rfl ⟨rfl, by decide, by decide⟩ (fun w h Y => PySem.W.kIn_of Y) ?F (fun _ _ a ns hl _ hS => ⟨a, ns, rfl, hS, hl, fun _ => rfl⟩)
  case F =>
    intro w mg fa h KX G hmg
    refine' LW.all_mk KX G hmg ?a0 ?l0 ?c0 ?k0 ?a1 ?l1 ?c1 ?k1 ?a2 ?l2 ?c2 ?k2 ?a3 ?l3 ?c3 ?k3 ?a4 ?l4 ?c4 ?k4 ?a5 ?l5 ?c5 ?k5 ?a6 ?l6 ?c6 ?k6 ?a7 ?l7 ?c7 ?k7 ?a8 ?l8 ?c8 ?k8 ?a9 ?l9 ?c9 ?k9 ?a10 ?l10 ?c10 ?k10 ?a11 ?l11 ?c11 ?k11 ?a12 ?l12 ?c12 ?k12 ?a13 ?l13 ?c13 ?k13 ?a14 ?l14 ?c14 ?k14 ?a15 ?l15 ?c15 ?k15 ?a16 ?l16 ?c16 ?k16 ?a17 ?l17 ?c17 ?k17 ?a18 ?l18 ?c18 ?k18 ?a19 ?l19 ?c19 ?k19 ?a20 ?l20 ?c20 ?k20 ?a21 ?l21 ?c21 ?k21 ?a22 ?l22 ?c22 ?k22 ?a23 ?l23 ?c23 ?k23 ?a24 ?l24 ?c24 ?k24 ?a25 ?l25 ?c25 ?k25 ?a26 ?l26 ?c26 ?k26 ?a27 ?l27 ?c27 ?k27 ?a28 ?l28 ?c28 ?k28 ?a29 ?l29 ?c29 ?k29 ?a30 ?l30 ?c30 ?k30 ?a31 ?l31 ?c31 ?k31 ?a32 ?l32 ?c32 ?k32 ?a33 ?l33 ?c33 ?k33 ?a34 ?l34 ?c34 ?k34 ?a35 ?l35 ?c35 ?k35 ?a36 ?l36 ?c36 ?k36 ?a37 ?l37 ?c37 ?k37 ?a38 ?l38 ?c38 ?k38 ?z_abs ?z_all ?z_bool ?z_enumerate ?z_int ?z_isinstance ?z_len ?z_list ?z_range ?z_repr ?z_set ?z_sorted ?z_str ?z_tuple ?z_zip
    (case a0 => k_is); (case l0 => k_is); (case c0 => k_is); (case k0 => k_is)
    (case a1 => k_is); (case l1 => k_is); (case c1 => k_is); (case k1 => k_is)
    (case a2 => k_is); (case l2 => k_is); (case c2 => k_is); (case k2 => k_is)
    (case a3 => k_is); (case l3 => k_is); (case c3 => k_is); (case k3 => k_is)
    (case a4 => k_is); (case l4 => k_is); (case c4 => k_is); (case k4 => k_is)
    (case a5 => k_is); (case l5 => k_is); (case c5 => k_is); (case k5 => k_is)
    (case a6 => k_is); (case l6 => k_is); (case c6 => k_is); (case k6 => k_is)
    (case a7 => k_is); (case l7 => k_is); (case c7 => k_is); (case k7 => k_is)
    (case a8 => k_is); (case l8 => k_is); (case c8 => k_is); (case k8 => k_is)
    (case a9 => k_is); (case l9 => k_is); (case c9 => k_is); (case k9 => k_is)
    (case a10 => k_is); (case l10 => k_is); (case c10 => k_is); (case k10 => k_is)
    (case a11 => k_is); (case l11 => k_is); (case c11 => k_is); (case k11 => k_is)
    (case a12 => k_is); (case l12 => k_is); (case c12 => k_is); (case k12 => k_is)
    (case a13 => k_is); (case l13 => k_is); (case c13 => k_is); (case k13 => k_is)
    (case a14 => k_is); (case l14 => k_is); (case c14 => k_is); (case k14 => k_is)
    (case a15 => k_is); (case l15 => k_is); (case c15 => k_is); (case k15 => k_is)
    (case a16 => k_is); (case l16 => k_is); (case c16 => k_is); (case k16 => k_is)
    (case a17 => k_is); (case l17 => k_is); (case c17 => k_is); (case k17 => k_is)
    (case a18 => k_is); (case l18 => k_is); (case c18 => k_is); (case k18 => k_is)
    (case a19 => k_is); (case l19 => k_is); (case c19 => k_is); (case k19 => k_is)
    (case a20 => k_is); (case l20 => k_is); (case c20 => k_is); (case k20 => k_is)
    (case a21 => k_is); (case l21 => k_is); (case c21 => k_is); (case k21 => k_is)
    (case a22 => k_is); (case l22 => k_is); (case c22 => k_is); (case k22 => k_is)
    (case a23 => k_is); (case l23 => k_is); (case c23 => k_is); (case k23 => k_is)
    (case a24 => k_is); (case l24 => k_is); (case c24 => k_is); (case k24 => k_is)
    (case a25 => k_is); (case l25 => k_is); (case c25 => k_is); (case k25 => k_is)
    (case a26 => k_is); (case l26 => k_is); (case c26 => k_is); (case k26 => k_is)
    (case a27 => k_is); (case l27 => k_is); (case c27 => k_is); (case k27 => k_is)
    (case a28 => k_is); (case l28 => k_is); (case c28 => k_is); (case k28 => k_is)
    (case a29 => k_is); (case l29 => k_is); (case c29 => k_is); (case k29 => k_is)
    (case a30 => k_is); (case l30 => k_is); (case c30 => k_is); (case k30 => k_is)
    (case a31 => k_is); (case l31 => k_is); (case c31 => k_is); (case k31 => k_is)
    (case a32 => k_is); (case l32 => k_is); (case c32 => k_is); (case k32 => k_is)
    (case a33 => k_is); (case l33 => k_is); (case c33 => k_is); (case k33 => k_is)
    (case a34 => k_is); (case l34 => k_is); (case c34 => k_is); (case k34 => k_is)
    (case a35 => k_is); (case l35 => k_is); (case c35 => k_is); (case k35 => k_is)
    (case a36 => k_is); (case l36 => k_is); (case c36 => k_is); (case k36 => k_is)
    (case a37 => k_is); (case l37 => k_is); (case c37 => k_is); (case k37 => k_is)
    (case a38 => k_is); (case l38 => k_is); (case c38 => k_is); (case k38 => k_is)
    (case z_abs => k_is)
    (case z_all => k_is)
    (case z_bool => k_is)
    (case z_enumerate => k_is)
    (case z_int => k_is)
    (case z_isinstance => k_is)
    (case z_len => k_is)
    (case z_list => k_is)
    (case z_range => k_is)
    (case z_repr => k_is)
    (case z_set => k_is)
    (case z_sorted => k_is)
    (case z_str => k_is)
    (case z_tuple => k_is)
    (case z_zip => k_is)
