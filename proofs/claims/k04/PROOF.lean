import PyProof.Rows.All
import Wide.All
import OpenK.AllK
import Wide.FinOn
import HandS.ForMost
import HandS.TupSets
import KE.SortData
import HandS.SortKw
import HandS.Codes
import HandS.SetFor
import HandS.Strs
import HandS.TupAny
import HandS.DictComp
import HandS.DictEq
import HandS.DeepEq
import HandS.Walk
import HandS.FStr
import HandS.Conv
import HandS.DictTup
import HandS.StrMore
import PyProof.Rows.StrCut
import HandS.IsInst
import PySem.Challenge.RW_enoughlooks_k04_whole_texts_of_tables_an
set_option Elab.async false
set_option linter.all false
set_option maxRecDepth 100000
set_option maxHeartbeats 4000000
/-! a def's promise, for calls around which no repr runs; repr of data -/
namespace GL
open PySem PySem.Spec PyProof.Rows L2

structure Fn0 (P : Program) (w : World) (K : PySem.W.Frag) (mg : Str → Option Value)
    (base : Heap) (CX : CXT) (k : Nat) (f : Addr) (fd : FuncData) (ps : List Str) (sp : Sp) : Prop where
  len : ∀ vs H Q E, sp vs H Q E → vs.length = ps.length
  go : ∀ (A : Around) (outer : List Env) (s : Shared) (H : Hp) (args : Args) (us : List Value) (vs : List V)
    (Q : VK) (E : XK), A.guards = some [] → Room k A → Env0 P w K mg base A outer s H →
    BindsTo s fd args (ps.zip us) → Vals vs us → sp vs H Q E →
    codeAny (model P w) A (.call (.ref f) args) (CR CX outer P w H s Q E) s

section
variable {P : Program} {w : World} {K : PySem.W.Frag} {mg : Str → Option Value} {base : Heap}
theorem fn0_up {CX : CXT} {k : Nat} {f : Addr} {fd : FuncData} {ps : List Str} {sp : Sp}
    (F : FnOk P w K mg base CX k f fd ps sp) : Fn0 P w K mg base CX k f fd ps sp :=
  ⟨F.len, fun A outer s H args us vs Q E _ hr he hb hv hs => F.run A outer s H args us vs Q E hr he hb hv hs⟩
theorem fn0_mono {CX : CXT} {j k : Nat} {f : Addr} {fd : FuncData} {ps : List Str} {sp : Sp}
    (F : Fn0 P w K mg base CX j f fd ps sp) (h : j ≤ k) : Fn0 P w K mg base CX k f fd ps sp :=
  ⟨F.len, fun A outer s H args us vs Q E hg hr => F.go A outer s H args us vs Q E hg (hr.mono h)⟩

theorem fn0_of {x qual : Str} {st : Stmt} {f : Addr} {fd : FuncData} {N ps : List Str} {k : Nat} {sp : Sp}
    (F : Fun K x qual st f fd) (S : FnScope N ps (defScope st)) (len : ∀ vs H Q E, sp vs H Q E → vs.length = ps.length)
    (body : ∀ (cdv : Value) (A : Around) (outer : List Env) (s : Shared) (H : Hp) (vs : List V) (Q : VK) (E : XK),
      A.guards = some [] →
      Room k (A.deeper (envOfC qual (defScope st) s.heap.objs.size f cdv)) → sp vs H Q E →
      ∃ t, PSs (cxOf CX0 P w K mg base N qual (defScope st) f cdv A outer s H E).nox (defBody st) t ∧
        t { nx := fun _ H' => Q .non H', rt := Q } (start N vs) H) :
    Fn0 P w K mg base CX0 (k + 1) f fd ps sp := by
  obtain ⟨oc, od, kV, doc, pm, an, cdv, ct, osl, rfl, lk, hcd⟩ := F.ex
  refine ⟨len, fun A outer s H args us vs Q E hG hr e0 hb r hsp => ?_⟩
  have L1 := len _ _ _ _ hsp
  have bk : ∀ b o, base.get? b = some o → s.heap.get? b = some o := fun b o e => (e0.bs b o e).1
  have inS : K.In s.heap := e0.mod.kin.keeps bk
  have lim : s.heap.NoLimit := e0.mod.nolimit.keeps bk
  have kinds : ∀ y ∈ ps.zip us, (defScope st).names.lookup y.1 = some .local ∨
      ((defScope st).names.lookup y.1 = some .cell ∧
        ((cellsFrom (s.heap.objs.size + 1) (defScope st).names []).lookup y.1).isSome = true) := by
    rintro ⟨n, v⟩ hy
    have hn := (List.of_mem_zip hy).1
    cases S.par n hn with
    | inl q => exact .inl q
    | inr q => exact .inr ⟨q, PySem.W.cellsFrom_some _ _ _ (.inl q)⟩
  refine codeAny_call_function hr.depth (inS _ _ lk) rfl S.co S.gen rfl (PySem.W.codeRec_of inS hcd) (hb _ _ _ _ ?_)
  refine wpAny_newFunctionEnv_cells S.kind kinds fun env he s1 x => ?_
  subst he
  refine ⟨lim.keeps x.toInCall.keep, codeAny_func ?_⟩
  obtain ⟨t, ht0, hq⟩ := body cdv A outer s H vs Q E hG (hr.deeper _) hsp
  have ht := ht0.nox
  have I0 : Inv (cxOf CX0 P w K mg base N qual (defScope st) f cdv A outer s H E) [] (start N vs) H s1 :=
    inv_start S hr.hd e0 L1 r x
  refine wpAny_mono (ht.run [] s1 (start N vs) H _ I0 hq) (fun fl s' hs => ?_) fun _ _ z => z
  cases fl with
  | ret u =>
    obtain ⟨v, σ', H', J, rv, q⟩ := hs
    exact ⟨v, H', J.os, J.bare, J.base, J.hok, rv, q⟩
  | next =>
    obtain ⟨σ', H', J, q⟩ := hs
    exact ⟨.non, H', J.os, J.bare, J.base, J.hok, rfl, q⟩
  | brk => obtain ⟨_, _, _, q⟩ := hs; exact q.elim
  | cont => obtain ⟨_, _, _, q⟩ := hs; exact q.elim
end

section
variable {X : Cx} {CX : CXT} {k : Nat} {f : Addr} {fd : FuncData} {ps : List Str} {sp : Sp} {dvs : List V} {ds : List Value} {E : XK}
  {x : Str} {p pos : Pos} {e : Expr} {es : List Expr} {t : TA}
theorem go_fn {pins : List (Addr × Obj)} {σ : L2.St} {H : Hp} {s : Shared} {Q : VK} {us : List Value} {vs : List V}
    (F : Fn0 X.prog X.w X.K X.mg X.base CX k f fd ps sp) (hG : X.A.guards = some []) (hr : Room k X.A)
    (hb : Binds X.K fd ps ds) (hd : Vals dvs ds) (hx : Passes CX X E)
    (I : Inv X pins σ H s) (r : Vals vs us) (h : sp (vs ++ dvs) H Q E) :
    wpAny (model X.prog X.w) X.A (call (.ref f) us) (EP X pins σ Q) X.xe s := by
  have r2 : Vals (vs ++ dvs) (us ++ ds) := r.append hd
  have hl := F.len _ _ _ _ h
  rw [r2.length] at hl
  have run := F.go X.A X.stack s H ⟨us, []⟩ (us ++ ds) (vs ++ dvs) Q E hG hr I.env0 (hb s us I.kIn hl) r2 h
  refine wpAny_call (codeAny_mono run fun r s' hq => ?_)
  cases r with
  | error e => exact hx pins σ H s e s' I hq
  | ok fl => cases fl with
    | ret u => exact I.after hq
    | next => exact hq.elim
    | brk => exact hq.elim
    | cont => exact hq.elim

theorem pe_call0g (F : Fn0 X.prog X.w X.K X.mg X.base CX k f fd ps sp) (hG : X.A.guards = some []) (hr : Room k X.A)
    (hg : Gl X x) (hm : X.mg x = some (.ref f)) (hk : PySem.W.keepIn X.K (.ref f) = true)
    (hb : Binds X.K fd ps ds) (hd : Vals dvs ds) (hx : Passes CX X E) (ha : PA X (e :: es) t)
    (hdb : (x == ("__debug__" : Str)) = false := by decide)
    (he : starEach (e :: es) X.env = (false, eval e X.env) :: starEach es X.env := by rfl)
    (hpl : (backTo pos (starEach es X.env)).any (·.1) = false := by rfl) :
    PE X (.Call (.Name x p) (e :: es) [] pos) (tCall sp dvs E t) := by
  constructor
  intro pins s σ H Q I h
  refine wpAny_Call_Name_kw (ld_glob I hg hm ?_ hdb)
  refine PySem.W.callWith_K (h₀ := X.base) I.ok.mod.kin hk ?_ he hpl
  refine thn (ha.run pos pins s σ H _ I h) ?_
  rintro us s1 ⟨vs, H1, I1, r, q⟩
  exact ⟨I1.kIn, go_fn F hG hr hb hd hx I1 r q⟩
end

/-! ### repr of data -/
/-- the text of a datum fits -/
def Shows (d : PyData) : Prop := d.showable = true ∧ d.hasDict = false ∧ d.depth ≤ 60 ∧ d.shown.length ≤ sizeLine
def rRepr (K : PySem.W.Frag) : List V → Hp → VK → Prop := fun xs H Q => ∃ x d, xs = [x] ∧ Dp K H x d ∧ Shows d ∧ (∃ a, x = .ref a) ∧ Q (.str d.shown) H
theorem call_reprD {X : Cx} (hG : X.A.guards = some []) (hu : X.A.units + 64 < cLine) : CallR X (.builtin "repr") (rRepr X.K) := by
  intro pins s σ H xs us Q I r h
  obtain ⟨x, d, rfl, hd, ⟨h1, h2, h3, h4⟩, ⟨a, rfl⟩, q⟩ := h
  cases r with
  | cons rx rn =>
    cases rn
    cases rx
    obtain ⟨as, hr⟩ := Dp.reads I d _ _ hd rfl
    refine repr_of_reads' hr h1 (fun z => by rw [h2] at z; cases z) hG (by omega) (fun _ _ e => e) (fun h' u tk hk => ?_) h4
    exact ⟨.str d.shown, H, I.kept hk, ⟨_, rfl⟩, q⟩
end GL

namespace GL
open PySem PySem.Spec PyProof.Rows L2

section
variable {P : Program} {w : World} {K : PySem.W.Frag} {mg mb : Str → Option Value} {k : Nat} {fa a : Addr} {fd : FuncData} {x : Str}
  {sp : Sp} {s1 : Shared} {vs : List Value} {ns : List Int}
/-- what is wanted behind the law's call -/
def Good (s1 : Shared) (r : Result) (s' : Shared) : Prop :=
  r = .ok (.ret (.bool true)) ∧ PySem.OldK s1.heap s'.heap ∧ s'.os = s1.os ∧ AllBare s'.gens

theorem law0_core (KX : K.In s1.heap) (hns : s1.heap.Ns mainGlobals mg) (hb : s1.heap.Ns builtinsNs mb)
    (hbb : ∀ y : Str, y ≠ "__name__" → mb y = bootBuiltins y) (hlim : s1.heap.NoLimit) (hg : s1.gens = #[])
    (ha : s1.heap.get? a = some { cls := .type "list", data := .seq vs.toArray }) (hr : Room k callerA)
    (F : ∀ base : Heap, K.In base → base.Ns mainGlobals mg → Fn0 P w K mg base CX0 k fa fd [x] sp)
    (bind : ∀ (s : Shared) (u : Value), BindsTo s fd ⟨[u], []⟩ [(x, u)])
    (H : Hp) (hO : Only H) (want : sp [.ref a] H (fun v _ => v = .bl true) fun _ _ _ => False)
    (hok : HOk P w H s1.heap) (hA : ∀ b, H b ≠ none → b = a) (hK : H a ≠ none → K.lookup a = none) :
    codeAny (model P w) callerA (.call (.ref fa) ⟨[.ref a], []⟩) (Good s1) s1 := by
  have off : ∀ {b : Addr} {o : Obj}, s1.heap.get? b = some o → b ≠ a ∨ H b = none → (hidT s1.heap H).get? b = some o := by
    intro b o e z
    refine hidT_get e ?_
    rcases z with z | z
    · cases q : H b with
      | none => rfl
      | some u => exact absurd (hA b (by simp [q])) z
    · exact z
  have dictNe : ∀ {b : Addr} {o : Obj} {es : Array DictEntry} {ep : Nat}, s1.heap.get? b = some o → o.data = .dict es ep → b ≠ a := by
    intro b o es ep e d z
    subst z
    rw [ha] at e
    cases e
    cases d
  have nsK : ∀ {b : Addr} {m : Str → Option Value}, s1.heap.Ns b m → (hidT s1.heap H).Ns b m := by
    rintro b m ⟨o, es, ep, e, d, r⟩
    exact ⟨o, es, ep, off e (.inl (dictNe e d)), d, r⟩
  have inB : K.In (hidT s1.heap H) := by
    intro b o e
    refine off (KX b o e) ?_
    by_cases z : b = a
    · subst z
      cases q : H b with
      | none => exact .inr rfl
      | some u =>
        have := hK (by simp [q])
        rw [this] at e
        cases e
    · exact .inl z
  obtain ⟨mc, l1, l2⟩ := hlim
  have M : Mod K mg (hidT s1.heap H) := ⟨inB, nsK hns, ⟨mb, nsK hb, hbb⟩, ⟨mc, nsK l1, l2⟩⟩
  have e0 : Env0 P w K mg (hidT s1.heap H) callerA [] s1 H :=
    { frames := rfl, mod := M, bs := fun b o e => of_hidT e, bsz := Nat.le_of_eq (hidT_size _ _), funs := trivial,
      frf := fun b z => absurd (show b ∈ ([] : List Addr) from z) (by simp), hok := hok, bare := .of_eq hg }
  have run := (F _ inB (nsK hns)).go callerA [] s1 H ⟨[.ref a], []⟩ [.ref a] [.ref a] _ _ rfl hr e0 (bind s1 (.ref a)) (.cons rfl .nil) want
  refine codeAny_mono run fun r s' h => ?_
  match r, h with
  | .error e, h => exact (h : False).elim
  | .ok .next, h => exact (h : False).elim
  | .ok .brk, h => exact (h : False).elim
  | .ok .cont, h => exact (h : False).elim
  | .ok (.ret u), h =>
    obtain ⟨v, H', os, bare, un, hok', rv, q⟩ := h
    have q' : v = .bl true := q
    subst q'
    have eu : u = Value.bool true := rv
    subst eu
    refine ⟨rfl, OldK.of_keep fun b o e => ?_, os, bare⟩
    rcases hO b with z | ⟨ob, xs, z⟩
    · exact un.keep b o e z (fun n => nomatch n) (fun n => nomatch n)
    · have h1 := (hok b _ z).1
      have h2 := (hok' b _ (un.frzs b ob _ z)).1
      rw [e] at h1
      cases h1
      exact h2

theorem law0_call (KX : K.In s1.heap) (hns : s1.heap.Ns mainGlobals mg) (hb : s1.heap.Ns builtinsNs mb)
    (hbb : ∀ y : Str, y ≠ "__name__" → mb y = bootBuiltins y) (hlim : s1.heap.NoLimit) (hg : s1.gens = #[])
    (ha : s1.heap.get? a = some { cls := .type "list", data := .seq vs.toArray }) (hi : IntsAre vs ns) (hl : ns.length ≤ sizeLine)
    (hr : Room k callerA)
    (F : ∀ base : Heap, K.In base → base.Ns mainGlobals mg → Fn0 P w K mg base CX0 k fa fd [x] sp)
    (bind : ∀ (s : Shared) (u : Value), BindsTo s fd ⟨[u], []⟩ [(x, u)])
    (want : ∀ H : Hp, Only H → SqL K H a (ns.map V.int) → sp [.ref a] H (fun v _ => v = .bl true) fun _ _ _ => False) :
    codeAny (model P w) callerA (.call (.ref fa) ⟨[.ref a], []⟩) (Good s1) s1 := by
  have rv := vals_ints hi
  have lenV := hi.length
  cases hk : K.lookup a with
  | some o =>
    have e := KX a o hk
    rw [ha] at e
    cases e
    have hO : Only (fun _ => none) := fun _ => .inl rfl
    have hS : SqL K (fun _ => none) a (ns.map V.int) :=
      .inr ⟨_, vs.toArray, _, hk, rfl, rfl, rfl, by rw [List.size_toArray, lenV]; exact hl, by simpa using rv⟩
    exact law0_core KX hns hb hbb hlim hg ha hr F bind _ hO (want _ hO hS)
      (fun b u z => by have z' : (none : Option HO) = some u := z; cases z') (fun b z => absurd rfl z) fun z => absurd rfl z
  | none =>
    let H0 : Hp := fun b => if b = a then some (.frz { cls := .type "list", data := .seq vs.toArray } (.lst (ns.map V.int))) else none
    have at0 : H0 a = some (.frz { cls := .type "list", data := .seq vs.toArray } (.lst (ns.map V.int))) := if_pos rfl
    have ne0 : ∀ b, b ≠ a → H0 b = none := fun b z => if_neg z
    have hO : Only H0 := by
      intro b
      by_cases z : b = a
      · subst z; exact .inr ⟨_, _, at0⟩
      · exact .inl (ne0 b z)
    have hS : SqL K H0 a (ns.map V.int) := .inl (.inr ⟨_, at0⟩)
    refine law0_core KX hns hb hbb hlim hg ha hr F bind H0 hO (want H0 hO hS) (fun b u z => ?_) (fun b z => ?_) fun _ => hk
    · by_cases q : b = a
      · subst q
        rw [at0] at z
        cases z
        exact ⟨ha, by rw [List.length_map]; exact hl, vs, _, rv, ha⟩
      · rw [ne0 b q] at z
        cases z
    · exact Classical.byContradiction fun q => z (ne0 b q)
end

theorem walk0 {l : PySem.W.OpenLaw} {n k : Nat} {q : Program} {loose : List Str} {XP : (Str → Option Value) → Heap → Prop}
    {YP : World → Heap → Prop} {d : DefRec} {K : Params → PySem.W.Frag} {sp : World → Sp} {x : Str}
    (hn : l.most = some n) (hn2 : n ≤ sizeLine) (hdf : d.params.defaults = []) (hr : Room k callerA)
    (hY : ∀ (w : World) (h : Heap), YP w h → (K w.params).In h)
    (F : ∀ (w : World) (mg : Str → Option Value) (fa : Addr) (h : Heap), (K w.params).In h → h.Ns mainGlobals mg →
      mg d.name = some (.ref fa) → ∃ fd : FuncData, (∀ (s : Shared) (u : Value), BindsTo s fd ⟨[u], []⟩ [(x, u)]) ∧
        ∀ base : Heap, (K w.params).In base → base.Ns mainGlobals mg → Fn0 l.prog w (K w.params) mg base CX0 k fa fd [x] (sp w))
    (want : ∀ (w : World) (H : Hp) (a : Addr) (ns : List Int), ns.length ≤ n → Only H → SqL (K w.params) H a (ns.map V.int) →
      sp w [.ref a] H (fun v _ => v = .bl true) fun _ _ _ => False) :
    PySem.W.WalkO q loose XP YP l.row.toRowW d [] (fun f vs => PySem.call f vs) := by
  refine Att.attach_call hn hdf ?_
  intro w s0 s1 mg mb fa o pm cd doc a vs ns G Y ho hd hcd hmg hobj hints hlen hg
  have KX := hY w _ Y
  obtain ⟨fd, hb, hF⟩ := F w mg fa _ KX G.T.g hmg
  exact law0_call KX G.T.g G.T.b G.T.builtins G.T.nolimit hg hobj hints (Nat.le_trans hlen hn2) hr hF hb
    fun H hO hS => want w H a ns hlen hO hS
end GL

/-! sorted of lists, tuples, sets of tuples of whole numbers (any sign) -/
namespace GL
open PySem PySem.Spec PyProof.Rows L2

abbrev encR : List Int → PyData := fun r => .tuple (r.map .int)

theorem perm_lift {α β : Type} (f : α → β) : ∀ (out : List β) (l : List α), out.Perm (l.map f) → ∃ l' : List α, l'.map f = out ∧ l'.Perm l
  | [], l, h => by
    have e : l.map f = [] := List.Perm.eq_nil h.symm
    have e' : l = [] := List.map_eq_nil_iff.mp e
    exact ⟨[], rfl, by rw [e']⟩
  | y :: out, l, h => by
    have hm : y ∈ l.map f := h.mem_iff.mp List.mem_cons_self
    obtain ⟨b, hb, rfl⟩ := List.mem_map.mp hm
    obtain ⟨l1, l2, rfl⟩ := List.append_of_mem hb
    have h2 : (f b :: out).Perm (f b :: (l1 ++ l2).map f) := by
      refine h.trans ?_
      rw [List.map_append, List.map_cons, List.map_append]
      exact List.perm_middle
    obtain ⟨l', e, p⟩ := perm_lift f out (l1 ++ l2) h2.cons_inv
    exact ⟨b :: l', by rw [List.map_cons, e], (p.cons b).trans List.perm_middle.symm⟩

theorem dataLe_encR {β : Type} (x : β → List Int) : PySem.W.dataLe false (fun b => encR (x b)) = fun p q => decide (x p ≤ x q) := by
  funext p q
  show (!PySem.W.dataLt (.tuple ((x q).map .int)) (.tuple ((x p).map .int))) = _
  rw [PySem.W.dataLt_tuple]
  show (!PySem.W.rowLt ((x q).map .int) ((x p).map .int)) = _
  rw [PySem.W.dataLt_ints]
  rcases Classical.em (x q < x p) with h | h
  · simp [h, fun r : x p ≤ x q => List.not_lt.mpr r h]
  · simp [h, List.not_lt.mp h]

theorem each_fst {β γ : Type} : ∀ (l : List (β × γ)), PySem.W.EachIs (fun v b => v = b.1) (l.map (·.1)) l
  | [] => .nil
  | b :: l => .cons rfl (each_fst l)
theorem fst_each {β γ : Type} : ∀ {vs : List β} {l : List (β × γ)}, PySem.W.EachIs (fun v b => v = b.1) vs l → vs = l.map (·.1)
  | _, _, .nil => rfl
  | _, _, .cons e t => by rw [List.map_cons, e, fst_each t]
theorem each_of {β γ : Type} {R : β → β × γ → Prop} : ∀ {l : List (β × γ)}, (∀ b ∈ l, R b.1 b) → PySem.W.EachIs R (l.map (·.1)) l
  | [], _ => .nil
  | b :: l, h => .cons (h b List.mem_cons_self) (each_of fun c hc => h c (List.mem_cons_of_mem _ hc))

section
variable {prog : Program} {w : World} {A : Around} {E : Value → Shared → Prop} {s : Shared}
theorem sorted_gather {x : Value} {Q : Value → Shared → Prop} {bs : List (Value × List Int)}
    (hcol : ∀ (E' : Value → Shared → Prop) (Q' : List Value → Shared → Prop),
      (∀ s' out, (∀ b o, s.heap.get? b = some o → s'.heap.get? b = some o) → s.heap.objs.size ≤ s'.heap.objs.size → s'.gens = s.gens → s'.os = s.os →
        out.Perm (bs.map (·.1)) → Q' out s') → wpAny (model prog w) A.in1 (collect x) Q' E' s)
    (hr : ∀ b ∈ bs, b.2 ≠ [] ∧ ∃ as, Reads s.heap b.1 (encR b.2) as) (hL : bs.length ≤ sizeLine) (hu : A.units + 64 < cLine)
    (h : ∀ s' p c (bs' : List (Value × List Int)), (∀ b o, s.heap.get? b = some o → s'.heap.get? b = some o) → s'.gens = s.gens → s'.os = s.os →
      s.heap.objs.size ≤ p → s'.heap.get? p = some (seqObj "list" (bs'.map (·.1)).toArray c) → bs'.Perm bs → (bs'.map (·.2)).Pairwise (· ≤ ·) → Q (.ref p) s') :
    wpAny (model prog w) A (call (.builtin "sorted") [x]) Q E s := by
  refine Calls.call_function_entry kind_sorted plain_sorted entry_sorted (args_sorted1 _) ?_
  unfold Builtin.«sorted»
  refine wpAny_bind (m := checkCount "sorted" 1 1 _) (wpAny_pure ?_)
  refine wpAny_bind (hcol _ _ fun s1 out k1 z1 g1 o1 pm => ?_)
  obtain ⟨b1, e1, p1⟩ := perm_lift _ out bs pm
  subst e1
  have l1 : (b1.map (·.1)).length ≤ sizeLine := by rw [List.length_map, p1.length_eq]; exact hL
  refine wpAny_bind (wpAny_newList ?_ l1)
  have ho : (s1.heap.push (seqObj "list" (b1.map (·.1)).toArray 0)).get? s1.heap.objs.size = some (seqObj "list" (b1.map (·.1)).toArray 0) := Heap.get?_push_size _ rfl
  have old : ∀ b o, s.heap.get? b = some o → (PySem.W.sortingHeap (s1.heap.push (seqObj "list" (b1.map (·.1)).toArray 0)) s1.heap.objs.size (b1.map (·.1))).get? b = some o := by
    intro b o e
    have e2 := k1 b o e
    exact PySem.W.sortingHeap_old (Nat.ne_of_lt (Heap.lt_size e2)) (Heap.get?_push_of_some _ e2)
  have er : PySem.W.EachIs (fun v (b : Value × List Int) => ∃ as, Reads (PySem.W.sortingHeap (s1.heap.push (seqObj "list" (b1.map (·.1)).toArray 0)) s1.heap.objs.size (b1.map (·.1))) v (encR b.2) as) (b1.map (·.1)) b1 :=
    each_of fun b hb => by
      obtain ⟨_, as, r⟩ := hr b (p1.mem_iff.mp hb)
      exact ⟨as, PyProof.Rows.Reads.keeps old r⟩
  have hal : PySem.W.AllAlike (b1.map fun b => encR b.2) := PySem.W.AllAlike.of fun b c => by
    show PySem.W.alike (.tuple _) (.tuple _) = true
    rw [PySem.W.alike]
    exact PySem.W.alike_ints _ _
  have hk : PySem.W.Sortable (b1.map fun b => encR b.2) := .inl fun d hd => by
    obtain ⟨b, hb, rfl⟩ := List.mem_map.mp hd
    obtain ⟨n0, _⟩ := hr b (p1.mem_iff.mp hb)
    obtain ⟨_, r⟩ := b
    cases r with
    | nil => exact absurd rfl n0
    | cons i r => exact ⟨_, _, rfl⟩
  have S := PySem.W.SortsAt.data (prog := prog) (w := w) (A := A.in1.in1) (s := { s1 with heap := PySem.W.sortingHeap (s1.heap.push (seqObj "list" (b1.map (·.1)).toArray 0)) s1.heap.objs.size (b1.map (·.1)) })
    (PySem.W.each_map (R := fun v d => ∃ as, Reads (PySem.W.sortingHeap (s1.heap.push (seqObj "list" (b1.map (·.1)).toArray 0)) s1.heap.objs.size (b1.map (·.1))) v d as) (fun b : Value × List Int => encR b.2) er) hal hk (fun d hd => by
      obtain ⟨b, _, rfl⟩ := List.mem_map.mp hd
      have dp : (encR b.2).depth = 1 := by
        show PyData.depth (.tuple _) = 1
        rw [PyData.depth, PySem.W.depth_ints]
      rw [dp]
      show A.units + 1 + 1 + 1 < cLine
      omega)
  refine wpAny_bind (wpAny_holding (wpAny_call_entry slot_list_sort ⟨_, ho, rfl⟩ entry_list_sort ?body (args_list_sort _)))
  case body =>
    refine PySem.W.list_sort_vals (s := { s1 with heap := s1.heap.push (seqObj "list" (b1.map (·.1)).toArray 0) }) ho S l1 ⟨_, rfl, wpAny_pure ⟨_, rfl, ?_⟩⟩
    have eo := PySem.W.sortVals_data (R := fun (v : Value) (b : Value × List Int) => v = b.1) false (each_fst b1) er hal
    have eo2 := fst_each eo
    rw [eo2]
    obtain ⟨c, hc⟩ := PyProof.Rows.sortedHeap_at (vs := b1.map (·.1)) (out := ((b1.mergeSort (PySem.W.dataLe false fun b => encR b.2)).map (·.1)).toArray) ho
    refine h _ s1.heap.objs.size c (b1.mergeSort (PySem.W.dataLe false fun b => encR b.2)) (fun b o e => ?_) g1 o1 z1 hc ((List.mergeSort_perm _ _).trans p1) ?_
    · have e2 := k1 b o e
      have e3 : (s1.heap.push (seqObj "list" (b1.map (·.1)).toArray 0)).get? b = some o := Heap.get?_push_of_some _ e2
      exact (PyProof.Rows.sortedHeap_old (Nat.ne_of_lt (Heap.lt_size e2)) (Heap.lt_size e3)).trans e3
    · have pw := PySem.W.sort_pairwise (le := PySem.W.dataLe false fun b : Value × List Int => encR b.2) (PySem.W.sortLe_total _ _ _) b1
      rw [List.pairwise_map]
      refine pw.imp fun {a b} hab => ?_
      have hab' : PySem.W.dataLe false (fun b : Value × List Int => encR b.2) a b = true := hab
      rw [dataLe_encR (fun b : Value × List Int => b.2)] at hab'
      exact of_decide_eq_true hab'

theorem collect_tup {l : Addr} {vs : List Value} {Q : List Value → Shared → Prop} (hl : IsTup s.heap l vs.toArray)
    (h : Q vs { s with heap := (s.heap.push (seqObj "list" #[] 0)).update s.heap.objs.size (Obj.mapSeq (· ++ vs.toArray)) }) (hsz : vs.length ≤ sizeLine) :
    wpAny (model prog w) A (collect (.ref l)) Q E s := by
  obtain ⟨o, ho, hc, n, hd⟩ := id hl
  unfold collect
  refine wpAny_bind (wpAny_runValue (codeAny_builtin entry_proto_collect' ?_))
  show wpAny _ _ (newList [] >>= fun l' => again (.builtin "list.__iadd__" ⟨[l', .ref l], []⟩)) _ _ s
  refine wpAny_bind (wpAny_newList (wpAny_pure ⟨Code.quiet_builtin _ (by decide +kernel), codeAny_builtin entry_list_iadd' ?_⟩))
  have hne : s.heap.objs.size ≠ l := Nat.ne_of_gt (Heap.lt_size ho)
  show wpAny _ _ (Builtin.List.listExtendWith (.ref s.heap.objs.size) (.ref l) (.ref s.heap.objs.size)) _ _ { s with heap := s.heap.push (seqObj "list" #[] 0) }
  unfold Builtin.List.listExtendWith
  have ho' : (s.heap.push (seqObj "list" #[] 0)).get? l = some o := Heap.get?_push_of_some _ ho
  refine wpAny_bind (wpAny_typeOf (T := "tuple") ⟨o, ho', hc⟩ ?_)
  have t1 : (Value.type "tuple" == Value.type "list") = false := by decide
  have t2 : (Value.type "tuple" == Value.type "tuple") = true := by decide
  rw [if_pos (by rw [t1, t2]; simp)]
  refine wpAny_bind (listItems_at ho' hd ?_)
  have h0 : (s.heap.push (seqObj "list" #[] 0)).get? s.heap.objs.size = some (seqObj "list" #[] 0) := Heap.get?_push_size _ rfl
  refine wpAny_bind (listItems_at (xs := #[]) (n := 0) h0 rfl ?_)
  rw [if_neg (by simp)]
  have sz : (#[] ++ vs.toArray).size ≤ sizeLine + 1 := by
    simp only [Array.size_append, List.size_toArray, List.length_nil]
    omega
  refine wpAny_bind (listUpdate_at (xs := #[]) (n := 0) h0 rfl ?_ (Nat.zero_le _) sz)
  refine wpAny_pure ?_
  refine wpAny_bind (wpAny_load (get?_update_seq h0 _) ?_)
  show wpAny _ _ (pure ((#[] : Array Value) ++ vs.toArray).toList) Q E _
  have e : ((#[] : Array Value) ++ vs.toArray).toList = vs := by simp
  rw [e]
  exact wpAny_pure h
end

/-! ### the rule -/
abbrev tV (t : V × Value × List Int) : V × List Int := (t.1, t.2.2)
abbrev tU (t : V × Value × List Int) : Value × List Int := (t.2.1, t.2.2)
theorem trip : ∀ {bs : List (V × List Int)} {us : List Value}, Vals (bs.map (·.1)) us →
    ∃ ts : List (V × Value × List Int), bs = ts.map tV ∧ us = ts.map (·.2.1) ∧ ∀ t ∈ ts, RelV t.1 t.2.1
  | [], _, h => by
    have h' : Vals [] _ := h
    cases h'
    exact ⟨[], rfl, rfl, fun _ z => nomatch z⟩
  | c :: l, _, h => by
    have h' : Vals (c.1 :: l.map (·.1)) _ := h
    cases h' with
    | cons r t =>
      rename_i u us
      obtain ⟨ts, e1, e2, e3⟩ := trip t
      refine ⟨(c.1, u, c.2) :: ts, by rw [List.map_cons, ← e1], by rw [List.map_cons, ← e2], fun b hb => ?_⟩
      rcases List.mem_cons.mp hb with rfl | hb
      · exact r
      · exact e3 b hb

/-- rows: tuples of whole numbers, one at least -/
def RowAt (K : PySem.W.Frag) (H : Hp) (b : V × List Int) : Prop := ∃ t, b.1 = .ref t ∧ SqT K H t (b.2.map V.int) ∧ b.2 ≠ []
/-- what is sorted: a list or a tuple of rows, a set of them -/
def RowsIn (K : PySem.W.Frag) (P : Program) (w : World) (H : Hp) (a : Addr) (bs : List (V × List Int)) : Prop :=
  SqL K H a (bs.map (·.1)) ∨ SqT K H a (bs.map (·.1)) ∨
    ∃ L : List (Addr × List Int), H a = some (SetTO P w a L) ∧ bs = L.map fun p => (V.ref p.1, p.2)
def rSortRows (K : PySem.W.Frag) (P : Program) (w : World) : List V → Hp → VK → Prop := fun vs H Q =>
  ∃ a bs, vs = [.ref a] ∧ RowsIn K P w H a bs ∧ (∀ b ∈ bs, RowAt K H b) ∧
    ∀ (p : Addr) (bs' : List (V × List Int)), H p = none → bs'.Perm bs → (bs'.map (·.2)).Pairwise (· ≤ ·) → Q (.ref p) (upd H p (.lst (bs'.map (·.1))))

section
variable {X : Cx} {pins : List (Addr × Obj)} {σ : L2.St} {H : Hp} {s : Shared}
theorem row_reads (I : Inv X pins σ H s) {b : V × List Int} {u : Value} (r : RelV b.1 u) (h : RowAt X.K H b) : b.2 ≠ [] ∧ ∃ as, Reads s.heap u (encR b.2) as := by
  obtain ⟨t, e, ht, hne⟩ := h
  refine ⟨hne, ?_⟩
  have all : ∀ l : List Int, DpAll X.K H (l.map V.int) (l.map PyData.int) := by
    intro l
    induction l with
    | nil => exact .nil
    | cons i l ih => exact .cons (.int i) ih
  exact Dp.reads I (encR b.2) b.1 u (by rw [e]; exact .tup ht (all _)) r

/-- the end of each kind -/
theorem sort_fin (I : Inv X pins σ H s) (hu : X.A.units + 64 < cLine) {a : Addr} {Q : VK} {ts : List (V × Value × List Int)} (hz : ts.length ≤ sizeLine)
    (rel : ∀ t ∈ ts, RelV t.1 t.2.1) (hrow : ∀ b ∈ ts.map tV, RowAt X.K H b)
    (q : ∀ (p : Addr) (bs' : List (V × List Int)), H p = none → bs'.Perm (ts.map tV) → (bs'.map (·.2)).Pairwise (· ≤ ·) → Q (.ref p) (upd H p (.lst (bs'.map (·.1)))))
    (hcol : ∀ (E' : Value → Shared → Prop) (Q' : List Value → Shared → Prop),
      (∀ s' out, (∀ b o, s.heap.get? b = some o → s'.heap.get? b = some o) → s.heap.objs.size ≤ s'.heap.objs.size → s'.gens = s.gens → s'.os = s.os →
        out.Perm (ts.map (·.2.1)) → Q' out s') → wpAny (model X.prog X.w) X.A.in1 (collect (.ref a)) Q' E' s) :
    wpAny (model X.prog X.w) X.A (call (.builtin "sorted") [.ref a]) (EP X pins σ Q) X.xe s := by
  refine sorted_gather (bs := ts.map tU) (fun E' Q' k => hcol E' Q' fun s' out k1 z1 g1 o1 pm => k s' out k1 z1 g1 o1 (by rw [List.map_map]; exact pm))
    (fun b hb => ?_) (by rw [List.length_map]; exact hz) hu fun s' p c bs' k1 g1 o1 hp hg pm pw => ?_
  · obtain ⟨t, ht, rfl⟩ := List.mem_map.mp hb
    exact row_reads I (b := tV t) (rel t ht) (hrow _ (List.mem_map.mpr ⟨t, ht, rfl⟩))
  · obtain ⟨ts', e1, p1⟩ := perm_lift tU bs' ts pm
    subst e1
    have hn : H p = none := I.hok.fresh hp
    have rel' : ∀ l : List (V × Value × List Int), (∀ t ∈ l, t ∈ ts) → Vals ((l.map tV).map (·.1)) ((l.map tU).map (·.1)) := by
      intro l
      induction l with
      | nil => intro _; exact .nil
      | cons t l ih => intro hl; exact .cons (rel t (hl t List.mem_cons_self)) (ih fun b hb => hl b (List.mem_cons_of_mem _ hb))
    have hv := rel' ts' fun t ht => p1.mem_iff.mp ht
    have hlen : ((ts'.map tV).map (·.1)).length ≤ sizeLine := by
      rw [List.length_map, List.length_map, p1.length_eq]
      exact hz
    have J : Inv X pins σ (upd H p (.lst ((ts'.map tV).map (·.1)))) { s with heap := s'.heap, gens := s'.gens, drawn := s'.drawn, toks := s'.toks } :=
      I.call (ch := []) (Un.laid k1 hp hn) (I.hok.laid k1 hp ⟨hlen, _, c, hv, hg⟩) (by rw [g1]; exact I.bare) (fun _ z => nomatch z)
    have e : s' = { s with heap := s'.heap, gens := s'.gens, drawn := s'.drawn, toks := s'.toks } := by
      cases s'
      cases s
      cases o1
      rfl
    rw [e]
    refine ⟨.ref p, _, J, rfl, q p (ts'.map tV) hn (p1.map tV) ?_⟩
    have e2 : (ts'.map tV).map (·.2) = (ts'.map tU).map (·.2) := by rw [List.map_map, List.map_map]; rfl
    rw [e2]
    exact pw

theorem cr_sortRows (hc : X.calm = true) (hu : X.A.units + 64 < cLine) : CallR X (.builtin "sorted") (rSortRows X.K X.prog X.w) := by
  intro pins s σ H vs us Q I r h
  obtain ⟨a, bs, rfl, hin, hrow, q⟩ := h
  rw [Vals.ref1 r]
  rcases hin with hs | hs | ⟨L, hs, rfl⟩
  · obtain ⟨its, rv, pl, hz⟩ := I.list hs
    obtain ⟨ts, rfl, rfl, rel⟩ := trip rv
    have hz' : ts.length ≤ sizeLine := by rw [List.length_map, List.length_map] at hz; exact hz
    refine sort_fin I hu hz' rel hrow q fun E' Q' k => collect_list pl.isList ?_ (by rw [List.length_map]; exact hz')
    refine k _ _ (fun b o e => ?_) ?_ rfl rfl (List.Perm.refl _)
    · exact (Heap.get?_update_other _ _ (Nat.ne_of_gt (Heap.lt_size e))).trans (Heap.get?_push_of_some _ e)
    · show s.heap.objs.size ≤ (Heap.update _ _ _).objs.size
      rw [Heap.size_update, size_push']
      exact Nat.le_succ _
  · obtain ⟨its, rv, pl, hz⟩ := I.tuple hs
    obtain ⟨ts, rfl, rfl, rel⟩ := trip rv
    have hz' : ts.length ≤ sizeLine := by rw [List.length_map, List.length_map] at hz; exact hz
    refine sort_fin I hu hz' rel hrow q fun E' Q' k => collect_tup pl ?_ (by rw [List.length_map]; exact hz')
    refine k _ _ (fun b o e => ?_) ?_ rfl rfl (List.Perm.refl _)
    · exact (Heap.get?_update_other _ _ (Nat.ne_of_gt (Heap.lt_size e))).trans (Heap.get?_push_of_some _ e)
    · show s.heap.objs.size ≤ (Heap.update _ _ _).objs.size
      rw [Heap.size_update, size_push']
      exact Nat.le_succ _
  · have hk : ∀ p ∈ L, SqT X.K H p.1 (p.2.map V.int) := by
      intro p hp
      obtain ⟨t, e, ht, _⟩ := hrow _ (List.mem_map.mpr ⟨p, hp, rfl⟩)
      cases e
      exact ht
    have R0 : SetT0 X.prog X.w s.heap a L := (I.hok a _ hs).1
    obtain ⟨es, ep, t, R⟩ := R0.full fun p hp => I.isT (hk p hp)
    obtain ⟨o, ho, hex, hd⟩ := R.ob
    have hsz := R.size
    have hfew := R.few
    let ts : List (V × Value × List Int) := L.map fun p => (V.ref p.1, Value.ref p.1, p.2)
    have ets : L.map (fun p => (V.ref p.1, p.2)) = ts.map tV := by rw [List.map_map]; rfl
    rw [ets] at hrow q
    refine sort_fin I hu (ts := ts) (by rw [List.length_map, sizeLine_eq]; omega) (fun t ht => ?_) hrow q fun E' Q' k => ?_
    · obtain ⟨p, _, rfl⟩ := List.mem_map.mp ht
      exact rfl
    · refine collect_set (A := X.A.in1) (I.ok.hd hc) ⟨o, ho, hex.1, hd⟩ R.fits (by unfold scanBound; omega) R.tab.ris R.led fun s1 vs k1 hz g1 o1 pm => k s1 vs k1 hz g1 o1 ?_
      have hes : es.toList.map (·.2) = ts.map (·.2.1) := by
        rw [R.rows]
        unfold rowsOf
        rw [List.map_map, List.map_map] <;> rfl
      rw [← hes]
      exact pm

/-- sorted(s), s a set of rows -/
def rSortSet (K : PySem.W.Frag) (P : Program) (w : World) : List V → Hp → VK → Prop := fun vs H Q =>
  ∃ (a : Addr) (L : List (Addr × List Int)), vs = [.ref a] ∧ H a = some (SetTO P w a L) ∧ (∀ p ∈ L, SqT K H p.1 (p.2.map V.int) ∧ p.2 ≠ []) ∧
    ∀ (p : Addr) (bs' : List (V × List Int)), H p = none → bs'.Perm (L.map fun p => (V.ref p.1, p.2)) → (bs'.map (·.2)).Pairwise (· ≤ ·) → (L.map (·.2)).Nodup →
      Q (.ref p) (upd H p (.lst (bs'.map (·.1))))
theorem cr_sortSet (hc : X.calm = true) (hu : X.A.units + 64 < cLine) : CallR X (.builtin "sorted") (rSortSet X.K X.prog X.w) := by
  intro pins s σ H vs us Q I r h
  obtain ⟨a, L, e, hs, hk, q⟩ := h
  have R0 : SetT0 X.prog X.w s.heap a L := (I.hok a _ hs).1
  obtain ⟨es, ep, t, R⟩ := R0.full fun p hp => I.isT (hk p hp).1
  exact cr_sortRows hc hu pins s σ H vs us Q I r ⟨a, _, e, .inr (.inr ⟨L, hs, rfl⟩), fun b hb => by
    obtain ⟨p, hp, rfl⟩ := List.mem_map.mp hb
    exact ⟨p.1, rfl, (hk p hp).1, (hk p hp).2⟩, fun p bs' h1 h2 h3 => q p bs' h1 h2 h3 R.nd⟩
end
end GL

/-! min and max of a list of whole numbers, with default= -/
namespace GL
open PySem PySem.Spec PyProof.Rows L2
abbrev dkw (d : Value) : List (Str × Value) := [(Str.ofString "default", d)]

section
variable {prog : Program} {w : World} {A : Around} {E : Value → Shared → Prop} {s : Shared}
/-- how a built-in's own end is read -/
def EndR (prog : Program) (w : World) (A : Around) (Q E : Value → Shared → Prop) (fin : PySem.Fin) (s' : Shared) : Prop :=
  match fin with
  | .done f => (match (Except.ok f : Result) with | .ok (.ret v) => Q v s' | .ok _ => False | .error e => E e s')
  | .again c => c.quiet = true ∧ codeAny (model prog w) A c (fun r s' => match r with | .ok (.ret v) => Q v s' | .ok _ => False | .error e => E e s') s'
theorem call_treeK {id : String} {b : Builtin} {as : List Value} {kw : List (Str × Value)} {Q : Value → Shared → Prop} (k : builtinKind id = none) (p : plainId id = true)
    (e : entryFor table id = some b) (ok : argsOk id ⟨as, kw⟩) (run : wpAny (model prog w) A.in1 (b ⟨as, kw⟩) (EndR prog w A Q E) E s) :
    wpAny (model prog w) A (call (.builtin id) as kw) Q E s := by
  refine wpAny_call (codeAny_call_builtin p e ?_)
  simp only [checkBuiltinCall, k]
  cases sg : Manifest.signature? id with
  | none => exact wpAny_pure run
  | some sig =>
    have c : Bind.checkArgs id sig ⟨as, kw⟩ = pure () := by simpa only [argsOk, sg] using ok
    simp only [c]
    exact wpAny_pure run
end

section
variable {prog : Program} {w : World} {A : Around} {R : Result → Shared → Prop} {I : Addr} {fp wr : List Addr} {n : Nat}
  {P : Nat → Value → Prop} {St : Nat → Heap → Prop}
theorem dl_min (W : Walks prog w A.in1 I fp wr n P St) (bt : Nat → Nat → Bool) (cmp : CmpOf prog w A.in1 .Lt P bt) (S : Addr) (off : S ∉ fp) (d : Value) :
    ∀ (k j : Nat) (s : Shared) (vb : Value) (c : Nat), n - (j + 1) = k → j + 1 ≤ n → St (j + 1) s.heap → P (argBest bt j) vb →
    s.heap.get? S = some { cls := .type "list", dict := none, data := .seq #[vb, vb] c, slots := #[] } →
    (∀ v h' tk, P (argBest bt (n - 1)) v → (∀ b o, b ∉ wr → b ≠ S → s.heap.get? b = some o → h'.get? b = some o) →
      R (.ok (.ret v)) { s with heap := h', toks := tk }) →
    codeAny (model prog w) A (.builtin "min.loop" ⟨[.ref I, .none, .ref S], dkw d⟩) R s := by
  have offW : S ∉ wr := fun z => off (W.sub _ z)
  have nm : (toString "min" ++ toString ".loop" : String) = "min.loop" := by decide
  intro k
  induction k with
  | zero =>
    intro j s vb c hk hj hst hb hS hR
    have hin : j + 1 = n := by omega
    refine codeAny_builtin F.entry_min_loop ?_
    rw [Around.under_plainId F.plain_min_loop _]
    show wpAny _ A.in1 (seqItems? (.ref S) >>= _) _ _ s
    refine wpAny_bind (wpAny_seqItems hS rfl ?_)
    show wpAny _ A.in1 (tryCatch (pyNext (.ref I)) _ >>= _) _ _ s
    refine wpAny_bind (wpAny_tryCatch (W.done s _ _ (hin ▸ hst) fun h' tk keep => ?_))
    have hS' := keep S _ offW hS
    show wpAny _ A.in1 (updateSeq S (fun _ => #[]) >>= _) _ _ _
    refine wpAny_bind ?_
    refine wpAny_updateSeq hS' rfl (wpAny_bind (wpAny_letGo (wpAny_pure ?_)))
    rw [← hin] at hR
    exact hR vb _ tk hb fun b o h1 h2 e => (Heap.get?_update_other _ _ (Ne.symm h2)).trans (keep b o h1 e)
  | succ k ih =>
    intro j s vb c hk hj hst hb hS hR
    have hlt : j + 1 < n := by omega
    refine codeAny_builtin F.entry_min_loop ?_
    rw [Around.under_plainId F.plain_min_loop _]
    show wpAny _ A.in1 (seqItems? (.ref S) >>= _) _ _ s
    refine wpAny_bind (wpAny_seqItems hS rfl ?_)
    show wpAny _ A.in1 (tryCatch (pyNext (.ref I)) _ >>= _) _ _ s
    refine wpAny_bind (wpAny_tryCatch (W.item (j + 1) s _ _ hlt hst fun v h' tk hv hst' keep => ?_))
    have hS' := keep S _ offW hS
    show wpAny _ A.in1 (tryCatch (holding [v, v] (richCompare .Lt v vb >>= _)) _ >>= _) _ _ _
    refine wpAny_bind (wpAny_tryCatch (wpAny_holding (wpAny_bind (cmp (j + 1) (argBest bt j) v vb _ _ _ hv hb ?_))))
    refine wpAny_bind (wpAny_holding (wpAny_truthy_bool ?_))
    refine wpAny_bind (wpAny_letGo (wpAny_pure ?_))
    cases q : bt (j + 1) (argBest bt j) with
    | true =>
      simp only [if_true]
      refine wpAny_bind ?_
      refine wpAny_updateSeq hS' rfl (wpAny_bind (wpAny_letGo ?_))
      rw [nm]
      have st2 := W.frame _ _ (h'.update S (Obj.mapSeq fun _ => #[v, v])) hst' fun b hbf o e =>
        (Heap.get?_update_other _ _ (fun z : S = b => off (by rw [z]; exact hbf))).trans e
      refine wpAny_pure ⟨plainId_quiet F.plain_min_loop _, ih (j + 1) _ v _ (by omega) hlt st2 (by simp only [argBest, q, if_true]; exact hv)
        (Heap.get?_update_self _ hS' rfl) fun v' h'' tk'' hP' keep' => ?_⟩
      exact hR v' h'' tk'' hP' fun b o h1 h2 e => keep' b o h1 h2 ((Heap.get?_update_other _ _ (Ne.symm h2)).trans (keep b o h1 e))
    | false =>
      simp only [Bool.false_eq_true, if_false]
      refine wpAny_bind (wpAny_letGo ?_)
      rw [nm]
      refine wpAny_pure ⟨plainId_quiet F.plain_min_loop _, ih (j + 1) _ vb c (by omega) hlt hst'
        (by simp only [argBest, q, Bool.false_eq_true, if_false]; exact hb) hS' fun v' h'' tk'' hP' keep' => ?_⟩
      exact hR v' h'' tk'' hP' fun b o h1 h2 e => keep' b o h1 h2 (keep b o h1 e)

theorem dl_min0 (W : Walks prog w A.in1 I fp wr n P St) (bt : Nat → Nat → Bool) (cmp : CmpOf prog w A.in1 .Lt P bt) (S : Addr) (off : S ∉ fp) (d : Value)
    {s : Shared} {c : Nat} (hst : St 0 s.heap) (hS : s.heap.get? S = some { cls := .type "list", dict := none, data := .seq #[] c, slots := #[] })
    (hR : ∀ v h' tk, (n = 0 → v = d) → (0 < n → P (argBest bt (n - 1)) v) → (∀ b o, b ∉ wr → b ≠ S → s.heap.get? b = some o → h'.get? b = some o) →
      R (.ok (.ret v)) { s with heap := h', toks := tk }) :
    codeAny (model prog w) A (.builtin "min.loop" ⟨[.ref I, .none, .ref S], dkw d⟩) R s := by
  have offW : S ∉ wr := fun z => off (W.sub _ z)
  have nm : (toString "min" ++ toString ".loop" : String) = "min.loop" := by decide
  refine codeAny_builtin F.entry_min_loop ?_
  rw [Around.under_plainId F.plain_min_loop _]
  show wpAny _ A.in1 (seqItems? (.ref S) >>= _) _ _ s
  refine wpAny_bind (wpAny_seqItems hS rfl ?_)
  show wpAny _ A.in1 (tryCatch (pyNext (.ref I)) _ >>= _) _ _ s
  by_cases hn : 0 < n
  · refine wpAny_bind (wpAny_tryCatch (W.item 0 s _ _ hn hst fun v h' tk hv hst' keep => ?_))
    have hS' := keep S _ offW hS
    show wpAny _ A.in1 (updateSeq S (fun _ => #[v, v]) >>= _) _ _ _
    refine wpAny_bind ?_
    refine wpAny_updateSeq hS' rfl ?_
    rw [nm]
    have st2 := W.frame _ _ (h'.update S (Obj.mapSeq fun _ => #[v, v])) hst' fun b hbf o e =>
      (Heap.get?_update_other _ _ (fun z : S = b => off (by rw [z]; exact hbf))).trans e
    refine wpAny_pure ⟨plainId_quiet F.plain_min_loop _, dl_min W bt cmp S off d _ 0 _ v _ rfl hn st2 hv (Heap.get?_update_self _ hS' rfl) fun v' h'' tk'' hP' keep' => ?_⟩
    exact hR v' h'' tk'' (fun z => by omega) (fun _ => hP') fun b o h1 h2 e => keep' b o h1 h2 ((Heap.get?_update_other _ _ (Ne.symm h2)).trans (keep b o h1 e))
  · have h0 : 0 = n := by omega
    refine wpAny_bind (wpAny_tryCatch (W.done s _ _ (h0 ▸ hst) fun h' tk keep => ?_))
    show wpAny _ A.in1 (rule _ >>= _) _ _ _
    refine wpAny_bind (wpAny_rule ?_)
    exact wpAny_pure (hR d h' tk (fun _ => rfl) (fun z => absurd z hn) fun b o h1 _ e => keep b o h1 e)
end

section
variable {prog : Program} {w : World} {A : Around} {E : Value → Shared → Prop} {s : Shared}
theorem args_mind (a d : Value) : argsOk "min" ⟨[a], dkw d⟩ := by unfold argsOk; kernel_rfl
theorem min_dflt {l : Addr} {its : List Value} {ns : List Int} {d : Value} {Q : Value → Shared → Prop} (hh : A.handled = none)
    (hl : s.heap.IsList l its.toArray) (hi : IntsAre its ns)
    (h : ∀ v h' tk, (ns = [] → v = d) → (ns ≠ [] → ∃ M t, v = .int M t ∧ M ∈ ns ∧ ∀ a ∈ ns, M ≤ a) → (∀ b o, s.heap.get? b = some o → h'.get? b = some o) →
      Q v { s with heap := h', toks := tk }) :
    wpAny (model prog w) A (call (.builtin "min") [.ref l] (dkw d)) Q E s := by
  have nm : (toString "min" ++ toString ".loop" : String) = "min.loop" := by decide
  obtain ⟨xs, e⟩ := hi.allInts.items
  have hn : numsOf (intItems xs).toList = ns := by rw [← e]; exact hi.numsOf
  rw [nums_intItems] at hn
  subst hn
  rw [e] at hl
  refine call_treeK F.kind_min F.plain_min F.entry_min (args_mind _ _) ?_
  show wpAny _ A.in1 (Builtin.Builtins.bindParams "min" ["key", "default"] 0 ⟨[], dkw d⟩ >>= _) _ _ s
  refine wpAny_bind (wpAny_of_eq (show Builtin.Builtins.bindParams "min" ["key", "default"] 0 ⟨[], dkw d⟩ = pure [none, some d] from rfl) ?_)
  refine wpAny_bind (wpAny_pure ?_)
  refine wpAny_bind (iter_intList hl fun s2 es st hfp hlI => ?_)
  subst es
  refine wpAny_bind (wpAny_newObj_type ?_)
  rw [nm]
  have W := Walks.list (prog := prog) (w := w) (A := A.in1) hh _ l hlI (intItems xs)
  refine wpAny_pure ⟨plainId_quiet F.plain_min_loop _, dl_min0 W _ (CmpOf.ints_lt (numAt xs) (fun _ _ => intItems_at)) _ (fun z => Nat.lt_irrefl _ (hfp _ z)) d
    (W.frame _ _ _ st fun b _ o e => Heap.get?_push_of_some _ e) (Heap.get?_push_size _ rfl) fun v h' tk h0 h1 keep => ?_⟩
  have hz : (intItems xs).size = xs.size := by simp [intItems]
  refine h v h' tk (fun z => h0 ?_) (fun z => ?_) ?_
  · have z2 := congrArg List.length z
    rw [List.length_map, Array.length_toList] at z2
    rw [hz]
    exact z2
  · have hp : 0 < xs.size := by
      cases q : xs.toList with
      | nil => rw [q] at z; exact absurd rfl z
      | cons a r =>
        rw [← Array.length_toList, q]
        exact Nat.succ_pos _
    have hv := h1 (by rw [hz]; exact hp)
    rw [hz] at hv
    obtain ⟨t, rfl⟩ := intItems_at hv
    obtain ⟨g1, g2⟩ := argBest_lt (numAt xs) (xs.size - 1)
    refine ⟨_, t, rfl, ?_, fun a ha => ?_⟩
    · rw [numAt_eq]
      exact PySem.getD_mem (by rw [List.length_map, Array.length_toList]; omega)
    · obtain ⟨j, hj, rfl⟩ := mem_getD ha
      rw [List.length_map, Array.length_toList] at hj
      rw [← numAt_eq]
      exact g2 j (by omega)
  · exact old_kept fun b o hb e2 => keep b o hb (Nat.ne_of_lt (Heap.lt_size e2)) (Heap.get?_push_of_some _ e2)
end

section
variable {prog : Program} {w : World} {A : Around} {R : Result → Shared → Prop} {I : Addr} {fp wr : List Addr} {n : Nat}
  {P : Nat → Value → Prop} {St : Nat → Heap → Prop}
theorem dl_max (W : Walks prog w A.in1 I fp wr n P St) (bt : Nat → Nat → Bool) (cmp : CmpOf prog w A.in1 .Gt P bt) (S : Addr) (off : S ∉ fp) (d : Value) :
    ∀ (k j : Nat) (s : Shared) (vb : Value) (c : Nat), n - (j + 1) = k → j + 1 ≤ n → St (j + 1) s.heap → P (argBest bt j) vb →
    s.heap.get? S = some { cls := .type "list", dict := none, data := .seq #[vb, vb] c, slots := #[] } →
    (∀ v h' tk, P (argBest bt (n - 1)) v → (∀ b o, b ∉ wr → b ≠ S → s.heap.get? b = some o → h'.get? b = some o) →
      R (.ok (.ret v)) { s with heap := h', toks := tk }) →
    codeAny (model prog w) A (.builtin "max.loop" ⟨[.ref I, .none, .ref S], dkw d⟩) R s := by
  have offW : S ∉ wr := fun z => off (W.sub _ z)
  have nm : (toString "max" ++ toString ".loop" : String) = "max.loop" := by decide
  intro k
  induction k with
  | zero =>
    intro j s vb c hk hj hst hb hS hR
    have hin : j + 1 = n := by omega
    refine codeAny_builtin F.entry_max_loop ?_
    rw [Around.under_plainId F.plain_max_loop _]
    show wpAny _ A.in1 (seqItems? (.ref S) >>= _) _ _ s
    refine wpAny_bind (wpAny_seqItems hS rfl ?_)
    show wpAny _ A.in1 (tryCatch (pyNext (.ref I)) _ >>= _) _ _ s
    refine wpAny_bind (wpAny_tryCatch (W.done s _ _ (hin ▸ hst) fun h' tk keep => ?_))
    have hS' := keep S _ offW hS
    show wpAny _ A.in1 (updateSeq S (fun _ => #[]) >>= _) _ _ _
    refine wpAny_bind ?_
    refine wpAny_updateSeq hS' rfl (wpAny_bind (wpAny_letGo (wpAny_pure ?_)))
    rw [← hin] at hR
    exact hR vb _ tk hb fun b o h1 h2 e => (Heap.get?_update_other _ _ (Ne.symm h2)).trans (keep b o h1 e)
  | succ k ih =>
    intro j s vb c hk hj hst hb hS hR
    have hlt : j + 1 < n := by omega
    refine codeAny_builtin F.entry_max_loop ?_
    rw [Around.under_plainId F.plain_max_loop _]
    show wpAny _ A.in1 (seqItems? (.ref S) >>= _) _ _ s
    refine wpAny_bind (wpAny_seqItems hS rfl ?_)
    show wpAny _ A.in1 (tryCatch (pyNext (.ref I)) _ >>= _) _ _ s
    refine wpAny_bind (wpAny_tryCatch (W.item (j + 1) s _ _ hlt hst fun v h' tk hv hst' keep => ?_))
    have hS' := keep S _ offW hS
    show wpAny _ A.in1 (tryCatch (holding [v, v] (richCompare .Gt v vb >>= _)) _ >>= _) _ _ _
    refine wpAny_bind (wpAny_tryCatch (wpAny_holding (wpAny_bind (cmp (j + 1) (argBest bt j) v vb _ _ _ hv hb ?_))))
    refine wpAny_bind (wpAny_holding (wpAny_truthy_bool ?_))
    refine wpAny_bind (wpAny_letGo (wpAny_pure ?_))
    cases q : bt (j + 1) (argBest bt j) with
    | true =>
      simp only [if_true]
      refine wpAny_bind ?_
      refine wpAny_updateSeq hS' rfl (wpAny_bind (wpAny_letGo ?_))
      rw [nm]
      have st2 := W.frame _ _ (h'.update S (Obj.mapSeq fun _ => #[v, v])) hst' fun b hbf o e =>
        (Heap.get?_update_other _ _ (fun z : S = b => off (by rw [z]; exact hbf))).trans e
      refine wpAny_pure ⟨plainId_quiet F.plain_max_loop _, ih (j + 1) _ v _ (by omega) hlt st2 (by simp only [argBest, q, if_true]; exact hv)
        (Heap.get?_update_self _ hS' rfl) fun v' h'' tk'' hP' keep' => ?_⟩
      exact hR v' h'' tk'' hP' fun b o h1 h2 e => keep' b o h1 h2 ((Heap.get?_update_other _ _ (Ne.symm h2)).trans (keep b o h1 e))
    | false =>
      simp only [Bool.false_eq_true, if_false]
      refine wpAny_bind (wpAny_letGo ?_)
      rw [nm]
      refine wpAny_pure ⟨plainId_quiet F.plain_max_loop _, ih (j + 1) _ vb c (by omega) hlt hst'
        (by simp only [argBest, q, Bool.false_eq_true, if_false]; exact hb) hS' fun v' h'' tk'' hP' keep' => ?_⟩
      exact hR v' h'' tk'' hP' fun b o h1 h2 e => keep' b o h1 h2 (keep b o h1 e)

theorem dl_max0 (W : Walks prog w A.in1 I fp wr n P St) (bt : Nat → Nat → Bool) (cmp : CmpOf prog w A.in1 .Gt P bt) (S : Addr) (off : S ∉ fp) (d : Value)
    {s : Shared} {c : Nat} (hst : St 0 s.heap) (hS : s.heap.get? S = some { cls := .type "list", dict := none, data := .seq #[] c, slots := #[] })
    (hR : ∀ v h' tk, (n = 0 → v = d) → (0 < n → P (argBest bt (n - 1)) v) → (∀ b o, b ∉ wr → b ≠ S → s.heap.get? b = some o → h'.get? b = some o) →
      R (.ok (.ret v)) { s with heap := h', toks := tk }) :
    codeAny (model prog w) A (.builtin "max.loop" ⟨[.ref I, .none, .ref S], dkw d⟩) R s := by
  have offW : S ∉ wr := fun z => off (W.sub _ z)
  have nm : (toString "max" ++ toString ".loop" : String) = "max.loop" := by decide
  refine codeAny_builtin F.entry_max_loop ?_
  rw [Around.under_plainId F.plain_max_loop _]
  show wpAny _ A.in1 (seqItems? (.ref S) >>= _) _ _ s
  refine wpAny_bind (wpAny_seqItems hS rfl ?_)
  show wpAny _ A.in1 (tryCatch (pyNext (.ref I)) _ >>= _) _ _ s
  by_cases hn : 0 < n
  · refine wpAny_bind (wpAny_tryCatch (W.item 0 s _ _ hn hst fun v h' tk hv hst' keep => ?_))
    have hS' := keep S _ offW hS
    show wpAny _ A.in1 (updateSeq S (fun _ => #[v, v]) >>= _) _ _ _
    refine wpAny_bind ?_
    refine wpAny_updateSeq hS' rfl ?_
    rw [nm]
    have st2 := W.frame _ _ (h'.update S (Obj.mapSeq fun _ => #[v, v])) hst' fun b hbf o e =>
      (Heap.get?_update_other _ _ (fun z : S = b => off (by rw [z]; exact hbf))).trans e
    refine wpAny_pure ⟨plainId_quiet F.plain_max_loop _, dl_max W bt cmp S off d _ 0 _ v _ rfl hn st2 hv (Heap.get?_update_self _ hS' rfl) fun v' h'' tk'' hP' keep' => ?_⟩
    exact hR v' h'' tk'' (fun z => by omega) (fun _ => hP') fun b o h1 h2 e => keep' b o h1 h2 ((Heap.get?_update_other _ _ (Ne.symm h2)).trans (keep b o h1 e))
  · have h0 : 0 = n := by omega
    refine wpAny_bind (wpAny_tryCatch (W.done s _ _ (h0 ▸ hst) fun h' tk keep => ?_))
    show wpAny _ A.in1 (rule _ >>= _) _ _ _
    refine wpAny_bind (wpAny_rule ?_)
    exact wpAny_pure (hR d h' tk (fun _ => rfl) (fun z => absurd z hn) fun b o h1 _ e => keep b o h1 e)
end

section
variable {prog : Program} {w : World} {A : Around} {E : Value → Shared → Prop} {s : Shared}
theorem args_maxd (a d : Value) : argsOk "max" ⟨[a], dkw d⟩ := by unfold argsOk; kernel_rfl
theorem max_dflt {l : Addr} {its : List Value} {ns : List Int} {d : Value} {Q : Value → Shared → Prop} (hh : A.handled = none)
    (hl : s.heap.IsList l its.toArray) (hi : IntsAre its ns)
    (h : ∀ v h' tk, (ns = [] → v = d) → (ns ≠ [] → ∃ M t, v = .int M t ∧ M ∈ ns ∧ ∀ a ∈ ns, a ≤ M) → (∀ b o, s.heap.get? b = some o → h'.get? b = some o) →
      Q v { s with heap := h', toks := tk }) :
    wpAny (model prog w) A (call (.builtin "max") [.ref l] (dkw d)) Q E s := by
  have nm : (toString "max" ++ toString ".loop" : String) = "max.loop" := by decide
  obtain ⟨xs, e⟩ := hi.allInts.items
  have hn : numsOf (intItems xs).toList = ns := by rw [← e]; exact hi.numsOf
  rw [nums_intItems] at hn
  subst hn
  rw [e] at hl
  refine call_treeK F.kind_max F.plain_max F.entry_max (args_maxd _ _) ?_
  show wpAny _ A.in1 (Builtin.Builtins.bindParams "max" ["key", "default"] 0 ⟨[], dkw d⟩ >>= _) _ _ s
  refine wpAny_bind (wpAny_of_eq (show Builtin.Builtins.bindParams "max" ["key", "default"] 0 ⟨[], dkw d⟩ = pure [none, some d] from rfl) ?_)
  refine wpAny_bind (wpAny_pure ?_)
  refine wpAny_bind (iter_intList hl fun s2 es st hfp hlI => ?_)
  subst es
  refine wpAny_bind (wpAny_newObj_type ?_)
  rw [nm]
  have W := Walks.list (prog := prog) (w := w) (A := A.in1) hh _ l hlI (intItems xs)
  refine wpAny_pure ⟨plainId_quiet F.plain_max_loop _, dl_max0 W _ (CmpOf.ints_gt (numAt xs) (fun _ _ => intItems_at)) _ (fun z => Nat.lt_irrefl _ (hfp _ z)) d
    (W.frame _ _ _ st fun b _ o e => Heap.get?_push_of_some _ e) (Heap.get?_push_size _ rfl) fun v h' tk h0 h1 keep => ?_⟩
  have hz : (intItems xs).size = xs.size := by simp [intItems]
  refine h v h' tk (fun z => h0 ?_) (fun z => ?_) ?_
  · have z2 := congrArg List.length z
    rw [List.length_map, Array.length_toList] at z2
    rw [hz]
    exact z2
  · have hp : 0 < xs.size := by
      cases q : xs.toList with
      | nil => rw [q] at z; exact absurd rfl z
      | cons a r =>
        rw [← Array.length_toList, q]
        exact Nat.succ_pos _
    have hv := h1 (by rw [hz]; exact hp)
    rw [hz] at hv
    obtain ⟨t, rfl⟩ := intItems_at hv
    obtain ⟨g1, g2⟩ := argBest_gt (numAt xs) (xs.size - 1)
    refine ⟨_, t, rfl, ?_, fun a ha => ?_⟩
    · rw [numAt_eq]
      exact PySem.getD_mem (by rw [List.length_map, Array.length_toList]; omega)
    · obtain ⟨j, hj, rfl⟩ := mem_getD ha
      rw [List.length_map, Array.length_toList] at hj
      rw [← numAt_eq]
      exact g2 j (by omega)
  · exact old_kept fun b o hb e2 => keep b o hb (Nat.ne_of_lt (Heap.lt_size e2)) (Heap.get?_push_of_some _ e2)
end

/-- min(xs, default=d), xs a list of whole numbers -/
def rBestD (K : PySem.W.Frag) (le : Int → Int → Prop) : List V → List V → Hp → VK → Prop := fun vs zs H Q =>
  ∃ (a : Addr) (ns : List Int), vs = [.ref a] ∧ zs = [.non] ∧ SqL K H a (ns.map V.int) ∧
    (ns = [] → Q .non H) ∧ ∀ M, M ∈ ns → (∀ z ∈ ns, le M z) → Q (.int M) H
theorem cr_minD {X : Cx} (hc : X.calm = true) : CallRK X (.builtin "min") [Str.ofString "default"] (rBestD X.K (fun m z => m ≤ z)) := by
  intro pins s σ H vs zs us ws Q I r rz h
  obtain ⟨a, ns, rfl, rfl, hs, q0, q1⟩ := h
  obtain ⟨its, rv, hl, _⟩ := I.list hs
  rw [Vals.ref1 r]
  cases rz with
  | cons rd rn =>
    cases rn
    cases rd
    refine min_dflt (I.ok.hd hc) hl.isList rv.ints fun v h' tk e0 e1 keep => ?_
    by_cases hn : ns = []
    · rw [e0 hn]
      exact ⟨.non, H, I.kept keep, rfl, q0 hn⟩
    · obtain ⟨M, t, rfl, hm, hle⟩ := e1 hn
      exact ⟨.int M, H, I.kept keep, ⟨_, rfl⟩, q1 M hm hle⟩
theorem cr_maxD {X : Cx} (hc : X.calm = true) : CallRK X (.builtin "max") [Str.ofString "default"] (rBestD X.K (fun m z => z ≤ m)) := by
  intro pins s σ H vs zs us ws Q I r rz h
  obtain ⟨a, ns, rfl, rfl, hs, q0, q1⟩ := h
  obtain ⟨its, rv, hl, _⟩ := I.list hs
  rw [Vals.ref1 r]
  cases rz with
  | cons rd rn =>
    cases rn
    cases rd
    refine max_dflt (I.ok.hd hc) hl.isList rv.ints fun v h' tk e0 e1 keep => ?_
    by_cases hn : ns = []
    · rw [e0 hn]
      exact ⟨.non, H, I.kept keep, rfl, q0 hn⟩
    · obtain ⟨M, t, rfl, hm, hle⟩ := e1 hn
      exact ⟨.int M, H, I.kept keep, ⟨_, rfl⟩, q1 M hm hle⟩
end GL

/-! defs by their names, over the guard layer; the draws of a law -/
namespace GL
open PySem PySem.Spec PyProof.Rows L2

/-- a def of the text as the top leaves it -/
structure DefAt (K : PySem.W.Frag) (mg : Str → Option Value) (x : Str) (st : Stmt) (ps : List Str) : Prop where
  ex : ∃ f fd, L2.Fun K x x st f fd ∧ mg x = some (.ref f) ∧ Binds K fd ps []
/-- a def that may be called -/
structure Cal (P : Program) (w : World) (K : PySem.W.Frag) (mg : Str → Option Value) (base : Heap) (k : Nat) (x : Str) (sp : Sp) : Prop where
  ex : ∃ f fd ps, Fn0 P w K mg base CX0 k f fd ps sp ∧ mg x = some (.ref f) ∧ PySem.W.keepIn K (.ref f) = true ∧ Binds K fd ps []

section
variable {P : Program} {w : World} {K : PySem.W.Frag} {mg : Str → Option Value} {base : Heap}
theorem cal_mk {x : Str} {st : Stmt} {N ps : List Str} {k : Nat} {sp : Sp} (D : DefAt K mg x st ps) (S : FnScope N ps (defScope st))
    (len : ∀ vs H Q E, sp vs H Q E → vs.length = ps.length)
    (body : ∀ (f : Addr) (cdv : Value) (A : Around) (outer : List Env) (s : Shared) (H : Hp) (vs : List V) (Q : VK) (E : XK),
      A.guards = some [] → Room k (A.deeper (envOfC x (defScope st) s.heap.objs.size f cdv)) → sp vs H Q E →
      ∃ t, PSs (cxOf CX0 P w K mg base N x (defScope st) f cdv A outer s H E).nox (defBody st) t ∧
        t { nx := fun _ H' => Q .non H', rt := Q } (start N vs) H) :
    Cal P w K mg base (k + 1) x sp := by
  obtain ⟨f, fd, F, m, b⟩ := D.ex
  exact ⟨f, fd, ps, fn0_of F S len (fun cdv A outer s H vs Q E hG hr h => body f cdv A outer s H vs Q E hG hr h), m, F.kp, b⟩
end

section
variable {X : Cx} {k j : Nat} {x : Str} {sp : Sp} {p pos : Pos} {e : Expr} {es : List Expr} {t : TA}
/-- f(e, ..) -/
theorem pe_cg (c : Cal X.prog X.w X.K X.mg X.base k x sp) (hG : X.A.guards = some []) (hr : Room j X.A) (hk : k ≤ j) (hg : Gl X x) (ha : PA X (e :: es) t)
    (hdb : (x == ("__debug__" : Str)) = false := by decide) (he : starEach (e :: es) X.env = (false, eval e X.env) :: starEach es X.env := by rfl)
    (hpl : (backTo pos (starEach es X.env)).any (·.1) = false := by rfl) :
    PE X (.Call (.Name x p) (e :: es) [] pos) (tCall sp [] (fun _ _ _ => False) t) := by
  obtain ⟨f, fd, ps, F, m, kp, b⟩ := c.ex
  exact pe_call0g F hG (hr.mono hk) hg m kp b .nil pass0 ha hdb he hpl
/-- xs[i], for xs[i] += e -/
theorem pg_list : PGet X (fun x y H Q => ∃ p xs i v, x = .ref p ∧ y = .int i ∧ SqL X.K H p xs ∧ 0 ≤ i ∧ xs[i.toNat]? = some v ∧ Q v H) := by
  intro pins s σ H o i ov iv Q I ro ri h
  obtain ⟨p, xs, n, v, rfl, rfl, hq, h0, hv, q⟩ := h
  cases ro
  obtain ⟨t, rfl⟩ := ri
  obtain ⟨its, r, pl, hz⟩ := I.list hq
  obtain ⟨u, hu, ru⟩ := r.get hv
  have hl := r.length
  have hn := line63
  have hlt : n.toNat < its.length := (List.getElem?_eq_some_iff.mp hu).1
  exact wpAny_getItem_list pl.isList h0 (by omega) (by simpa using hu) ⟨v, H, I, ru, q⟩
end

/-! ### heaps -/
/-- all stays but what stands at b -/
def Kp (b : Addr) (H H' : Hp) : Prop := ∀ q o, q ≠ b → H q = some o → H' q = some o
theorem Kp.refl (b : Addr) (H : Hp) : Kp b H H := fun _ _ _ e => e
theorem Kp.trans {b : Addr} {H H' H'' : Hp} (a : Kp b H H') (c : Kp b H' H'') : Kp b H H'' := fun q o n e => c q o n (a q o n e)
theorem Kp.new {b p : Addr} {H : Hp} {o : HO} (h : H p = none) : Kp b H (upd H p o) := fun q u _ e => by
  rw [upd_ne (ne_of_none e h)]
  exact e
theorem Kp.at {b : Addr} {H : Hp} {o : HO} : Kp b H (upd H b o) := fun q u n e => by rw [upd_ne n]; exact e
theorem Kp.tup {b : Addr} {H H' : Hp} (k : Kp b H H') {xs : List V} {t : Addr} {ys : List V} (hb : H b = some (.lst xs)) (h : H t = some (.tup ys)) : H' t = some (.tup ys) :=
  k t _ (ne_of h hb (by intro z; cases z)) h
theorem Kp.sqT {b : Addr} {H H' : Hp} {K : PySem.W.Frag} (k : Kp b H H') {xs : List V} {t : Addr} {ys : List V} (hb : H b = some (.lst xs)) (h : SqT K H t ys) : SqT K H' t ys := by
  rcases h with (h | ⟨o, h⟩) | h
  · exact .inl (.inl (k.tup hb h))
  · exact .inl (.inr ⟨o, k t _ (ne_of h hb (by intro z; cases z)) h⟩)
  · exact .inr h
theorem Kp.sqL {b a : Addr} {H H' : Hp} {K : PySem.W.Frag} (k : Kp b H H') {ys : List V} (hb : a ≠ b) (h : SqL K H a ys) : SqL K H' a ys := by
  rcases h with (h | ⟨o, h⟩) | h
  · exact .inl (.inl (k a _ hb h))
  · exact .inl (.inr ⟨o, k a _ hb h⟩)
  · exact .inr h

theorem put_new {p : Addr} {H : Hp} (h : H p = none) (o : HO) : Same H (upd H p o) := fun q u e => by
  rw [upd_ne (ne_of_none e h)]
  exact e
/-! ### the draws -/
/-- a law's bag stands at b -/
def Bag (H : Hp) (b c : Addr) : Prop := ∃ (s0 s1 s2 : Int) (ns : List Int),
  H b = some (.lst [.int s0, .int s1, .int s2, .ref c]) ∧ H c = some (.lst (ns.map V.int)) ∧ 0 ≤ s1 ∧ s1 < 2147483647 ∧ ns.length ≤ 1000
theorem Bag.lst {H : Hp} {b c : Addr} (h : Bag H b c) : ∃ xs, H b = some (.lst xs) := by
  obtain ⟨_, _, _, _, h, _⟩ := h
  exact ⟨_, h⟩
theorem Bag.cne {H : Hp} {b c : Addr} {s0 s1 s2 : Int} {ns : List Int} (h : H b = some (.lst [.int s0, .int s1, .int s2, .ref c])) (h' : H c = some (.lst (ns.map V.int))) : c ≠ b := by
  refine ne_of h' h fun z => ?_
  have z1 : ns.map V.int = [.int s0, .int s1, .int s2, .ref c] := HO.lst.inj z
  have z2 : V.ref c ∈ ns.map V.int := by rw [z1]; simp
  obtain ⟨n, _, e⟩ := List.mem_map.mp z2
  cases e
theorem Bag.cell {H : Hp} {b c : Addr} (h : Bag H b c) : c ≠ b ∧ ∃ ns : List Int, H c = some (.lst (ns.map V.int)) := by
  obtain ⟨_, _, _, ns, h1, h2, _⟩ := h
  exact ⟨Bag.cne h1 h2, ns, h2⟩
/-- a thing that is not the bag's changes -/
theorem Bag.other {H : Hp} {b c p : Addr} {o : HO} (h : Bag H b c) (h1 : p ≠ b) (h2 : p ≠ c) : Bag (upd H p o) b c := by
  obtain ⟨s0, s1, s2, ns, g1, g2, g3⟩ := h
  exact ⟨s0, s1, s2, ns, by rw [upd_ne h1.symm]; exact g1, by rw [upd_ne h2.symm]; exact g2, g3⟩
/-- nothing but new things: the bag stays -/
theorem Bag.new {H : Hp} {b c p : Addr} {o : HO} (h : Bag H b c) (hp : H p = none) : Bag (upd H p o) b c := by
  obtain ⟨s0, s1, s2, ns, h1, h2, h3⟩ := h
  exact ⟨s0, s1, s2, ns, by rw [upd_ne (ne_of_none h1 hp)]; exact h1, by rw [upd_ne (ne_of_none h2 hp)]; exact h2, h3⟩
theorem Bag.same {H H' : Hp} {b c : Addr} (h : Bag H b c) (k : Same H H') : Bag H' b c := by
  obtain ⟨s0, s1, s2, ns, h1, h2, h3⟩ := h
  exact ⟨s0, s1, s2, ns, k _ _ h1, k _ _ h2, h3⟩
theorem Kp.of {b : Addr} {H H' : Hp} (k : Same H H') : Kp b H H' := fun q o _ e => k q o e

theorem cut_ints (ns : List Int) (lo hi : Option Int) : ∃ ms : List Int, cutV (ns.map V.int) lo hi = ms.map V.int := by
  unfold cutV
  exact ⟨_, by rw [← List.map_drop, ← List.map_take]⟩
theorem len1000 {n : Nat} (h : n ≤ 1000) : n + 1 ≤ sizeLine := small1000 h

def spTake : Sp := fun vs H Q _ => ∃ (b c : Addr) (many : Int), vs = [.ref b, .int many] ∧ Bag H b c ∧ 0 < many ∧ many < 1073741824 ∧
  ∀ (r : Int) H', Kp b H H' → Bag H' b c → 0 ≤ r → r < many → Q (.int r) H'
def spBag (K : PySem.W.Frag) : Sp := fun vs H Q _ => ∃ (a : Addr) (ns : List Int), vs = [.ref a] ∧ SqL K H a (ns.map V.int) ∧ ns.length ≤ 63 ∧
  ∀ b c H', Same H H' → H b = none → H c = none → Bag H' b c → Q (.ref b) H'
def spSome (K : PySem.W.Frag) : Sp := fun vs H Q _ => ∃ (b c t : Addr) (xs : List V), vs = [.ref b, .ref t] ∧ Bag H b c ∧ ((SqL K H t xs ∧ t ≠ b) ∨ SqT K H t xs) ∧ xs ≠ [] ∧ xs.length < 1000000 ∧
  ∀ x H', x ∈ xs → Kp b H H' → Bag H' b c → Q x H'
def spMixed (K : PySem.W.Frag) : Sp := fun vs H Q _ => ∃ (b c t : Addr) (xs : List V), vs = [.ref b, .ref t] ∧ Bag H b c ∧ SqL K H t xs ∧ t ≠ b ∧ xs.length ≤ 1000 ∧
  ∀ (p : Addr) (ys : List V) H', ys.Perm xs → Kp b H H' → Bag H' b c → H p = none → H' p = some (.lst ys) → Q (.ref p) H'
def spAlike (K : PySem.W.Frag) : Sp := fun vs H Q _ => ∃ (a b : Addr) (d : PyData), vs = [.ref a, .ref b] ∧ Dp K H (.ref a) d ∧ Dp K H (.ref b) d ∧
  SeqAt.shaped d = true ∧ Shows d ∧ Q (.bl true) H
end GL

/-! comprehensions by what each turn gives; tuples that stay; rows -/
namespace GL
open PySem PySem.Spec PyProof.Rows L2
open PySem.W (EachIs)

/-- the tuples stay -/
def TupK (H H' : Hp) : Prop := ∀ (K : PySem.W.Frag) (t : Addr) (ys : List V), SqT K H t ys → SqT K H' t ys
theorem TupK.refl (H : Hp) : TupK H H := fun _ _ _ h => h
theorem TupK.trans {H H' H'' : Hp} (a : TupK H H') (b : TupK H' H'') : TupK H H'' := fun K t ys h => b K t ys (a K t ys h)
theorem TupK.same {H H' : Hp} (k : Same H H') : TupK H H' := fun K t ys h => by
  rcases h with (h | ⟨o, h⟩) | h
  · exact .inl (.inl (k _ _ h))
  · exact .inl (.inr ⟨o, k _ _ h⟩)
  · exact .inr h
theorem TupK.kp {b : Addr} {H H' : Hp} {xs : List V} (k : Kp b H H') (hb : H b = some (.lst xs)) : TupK H H' := fun _ _ _ h => k.sqT hb h
theorem TupK.upd {D : Addr} {H : Hp} {acc : List V} {o : HO} (hD : H D = some (.lst acc)) : TupK H (upd H D o) := TupK.kp Kp.at hD
theorem TupK.new {p : Addr} {H : Hp} (h : H p = none) (o : HO) : TupK H (L2.upd H p o) := TupK.same (put_new h o)

theorem each_mono {α β : Type} {R R' : α → β → Prop} (f : ∀ a b, R a b → R' a b) : ∀ {as : List α} {bs : List β}, EachIs R as bs → EachIs R' as bs
  | _, _, .nil => .nil
  | _, _, .cons h t => .cons (f _ _ h) (each_mono f t)
theorem each_snoc {α β : Type} {R : α → β → Prop} {a : α} {b : β} (h : R a b) : ∀ {as : List α} {bs : List β}, EachIs R as bs → EachIs R (as ++ [a]) (bs ++ [b])
  | _, _, .nil => .cons h .nil
  | _, _, .cons h' t => .cons h' (each_snoc h t)

/-- what a comprehension's turns may change -/
structure LcG (H0 : Hp) (D : Addr) (Rel : Hp → Hp → Prop) (G : Hp → Prop) : Prop where
  refl : ∀ H, Rel H H
  trans : ∀ {H H' H''}, Rel H H' → Rel H' H'' → Rel H H''
  tk : ∀ {H'}, Rel H0 H' → TupK H0 H'
  tk2 : ∀ {H H'}, G H → Rel H H' → TupK H H'
  keepD : ∀ {H H' acc}, Rel H H' → H D = some (.lst acc) → H' D = some (.lst acc)
  upd : ∀ {H acc acc'}, Rel H0 H → H D = some (.lst acc) → Rel H0 (L2.upd H D (.lst acc'))
  new : Rel H0 (L2.upd H0 D (.lst []))
  gU : ∀ {H acc acc'}, G H → H D = some (.lst acc) → G (L2.upd H D (.lst acc'))
  g0 : G (L2.upd H0 D (.lst []))
theorem LcG.pure {H0 : Hp} {D : Addr} (h : H0 D = none) : LcG H0 D Same fun _ => True where
  refl := fun _ _ _ e => e
  trans := fun a b => a.trans b
  tk := TupK.same
  tk2 := fun _ k => TupK.same k
  keepD := fun k e => k _ _ e
  upd := fun k e q o z => by rw [upd_ne (ne_of_none z h)]; exact k q o z
  new := put_new h _
  gU := fun _ _ => trivial
  g0 := trivial
theorem LcG.draw {H0 : Hp} {D b c : Addr} (h : H0 D = none) (hB : Bag H0 b c) : LcG H0 D (Kp b) fun H => Bag H b c := by
  obtain ⟨zs, hz⟩ := hB.lst
  obtain ⟨ncb, ns, hc⟩ := hB.cell
  have nb : D ≠ b := fun z => by rw [z, hz] at h; cases h
  have nc : D ≠ c := fun z => by rw [z, hc] at h; cases h
  exact {
    refl := Kp.refl b
    trans := fun a c => a.trans c
    tk := fun k => TupK.kp k hz
    tk2 := fun g k => by
      obtain ⟨ys, hy⟩ := g.lst
      exact TupK.kp k hy
    keepD := fun k e => k _ _ nb e
    upd := fun k e q o n z => by rw [upd_ne (ne_of_none z h)]; exact k q o n z
    new := Kp.new h
    gU := fun g e => g.other nb nc
    g0 := hB.new h }

section
variable {K : PySem.W.Frag} {g : TG} {tt : TT} {te : TE} {vs : List Nat} {σ : L2.St} {H1 : Hp} {D : Addr} {Qd : Hp → Prop} {Rel : Hp → Hp → Prop} {G : Hp → Prop} {β : Type}
/-- one turn: x the item, o what comes of it (none: left out) -/
def Turn (g : TG) (tt : TT) (te : TE) (vs : List Nat) (σ : L2.St) (Rel : Hp → Hp → Prop) (G : Hp → Prop) (Y : Hp → V → β → Prop) (x : V) (o : Option β) (H : Hp) : Prop :=
  ∀ (Qe : VK) (Qn : Hp → Prop), (∀ y H4 b, o = some b → Rel H H4 → G H4 → Y H4 y b → Qe y H4) → (∀ H3, o = none → Rel H H3 → G H3 → Qn H3) →
    g x (wipe σ vs) H fun σ2 H2 => wipe σ2 vs = wipe σ vs ∧ tt σ2 H2 fun b H3 => if b = true then te σ2 H3 Qe else Qn H3
/-- the list so far -/
def Lp (H1 : Hp) (D : Addr) (Rel : Hp → Hp → Prop) (G : Hp → Prop) (Y : Hp → V → β → Prop) (out : Nat → Option β) (i : Nat) (H : Hp) : Prop :=
  ∃ (acc : List V) (bs : List β), Rel H1 H ∧ G H ∧ H D = some (.lst acc) ∧ EachIs (Y H) acc bs ∧ bs = (List.range i).filterMap out
variable {Y : Hp → V → β → Prop} {out : Nat → Option β}
theorem fm_le (out : Nat → Option β) : ∀ i, ((List.range i).filterMap out).length ≤ i
  | i => Nat.le_trans (List.length_filterMap_le _ _) (by rw [List.length_range]; exact Nat.le_refl _)
theorem Lp.zero (L : LcG H1 D Rel G) : Lp H1 D Rel G Y out 0 (upd H1 D (.lst [])) := ⟨[], [], L.new, L.g0, upd_same, .nil, rfl⟩
theorem Lp.turn (L : LcG H1 D Rel G) (mono : ∀ H H' v b, TupK H H' → Y H v b → Y H' v b) {i : Nat} {x : V} {H : Hp} (hi : i < 1000) (hp : Lp H1 D Rel G Y out i H)
    (step : Rel H1 H → G H → Turn g tt te vs σ Rel G Y x (out i) H) :
    g x (wipe σ vs) H fun σ2 H2 => wipe σ2 vs = wipe σ vs ∧ tt σ2 H2 fun b H3 =>
      if b = true then te σ2 H3 fun y H4 => ∃ acc, H4 D = some (.lst acc) ∧ acc.length < sizeLine ∧ Lp H1 D Rel G Y out (i + 1) (upd H4 D (.lst (acc ++ [y])))
      else Lp H1 D Rel G Y out (i + 1) H3 := by
  obtain ⟨acc, bs, r1, g1, hD, ea, rfl⟩ := hp
  refine step r1 g1 _ _ (fun y H4 b eo r4 g4 hy => ?_) fun H3 eo r3 g3 => ?_
  · have hD4 := L.keepD r4 hD
    have t4 := (L.tk2 g1 r4).trans (TupK.upd (o := .lst (acc ++ [y])) hD4)
    refine ⟨acc, hD4, small1000 ?_, acc ++ [y], _, L.upd (L.trans r1 r4) hD4, L.gU g4 hD4, upd_same,
      each_snoc (mono _ _ _ _ (TupK.upd hD4) hy) (each_mono (fun v b => mono _ _ _ _ t4) ea), ?_⟩
    · have l1 := ea.length
      have l2 := fm_le out i
      omega
    · rw [List.range_succ, List.filterMap_append]
      simp [eo]
  · refine ⟨acc, _, L.trans r1 r3, g3, L.keepD r3 hD, each_mono (fun v b => mono _ _ _ _ (L.tk2 g1 r3)) ea, ?_⟩
    rw [List.range_succ, List.filterMap_append]
    simp [eo]

theorem lcg_tup {a : Addr} {xs : List V} (L : LcG H1 D Rel G) (mono : ∀ H H' v b, TupK H H' → Y H v b → Y H' v b) (src : SqT K H1 a xs) (hl : xs.length ≤ 1000)
    (step : ∀ i x H, xs[i]? = some x → Rel H1 H → G H → Turn g tt te vs σ Rel G Y x (out i) H)
    (fin : ∀ H acc bs, Rel H1 H → G H → H D = some (.lst acc) → EachIs (Y H) acc bs → bs = (List.range xs.length).filterMap out → Qd H) :
    ∃ W : Nat → Nat → Hp → Prop, (∃ m, W 0 m (upd H1 D (.lst []))) ∧ ∀ i m H, W i m H →
      ((Itt K a).stop i H ∧ Qd H) ∨ ((Itt K a).go i H ∧ ∃ Nx : Hp → Prop, (∀ H', Nx H' → ∃ m', m' < m ∧ W (i + 1) m' H') ∧ ∀ x H', (Itt K a).yld i H x H' → g x (wipe σ vs) H' fun σ2 H2 =>
        wipe σ2 vs = wipe σ vs ∧ tt σ2 H2 fun b H3 => if b = true then te σ2 H3 fun y H4 => ∃ acc, H4 D = some (.lst acc) ∧ acc.length < sizeLine ∧ Nx (upd H4 D (.lst (acc ++ [y]))) else Nx H3) := by
  refine lc_tup (K := K) (a := a) (xs := xs) (Lp H1 D Rel G Y out) (Lp.zero L) (fun i H _ hp => ?_) (fun i x H hx hp => ?_) (fun H hp => ?_)
  · obtain ⟨_, _, r1, _⟩ := hp
    exact L.tk r1 K a xs src
  · have hi : i < xs.length := (List.getElem?_eq_some_iff.mp hx).1
    exact Lp.turn L mono (by omega) hp fun r g => step i x H hx r g
  · obtain ⟨acc, bs, r1, g1, hD, ea, e⟩ := hp
    exact fin H acc bs r1 g1 hD ea e
theorem lcg_list {a : Addr} {xs : List V} (L : LcG H1 D Rel G) (mono : ∀ H H' v b, TupK H H' → Y H v b → Y H' v b) (src : ∀ H, Rel H1 H → SqL K H a xs) (hl : xs.length ≤ 1000)
    (step : ∀ i x H, xs[i]? = some x → Rel H1 H → G H → Turn g tt te vs σ Rel G Y x (out i) H)
    (fin : ∀ H acc bs, Rel H1 H → G H → H D = some (.lst acc) → EachIs (Y H) acc bs → bs = (List.range xs.length).filterMap out → Qd H) :
    ∃ W : Nat → Nat → Hp → Prop, (∃ m, W 0 m (upd H1 D (.lst []))) ∧ ∀ i m H, W i m H →
      ((Itl K a).stop i H ∧ Qd H) ∨ ((Itl K a).go i H ∧ ∃ Nx : Hp → Prop, (∀ H', Nx H' → ∃ m', m' < m ∧ W (i + 1) m' H') ∧ ∀ x H', (Itl K a).yld i H x H' → g x (wipe σ vs) H' fun σ2 H2 =>
        wipe σ2 vs = wipe σ vs ∧ tt σ2 H2 fun b H3 => if b = true then te σ2 H3 fun y H4 => ∃ acc, H4 D = some (.lst acc) ∧ acc.length < sizeLine ∧ Nx (upd H4 D (.lst (acc ++ [y]))) else Nx H3) := by
  refine lc_list (K := K) (a := a) (xs := xs) (Lp H1 D Rel G Y out) (Lp.zero L) (fun i H _ hp => ?_) (fun i x H hx hp => ?_) (fun H hp => ?_)
  · obtain ⟨_, _, r1, _⟩ := hp
    exact src H r1
  · have hi : i < xs.length := (List.getElem?_eq_some_iff.mp hx).1
    exact Lp.turn L mono (by omega) hp fun r g => step i x H hx r g
  · obtain ⟨acc, bs, r1, g1, hD, ea, e⟩ := hp
    exact fin H acc bs r1 g1 hD ea e
theorem lcg_range {lo : Int} {n : Nat} (L : LcG H1 D Rel G) (mono : ∀ H H' v b, TupK H H' → Y H v b → Y H' v b) (hl : n ≤ 1000)
    (step : ∀ i H, i < n → Rel H1 H → G H → Turn g tt te vs σ Rel G Y (.int (lo + i)) (out i) H)
    (fin : ∀ H acc bs, Rel H1 H → G H → H D = some (.lst acc) → EachIs (Y H) acc bs → bs = (List.range n).filterMap out → Qd H) :
    ∃ W : Nat → Nat → Hp → Prop, (∃ m, W 0 m (upd H1 D (.lst []))) ∧ ∀ i m H, W i m H →
      ((Itr lo n).stop i H ∧ Qd H) ∨ ((Itr lo n).go i H ∧ ∃ Nx : Hp → Prop, (∀ H', Nx H' → ∃ m', m' < m ∧ W (i + 1) m' H') ∧ ∀ x H', (Itr lo n).yld i H x H' → g x (wipe σ vs) H' fun σ2 H2 =>
        wipe σ2 vs = wipe σ vs ∧ tt σ2 H2 fun b H3 => if b = true then te σ2 H3 fun y H4 => ∃ acc, H4 D = some (.lst acc) ∧ acc.length < sizeLine ∧ Nx (upd H4 D (.lst (acc ++ [y]))) else Nx H3) := by
  refine lc_range (lo := lo) (n := n) (Lp H1 D Rel G Y out) (Lp.zero L) (fun i H hi hp => ?_) (fun H hp => ?_)
  · exact Lp.turn L mono (by omega) hp fun r g => step i H hi r g
  · obtain ⟨acc, bs, r1, g1, hD, ea, e⟩ := hp
    exact fin H acc bs r1 g1 hD ea e
end

/-! ### where what comes is drawn -/
section
variable {K : PySem.W.Frag} {g : TG} {tt : TT} {te : TE} {vs : List Nat} {σ : L2.St} {H1 : Hp} {D : Addr} {Qd : Hp → Prop} {Rel : Hp → Hp → Prop} {G : Hp → Prop} {β : Type}
def TurnD (g : TG) (tt : TT) (te : TE) (vs : List Nat) (σ : L2.St) (Rel : Hp → Hp → Prop) (G : Hp → Prop) (Y : Hp → V → β → Prop) (x : V) (H : Hp) : Prop :=
  ∀ (Qe : VK) (Qn : Hp → Prop), (∀ y H4 b, Rel H H4 → G H4 → Y H4 y b → Qe y H4) →
    g x (wipe σ vs) H fun σ2 H2 => wipe σ2 vs = wipe σ vs ∧ tt σ2 H2 fun b H3 => if b = true then te σ2 H3 Qe else Qn H3
def LpD (H1 : Hp) (D : Addr) (Rel : Hp → Hp → Prop) (G : Hp → Prop) (Y : Hp → V → β → Prop) (i : Nat) (H : Hp) : Prop :=
  ∃ (acc : List V) (bs : List β), Rel H1 H ∧ G H ∧ H D = some (.lst acc) ∧ EachIs (Y H) acc bs ∧ bs.length = i
variable {Y : Hp → V → β → Prop}
theorem LpD.turn (L : LcG H1 D Rel G) (mono : ∀ H H' v b, TupK H H' → Y H v b → Y H' v b) {i : Nat} {x : V} {H : Hp} (hi : i < 1000) (hp : LpD H1 D Rel G Y i H)
    (step : Rel H1 H → G H → TurnD g tt te vs σ Rel G Y x H) :
    g x (wipe σ vs) H fun σ2 H2 => wipe σ2 vs = wipe σ vs ∧ tt σ2 H2 fun b H3 =>
      if b = true then te σ2 H3 fun y H4 => ∃ acc, H4 D = some (.lst acc) ∧ acc.length < sizeLine ∧ LpD H1 D Rel G Y (i + 1) (upd H4 D (.lst (acc ++ [y])))
      else LpD H1 D Rel G Y (i + 1) H3 := by
  obtain ⟨acc, bs, r1, g1, hD, ea, rfl⟩ := hp
  refine step r1 g1 _ _ fun y H4 b r4 g4 hy => ?_
  have hD4 := L.keepD r4 hD
  have t4 := (L.tk2 g1 r4).trans (TupK.upd (o := .lst (acc ++ [y])) hD4)
  exact ⟨acc, hD4, small1000 (by have := ea.length; omega), acc ++ [y], bs ++ [b], L.upd (L.trans r1 r4) hD4, L.gU g4 hD4, upd_same,
    each_snoc (mono _ _ _ _ (TupK.upd hD4) hy) (each_mono (fun v b => mono _ _ _ _ t4) ea), by rw [List.length_append]; rfl⟩
theorem lcd_range {lo : Int} {n : Nat} (L : LcG H1 D Rel G) (mono : ∀ H H' v b, TupK H H' → Y H v b → Y H' v b) (hl : n ≤ 1000)
    (step : ∀ i H, i < n → Rel H1 H → G H → TurnD g tt te vs σ Rel G Y (.int (lo + i)) H)
    (fin : ∀ H acc bs, Rel H1 H → G H → H D = some (.lst acc) → EachIs (Y H) acc bs → bs.length = n → Qd H) :
    ∃ W : Nat → Nat → Hp → Prop, (∃ m, W 0 m (upd H1 D (.lst []))) ∧ ∀ i m H, W i m H →
      ((Itr lo n).stop i H ∧ Qd H) ∨ ((Itr lo n).go i H ∧ ∃ Nx : Hp → Prop, (∀ H', Nx H' → ∃ m', m' < m ∧ W (i + 1) m' H') ∧ ∀ x H', (Itr lo n).yld i H x H' → g x (wipe σ vs) H' fun σ2 H2 =>
        wipe σ2 vs = wipe σ vs ∧ tt σ2 H2 fun b H3 => if b = true then te σ2 H3 fun y H4 => ∃ acc, H4 D = some (.lst acc) ∧ acc.length < sizeLine ∧ Nx (upd H4 D (.lst (acc ++ [y]))) else Nx H3) := by
  refine lc_range (lo := lo) (n := n) (LpD H1 D Rel G Y) ⟨[], [], L.new, L.g0, upd_same, .nil, rfl⟩ (fun i H hi hp => ?_) (fun H hp => ?_)
  · exact LpD.turn L mono (by omega) hp fun r g => step i H hi r g
  · obtain ⟨acc, bs, r1, g1, hD, ea, e⟩ := hp
    exact fin H acc bs r1 g1 hD ea e
theorem lcd_list {a : Addr} {xs : List V} (L : LcG H1 D Rel G) (mono : ∀ H H' v b, TupK H H' → Y H v b → Y H' v b) (src : ∀ H, Rel H1 H → SqL K H a xs) (hl : xs.length ≤ 1000)
    (step : ∀ (i : Nat) (x : V) (H : Hp), xs[i]? = some x → Rel H1 H → G H → TurnD g tt te vs σ Rel G Y x H)
    (fin : ∀ H acc bs, Rel H1 H → G H → H D = some (.lst acc) → EachIs (Y H) acc bs → bs.length = xs.length → Qd H) :
    ∃ W : Nat → Nat → Hp → Prop, (∃ m, W 0 m (upd H1 D (.lst []))) ∧ ∀ i m H, W i m H →
      ((Itl K a).stop i H ∧ Qd H) ∨ ((Itl K a).go i H ∧ ∃ Nx : Hp → Prop, (∀ H', Nx H' → ∃ m', m' < m ∧ W (i + 1) m' H') ∧ ∀ x H', (Itl K a).yld i H x H' → g x (wipe σ vs) H' fun σ2 H2 =>
        wipe σ2 vs = wipe σ vs ∧ tt σ2 H2 fun b H3 => if b = true then te σ2 H3 fun y H4 => ∃ acc, H4 D = some (.lst acc) ∧ acc.length < sizeLine ∧ Nx (upd H4 D (.lst (acc ++ [y]))) else Nx H3) := by
  refine lc_list (K := K) (a := a) (xs := xs) (LpD H1 D Rel G Y) ⟨[], [], L.new, L.g0, upd_same, .nil, rfl⟩ (fun i H _ hp => ?_) (fun i x H hx hp => ?_) (fun H hp => ?_)
  · obtain ⟨_, _, r1, _⟩ := hp
    exact src H r1
  · have hi : i < xs.length := (List.getElem?_eq_some_iff.mp hx).1
    exact LpD.turn L mono (by omega) hp fun r g => step i x H hx r g
  · obtain ⟨acc, bs, r1, g1, hD, ea, e⟩ := hp
    exact fin H acc bs r1 g1 hD ea e
end

/-! ### rows -/
theorem dp_ints {K : PySem.W.Frag} {H : Hp} : ∀ l : List Int, DpAll K H (l.map V.int) (l.map PyData.int)
  | [] => .nil
  | i :: l => .cons (.int i) (dp_ints l)
/-- a tuple of whole numbers -/
def TI (K : PySem.W.Frag) (H : Hp) (v : V) (r : List Int) : Prop := ∃ t, v = .ref t ∧ SqT K H t (r.map V.int)
theorem TI.mono {K : PySem.W.Frag} {H H' : Hp} {v : V} {r : List Int} (k : TupK H H') (h : TI K H v r) : TI K H' v r := by
  obtain ⟨t, e, h⟩ := h
  exact ⟨t, e, k _ _ _ h⟩
theorem TI.dp {K : PySem.W.Frag} {H : Hp} {v : V} {r : List Int} (h : TI K H v r) : Dp K H v (encR r) := by
  obtain ⟨t, rfl, h⟩ := h
  exact .tup h (dp_ints r)
/-- a tuple of rows, bs: the items with what they are -/
def RowsAt (K : PySem.W.Frag) (H : Hp) (a : Addr) (bs : List (V × List Int)) : Prop := SqT K H a (bs.map (·.1)) ∧ ∀ b ∈ bs, TI K H b.1 b.2
theorem RowsAt.mono {K : PySem.W.Frag} {H H' : Hp} {a : Addr} {bs : List (V × List Int)} (k : TupK H H') (h : RowsAt K H a bs) : RowsAt K H' a bs :=
  ⟨k _ _ _ h.1, fun b hb => (h.2 b hb).mono k⟩
theorem dp_rows {K : PySem.W.Frag} {H : Hp} : ∀ {bs : List (V × List Int)}, (∀ b ∈ bs, TI K H b.1 b.2) → DpAll K H (bs.map (·.1)) (bs.map fun b => encR b.2)
  | [], _ => .nil
  | b :: bs, h => .cons (h b List.mem_cons_self).dp (dp_rows fun c hc => h c (List.mem_cons_of_mem _ hc))
abbrev encRs (rs : List (List Int)) : PyData := .tuple (rs.map encR)
theorem RowsAt.dp {K : PySem.W.Frag} {H : Hp} {a : Addr} {bs : List (V × List Int)} (h : RowsAt K H a bs) : Dp K H (.ref a) (encRs (bs.map (·.2))) := by
  refine .tup h.1 ?_
  rw [List.map_map]
  exact dp_rows h.2
/-- a table -/
def TabAt (K : PySem.W.Frag) (H : Hp) (t : Addr) (many : Int) (a : Addr) (bs : List (V × List Int)) : Prop := SqT K H t [.int many, .ref a] ∧ RowsAt K H a bs
theorem TabAt.mono {K : PySem.W.Frag} {H H' : Hp} {t a : Addr} {many : Int} {bs : List (V × List Int)} (k : TupK H H') (h : TabAt K H t many a bs) : TabAt K H' t many a bs :=
  ⟨k _ _ _ h.1, h.2.mono k⟩
abbrev encT (many : Int) (rs : List (List Int)) : PyData := .tuple [.int many, encRs rs]
theorem TabAt.dp {K : PySem.W.Frag} {H : Hp} {t a : Addr} {many : Int} {bs : List (V × List Int)} (h : TabAt K H t many a bs) : Dp K H (.ref t) (encT many (bs.map (·.2))) :=
  .tup h.1 (.cons (.int _) (.cons h.2.dp .nil))
end GL
namespace GL
open PySem PySem.Spec PyProof.Rows L2
theorem units65 {k : Nat} {A : Around} (r : Room k A) : A.units + 65 < cLine := by have := r.un; omega
theorem lay_ints : ∀ l : List Int, PyData.canLayAll0 (l.map .int) = true
  | [] => by simp [PyData.canLayAll0]
  | i :: l => by
    rw [List.map_cons, PyData.canLayAll0, lay_ints l]
    simp [PyData.canLay0]
theorem lay_encR (r : List Int) : (encR r).canLay0 = true := by
  show PyData.canLay0 (.tuple _) = true
  rw [PyData.canLay0]
  exact lay_ints r
theorem depth_encR (r : List Int) : (encR r).depth = 1 := by
  show PyData.depth (.tuple _) = 1
  rw [PyData.depth, PySem.W.depth_ints]
theorem shaped_encR (r : List Int) : SeqAt.shaped (encR r) = true := by
  unfold SeqAt.shaped
  rw [lay_encR, depth_encR]
  rfl
theorem lay_rows : ∀ rs : List (List Int), PyData.canLayAll0 (rs.map encR) = true
  | [] => by simp [PyData.canLayAll0]
  | r :: rs => by
    rw [List.map_cons, PyData.canLayAll0, lay_rows rs, lay_encR]
    rfl
theorem depth_rows : ∀ rs : List (List Int), PyData.depthAll (rs.map encR) ≤ 1
  | [] => by simp [PyData.depthAll]
  | r :: rs => by
    rw [List.map_cons, PyData.depthAll, depth_encR]
    have := depth_rows rs
    omega
theorem lay_encRs (rs : List (List Int)) : (encRs rs).canLay0 = true := by
  show PyData.canLay0 (.tuple _) = true
  rw [PyData.canLay0]
  exact lay_rows rs
theorem depth_encRs (rs : List (List Int)) : (encRs rs).depth ≤ 2 := by
  show PyData.depth (.tuple _) ≤ 2
  rw [PyData.depth]
  have := depth_rows rs
  omega
theorem shaped_encRs (rs : List (List Int)) : SeqAt.shaped (encRs rs) = true := by
  unfold SeqAt.shaped
  rw [lay_encRs, decide_eq_true (Nat.le_trans (depth_encRs rs) (by decide))]
  rfl
theorem eqvs_ints : ∀ a b : List Int, PyData.eqvAll (a.map .int) (b.map .int) = decide (a = b)
  | [], [] => by simp [PyData.eqvAll]
  | [], _ :: _ => by simp [PyData.eqvAll]
  | _ :: _, [] => by simp [PyData.eqvAll]
  | x :: a, y :: b => by
    rw [List.map_cons, List.map_cons, PyData.eqvAll, eqvs_ints a b]
    by_cases h : x = y <;> simp [PyData.eqv, h]
theorem eqv_encR (a b : List Int) : PyData.eqv (encR a) (encR b) = decide (a = b) := by
  show PyData.eqv (.tuple _) (.tuple _) = _
  rw [PyData.eqv]
  exact eqvs_ints a b
theorem any_encR (rs : List (List Int)) (r : List Int) : ((rs.map encR).any fun z => PyData.eqv z (encR r)) = decide (r ∈ rs) := by
  induction rs with
  | nil => simp
  | cons a rs ih =>
    rw [List.map_cons, List.any_cons, ih, eqv_encR]
    by_cases h : a = r
    · simp [h]
    · have h' : ¬ r = a := fun e => h e.symm
      simp [h, h']
end GL

set_option maxHeartbeats 8000000
/-! set(xs) of a list of whole numbers; row in t, t a tuple of data -/
namespace GL
open PySem PySem.Spec PyProof.Rows L2
/-- an empty set as it is made -/
abbrev eSet (w : World) : Obj := { cls := .type "set", dict := none, data := .set #[] 0 (.fresh 0 0 (!w.params.followText "set-order")) }

section
variable {P : Program} {w : World} {A : Around} {E : Value → Shared → Prop} {s : Shared}
theorem set_of_list {l : Addr} {its : List Value} {ns : List Int} {Q : Value → Shared → Prop} (hd0 : A.handled = none)
    (hl : s.heap.IsList l its.toArray) (hi : IntsAre its ns) (few : ns.length + 1 < scanBound)
    (fin : ∀ (h' : Heap) (tk c : Nat), SetR w h' s.heap.objs.size (fun j => decide (j ∈ ns)) c → c ≤ ns.length →
      (∀ b o, s.heap.get? b = some o → h'.get? b = some o) → Q (.ref s.heap.objs.size) { s with heap := h', toks := tk }) :
    wpAny (model P w) A (call (.type "set") [.ref l]) Q E s := by
  have sz : its.toArray.size = ns.length := by rw [List.size_toArray]; exact hi.length
  obtain ⟨c, tl, hmro⟩ := F.called_set.mro
  have i1 := F.called_set.made
  have i2 := F.called_set.sub
  refine wpAny_call (codeAny_of_tree ?_)
  show wpAny _ _ (callAny (.type "set") _) _ _ _
  refine wpAny_pure ⟨Code.quiet_builtin _ (by decide +kernel), codeAny_builtin F.entry_type_call ?_⟩
  rw [Around.under_plain (weight_type_call_type "set" [.ref l] []) rfl]
  have i3 := F.called_set.notType
  have i4 := F.called_set.canCreate
  have i5 := F.typeCall_set_1 (.ref l)
  repeat (any_goals (first | assumption | wp_step))
  have made := code_set_led1 (P := P) (w := w) (A := A.in1) (s := s) (.ref l) (E := E)
    (Q₁ := fun x s1 => x = .ref s.heap.objs.size ∧ s1 = { s with heap := s.heap.push (eSet w) }) ⟨rfl, rfl⟩
  refine codeAny_mono made fun r s1 hr => ?_
  match r, hr with
  | .error e, hr => exact hr
  | .ok .next, hr => exact hr.elim
  | .ok .brk, hr => exact hr.elim
  | .ok .cont, hr => exact hr.elim
  | .ok (.ret x), hr =>
    obtain ⟨rfl, rfl⟩ := hr
    have g0 : (s.heap.push (eSet w)).get? s.heap.objs.size = some (eSet w) := Heap.get?_push_size _ rfl
    have ty : Shared.TypeIs { s with heap := s.heap.push (eSet w) } (.ref s.heap.objs.size) "set" := ⟨_, g0, rfl⟩
    have j1 := F.called_set.init.lookup
    have j2 := F.called_set.init.bind (.ref s.heap.objs.size)
    repeat (any_goals (first | assumption | wp_step))
    refine codeAny_mono (codeAny_call_builtin (R := wants (fun r s2 => r = .none ∧ ∃ h' tk c, s2 = { s with heap := h', toks := tk } ∧
      SetR w h' s.heap.objs.size (fun j => decide (j ∈ ns)) c ∧ c ≤ ns.length ∧ (∀ b o, s.heap.get? b = some o → h'.get? b = some o)) E)
      F.called_set.init.plain F.entry_set_init (check_set_init_1 ty ?_)) fun r2 s2 hr2 => ?_
    · obtain ⟨ol, hol, hcl, nl, hdl⟩ := hl
      obtain ⟨k1, k2, k3, k4⟩ := ol
      simp only at hcl hdl
      subst hcl; subst hdl
      have hol' : (s.heap.push (eSet w)).get? l = some { cls := .type "list", dict := k2, data := .seq its.toArray nl, slots := k4 } := Heap.get?_push_of_some _ hol
      have n1 := F.sub_list_set
      have n2 := F.sub_list_frozenset
      have n3 : (Value.type "list" == Value.type "dict") = false := by decide
      have lst1 : (s.heap.push (eSet w)).IsList l its.toArray := ⟨_, hol', rfl, nl, rfl⟩
      unfold Builtin.«set.__init__» noKeywords Builtin.Frozenset.updateFrom
      generalize e0 : pyIter = it0
      wp_walk
      subst e0
      refine wpAny_pyIter_list lst1 ?_
      refine wpAny_bind (wpAny_runValue ?_)
      have lS : l < s.heap.objs.size := Heap.lt_size hol
      have hd3 : A.in1.in1.in1.handled = none := by simp [hd0]
      have z1 : (s.heap.push (eSet w)).objs.size = s.heap.objs.size + 1 := Heap.size_push ..
      have neI : l ≠ (s.heap.push (eSet w)).objs.size := by rw [z1]; exact Nat.ne_of_lt (Nat.lt_succ_of_lt lS)
      have off : s.heap.objs.size ∉ [(s.heap.push (eSet w)).objs.size, l] := by
        rw [z1]
        intro m
        rcases List.mem_cons.mp m with q | m
        · exact absurd q (Nat.ne_of_lt (Nat.lt_succ_self _))
        · exact absurd (List.mem_singleton.mp m) (Nat.ne_of_gt lS)
      have val : ∀ (i : Nat) (v : Value), its.toArray[i]? = some v → ∃ k t, ns[i]? = some k ∧ v = .int k t := fun i v hv => by
        have lt : i < ns.length := by rw [← sz]; exact (Array.getElem?_eq_some_iff.mp hv).1
        obtain ⟨t, e⟩ := PyProof.Rows.IntsAre.int_at hi i v (by simpa using hv)
        refine ⟨ns[i], t, List.getElem?_eq_getElem lt, ?_⟩
        rw [e, List.getD_eq_getElem?_getD, List.getElem?_eq_getElem lt] <;> rfl
      refine set_update_ints ((Walks.list hd3 _ l neI its.toArray).toS) s.heap.objs.size off ns sz few val (its.toArray.size - 0) 0 _ (by omega) (Nat.zero_le _)
        ⟨⟨_, Heap.get?_push_size _ rfl, rfl, rfl⟩, lst1.push _⟩ ?hz0 ?hz1
      case hz0 => exact ⟨0, Nat.le_refl 0, setR_new_at (Heap.get?_push_of_some _ g0)⟩
      case hz1 =>
        intro s' c' hm hc' hS'
        obtain ⟨h', g2, d', tk', os'⟩ := s'
        have eg : g2 = s.gens := hm.gens
        have ed : d' = s.drawn := hm.drawn
        have eo : os' = s.os := hm.os
        subst eg; subst ed; subst eo
        refine wpAny_pure ?_
        rw [sz] at hc'
        refine wpAny_pure ⟨rfl, h', tk', c', rfl, hS', hc', fun b o e => ?_⟩
        have b0 : b < s.heap.objs.size := Heap.lt_size e
        refine hm.heap b o (fun m => ?_) (Heap.get?_push_of_some _ (Heap.get?_push_of_some _ e))
        rcases List.mem_cons.mp m with q | m
        · exact absurd q (Nat.ne_of_lt b0)
        · exact absurd (List.mem_singleton.mp m) (by rw [z1]; exact Nat.ne_of_lt (Nat.lt_succ_of_lt b0))
    · match r2, hr2 with
      | .error e, hr2 => exact hr2
      | .ok .next, hr2 => exact hr2.elim
      | .ok .brk, hr2 => exact hr2.elim
      | .ok .cont, hr2 => exact hr2.elim
      | .ok (.ret x), hr2 =>
        obtain ⟨rfl, h', tk, c', rfl, hS', hc', hk'⟩ := hr2
        repeat (any_goals (first | assumption | wp_step))
        exact fin _ _ _ hS' hc' hk'
end

section
variable {X : Cx}
/-- set(xs), xs a list of whole numbers -/
def rSetInts (K : PySem.W.Frag) (w : World) : List V → Hp → VK → Prop := fun vs H Q => ∃ (a : Addr) (ns : List Int), vs = [.ref a] ∧ SqL K H a (ns.map V.int) ∧ ns.length ≤ 1000 ∧
  ∀ p c, H p = none → c ≤ ns.length → Q (.ref p) (upd H p (SetO w p (fun j => decide (j ∈ ns)) c))
theorem cr_setInts (hc : X.calm = true) : CallR X (.type "set") (rSetInts X.K X.w) := by
  intro pins s σ H vs us Q I r h
  obtain ⟨a, ns, rfl, hs, hl, q⟩ := h
  obtain ⟨its, rv, pl, hz⟩ := I.list hs
  rw [Vals.ref1 r]
  refine set_of_list (I.ok.hd hc) pl.isList rv.ints (by unfold scanBound; omega) fun h' tk c R hc' k => ?_
  have hn : H s.heap.objs.size = none := I.hok.fresh (Nat.le_refl _)
  exact ⟨.ref s.heap.objs.size, upd H s.heap.objs.size (SetO X.w s.heap.objs.size (fun j => decide (j ∈ ns)) c), I.laid (t' := tk) k (Nat.le_refl _) (setO_new R), rfl, q _ _ hn hc'⟩
/-- x in t, x and the items of the tuple t data -/
def rInT (K : PySem.W.Frag) : R2 := fun x y H Q => ∃ d ds, Dp K H x d ∧ Dp K H y (.tuple ds) ∧ SeqAt.shaped d = true ∧ SeqAt.shaped (.tuple ds) = true ∧
  Q (.bl (ds.any fun z => PyData.eqv z d)) H
theorem op_inTD (hu : X.A.units + 65 < cLine) : OpR X (compareOp .In) (rInT X.K) := by
  intro pins s σ H x y v u Q I rx ry h
  obtain ⟨d, ds, hd, he, sd, se, q⟩ := h
  obtain ⟨as, q1⟩ := Dp.reads I d x v hd rx
  obtain ⟨bs, q2⟩ := Dp.reads I (.tuple ds) y u he ry
  exact SeqAt.in_tuple_reads q2 q1 (SeqAt.canLay_of_shaped se) (SeqAt.canLay_of_shaped sd) (room_in_shaped sd hu) ⟨.bl _, H, I, rfl, q⟩
end
end GL

/-! rows in order: plain mathematics -/
namespace K2
abbrev Rw := List Int
theorem le_anti {a b : Rw} (h : a ≤ b) (h' : b ≤ a) : a = b := List.le_antisymm h h'
theorem sorted_unique : ∀ {l m : List Rw}, l.Pairwise (· ≤ ·) → m.Pairwise (· ≤ ·) → l.Perm m → l = m
  | [], m, _, _, p => (List.Perm.eq_nil p.symm).symm
  | a :: l, [], _, _, p => absurd (List.Perm.eq_nil p) (by simp)
  | a :: l, b :: m, hl, hm, p => by
    rw [List.pairwise_cons] at hl hm
    have e : a = b := by
      have ha : a ∈ b :: m := p.mem_iff.mp List.mem_cons_self
      have hb : b ∈ a :: l := p.mem_iff.mpr List.mem_cons_self
      rcases List.mem_cons.mp ha with e | ha
      · exact e
      · rcases List.mem_cons.mp hb with e | hb
        · exact e.symm
        · exact le_anti (hl.1 b hb) (hm.1 a ha)
    subst e
    rw [sorted_unique hl.2 hm.2 p.cons_inv]
/-- a lot of rows: ascending, none twice -/
def Lot (rs : List Rw) : Prop := rs.Pairwise (· < ·)
theorem Lot.le {rs : List Rw} (h : Lot rs) : rs.Pairwise (· ≤ ·) := h.imp fun h => List.le_of_lt h
theorem Lot.nodup {rs : List Rw} (h : Lot rs) : rs.Nodup := h.imp fun h e => by subst e; exact List.lt_irrefl _ h
theorem lot_of {rs : List Rw} (h : rs.Pairwise (· ≤ ·)) (n : rs.Nodup) : Lot rs := by
  have := h.and n
  exact this.imp fun {a b} ⟨h1, h2⟩ => by
    rcases Classical.em (a < b) with q | q
    · exact q
    · exact absurd (le_anti h1 (List.not_lt.mp q)) h2
theorem filter_ne_of {rs : List Rw} {r : Rw} (h : r ∉ rs) : rs.filter (fun x => decide (x ≠ r)) = rs :=
  List.filter_eq_self.mpr fun a ha => decide_eq_true fun e => h (e ▸ ha)
theorem perm_filter_ne {rs : List Rw} {r : Rw} (n : rs.Nodup) (h : r ∈ rs) : (rs.filter (fun x => decide (x ≠ r)) ++ [r]).Perm rs := by
  induction rs with
  | nil => cases h
  | cons a l ih =>
    rw [List.nodup_cons] at n
    by_cases e : a = r
    · subst e
      rw [List.filter_cons_of_neg (by simp), filter_ne_of n.1]
      exact List.perm_append_singleton _ _
    · rw [List.filter_cons_of_pos (by simpa using e), List.cons_append]
      exact (ih n.2 ((List.mem_cons.mp h).resolve_left fun z => e z.symm)).cons a
/-- the least, the greatest of some whole numbers -/
def IsLo (ns : List Int) (o : Option Int) : Prop := (ns = [] ∧ o = none) ∨ ∃ m, o = some m ∧ m ∈ ns ∧ ∀ z ∈ ns, m ≤ z
def IsHi (ns : List Int) (o : Option Int) : Prop := (ns = [] ∧ o = none) ∨ ∃ m, o = some m ∧ m ∈ ns ∧ ∀ z ∈ ns, z ≤ m
theorem IsLo.one {ns ms : List Int} {o u : Option Int} (h : IsLo ns o) (h' : IsLo ms u) (e : ∀ z, z ∈ ns ↔ z ∈ ms) : o = u := by
  rcases h with ⟨rfl, rfl⟩ | ⟨m, rfl, h1, h2⟩
  · rcases h' with ⟨rfl, rfl⟩ | ⟨k, rfl, g1, _⟩
    · rfl
    · exact absurd ((e k).mpr g1) (by simp)
  · rcases h' with ⟨rfl, rfl⟩ | ⟨k, rfl, g1, g2⟩
    · exact absurd ((e m).mp h1) (by simp)
    · have := h2 k ((e k).mpr g1)
      have := g2 m ((e m).mp h1)
      exact congrArg some (by omega)
theorem IsHi.one {ns ms : List Int} {o u : Option Int} (h : IsHi ns o) (h' : IsHi ms u) (e : ∀ z, z ∈ ns ↔ z ∈ ms) : o = u := by
  rcases h with ⟨rfl, rfl⟩ | ⟨m, rfl, h1, h2⟩
  · rcases h' with ⟨rfl, rfl⟩ | ⟨k, rfl, g1, _⟩
    · rfl
    · exact absurd ((e k).mpr g1) (by simp)
  · rcases h' with ⟨rfl, rfl⟩ | ⟨k, rfl, g1, g2⟩
    · exact absurd ((e m).mp h1) (by simp)
    · have := h2 k ((e k).mpr g1)
      have := g2 m ((e m).mp h1)
      exact congrArg some (by omega)
theorem lo_first {m : Int} {l : List Int} (h : (m :: l).Pairwise (· < ·)) : IsLo (m :: l) (some m) := .inr ⟨m, rfl, List.mem_cons_self, fun z hz => by
  rcases List.mem_cons.mp hz with rfl | hz
  · exact Int.le_refl _
  · exact Int.le_of_lt ((List.pairwise_cons.mp h).1 z hz)⟩
theorem hi_last {m : Int} {l : List Int} (h : (l ++ [m]).Pairwise (· < ·)) : IsHi (l ++ [m]) (some m) := .inr ⟨m, rfl, by simp, fun z hz => by
  rcases List.mem_append.mp hz with hz | hz
  · exact Int.le_of_lt ((List.pairwise_append.mp h).2.2 z hz m (by simp))
  · rw [List.mem_singleton.mp hz]; exact Int.le_refl _⟩
/-- what stands behind a prefix -/
def behind (rs : List Rw) (pre : Rw) : List Int := (rs.filter fun r => decide (r.take pre.length = pre)).map fun r => r.getD pre.length 0
def there (rs : List Rw) (pre : Rw) : Bool := decide (pre = []) || rs.any fun r => decide (r.take pre.length = pre)
end K2

/-! rules with the written part named, their ends alike -/
namespace GL
open PySem PySem.Spec PyProof.Rows L2

/-- a new tuple, or one that stands: what is wanted of it -/
def TupTo (K : PySem.W.Frag) (H : Hp) (Q : VK) (ys : List V) : Prop := ∀ (p : Addr) H', Same H H' → SqT K H' p ys → Q (.ref p) H'
theorem TupTo.new {K : PySem.W.Frag} {H : Hp} {Q : VK} {ys : List V} (h : TupTo K H Q ys) {p : Addr} (hp : H p = none) : Q (.ref p) (upd H p (.tup ys)) :=
  h p _ (put_new hp _) (SqT.of upd_same)
def rCatU (K : PySem.W.Frag) : R2 := fun x y H Q => ∃ a b xs ys, x = .ref a ∧ y = .ref b ∧ SqT K H a xs ∧ SqT K H b ys ∧ xs.length + ys.length ≤ sizeLine ∧ TupTo K H Q (xs ++ ys)
def rSlU (K : PySem.W.Frag) : V → Option Int → Option Int → Hp → VK → Prop := fun x lo hi H Q => ∃ a xs, x = .ref a ∧ SqT K H a xs ∧ TupTo K H Q (cutV xs lo hi)
def rLen2 (K : PySem.W.Frag) : List V → Hp → VK → Prop := fun xs H Q => ∃ p ys, xs = [.ref p] ∧ (SqL K H p ys ∨ SqT K H p ys) ∧ Q (.int ys.length) H
def rTupOf (K : PySem.W.Frag) : List V → Hp → VK → Prop := fun xs H Q => ∃ p ys, xs = [.ref p] ∧ (SqL K H p ys ∨ SqT K H p ys) ∧ TupTo K H Q ys
section
variable {X : Cx}
theorem op_catU : OpR X (binaryOp .Add) (rCatU X.K) := by
  intro pins s σ H x y v u Q I rx ry h
  obtain ⟨a, b, xs, ys, rfl, rfl, ha, hb, hz, q⟩ := h
  refine op_catA pins s σ H _ _ v u Q I rx ry ⟨a, b, xs, ys, rfl, rfl, ha, hb, hz, fun e => ?_, fun _ e => ?_, fun _ _ p hp => q.new hp⟩
  · subst e
    exact q b H (Same.refl H) hb
  · subst e
    exact q a H (Same.refl H) (by rw [List.append_nil]; exact ha)
theorem sl_tupU : SlR X (rSlU X.K) := by
  intro pins s σ H x v vl vu lo hi sl Q I rx hs pl pu h
  obtain ⟨a, xs, rfl, hx, q⟩ := h
  refine sl_tupA pins s σ H _ v vl vu lo hi sl Q I rx hs pl pu ⟨a, xs, rfl, hx, fun hw => ?_, fun _ p hp => q.new hp⟩
  refine q a H (Same.refl H) ?_
  have e : cutV xs lo hi = xs := by
    unfold cutV
    rw [hw.1, hw.2]
    simp
  rw [e]
  exact hx
theorem call_len2 : CallR X (.builtin "len") (rLen2 X.K) := call_len_seq
theorem call_tup2 : CallR X (.type "tuple") (rTupOf X.K) := by
  intro pins s σ H xs us Q I r h
  obtain ⟨p, ys, rfl, hq, q⟩ := h
  refine call_tuple_of pins s σ H _ us Q I r ⟨p, ys, rfl, ?_⟩
  rcases hq with hq | hq
  · exact .inl ⟨hq, fun l hl => q.new hl⟩
  · exact .inr ⟨hq, q p H (Same.refl H) hq⟩
end
end GL
namespace GL
open PySem PySem.Spec PyProof.Rows L2
open PySem.W (EachIs)
theorem fm_take {α β : Type} (l : List α) (f : α → Option β) : ∀ i, (List.range i).filterMap (fun j => (l[j]?).bind f) = (l.take i).filterMap f
  | 0 => by simp
  | i + 1 => by
    rw [List.range_succ, List.filterMap_append, fm_take l f i, List.take_add_one, List.filterMap_append]
    cases h : l[i]? with
    | none => simp [h]
    | some a => cases h2 : f a <;> simp [h, h2]
theorem fm_all {α β : Type} (l : List α) (f : α → Option β) : (List.range l.length).filterMap (fun j => (l[j]?).bind f) = l.filterMap f := by
  rw [fm_take, List.take_length]
/-- items that are pairs, told by themselves -/
def YP (K : PySem.W.Frag) (H : Hp) (v : V) (b : V × List Int) : Prop := v = b.1 ∧ TI K H b.1 b.2
theorem YP.mono {K : PySem.W.Frag} : ∀ H H' v b, TupK H H' → YP K H v b → YP K H' v b := fun _ _ _ _ k h => ⟨h.1, h.2.mono k⟩
theorem yp_all {K : PySem.W.Frag} {H : Hp} : ∀ {acc : List V} {bs : List (V × List Int)}, EachIs (YP K H) acc bs → acc = bs.map (·.1) ∧ ∀ b ∈ bs, TI K H b.1 b.2
  | _, _, .nil => ⟨rfl, fun _ z => nomatch z⟩
  | _, _, .cons h t => by
    obtain ⟨e, g⟩ := yp_all t
    refine ⟨by rw [List.map_cons, ← e, ← h.1], fun b hb => ?_⟩
    rcases List.mem_cons.mp hb with rfl | hb
    · exact h.2
    · exact g b hb
theorem get_fst {bs : List (V × List Int)} {i : Nat} {x : V} (h : (bs.map (·.1))[i]? = some x) : ∃ b, bs[i]? = some b ∧ x = b.1 ∧ b ∈ bs := by
  rw [List.getElem?_map] at h
  cases e : bs[i]? with
  | none => rw [e] at h; cases h
  | some b =>
    rw [e] at h
    cases h
    exact ⟨b, rfl, rfl, List.mem_of_getElem? e⟩
end GL
namespace GL
open PySem PySem.Spec PyProof.Rows L2
open PySem.W (EachIs)
theorem ti_zip {K : PySem.W.Frag} {H : Hp} : ∀ {acc : List V} {rs : List (List Int)}, EachIs (TI K H) acc rs → ∃ bs : List (V × List Int), acc = bs.map (·.1) ∧ rs = bs.map (·.2) ∧ ∀ b ∈ bs, TI K H b.1 b.2
  | _, _, .nil => ⟨[], rfl, rfl, fun _ z => nomatch z⟩
  | a :: _, r :: _, .cons h t => by
    obtain ⟨bs, rfl, rfl, g⟩ := ti_zip t
    refine ⟨(a, r) :: bs, rfl, rfl, fun b hb => ?_⟩
    rcases List.mem_cons.mp hb with rfl | hb
    · exact h
    · exact g b hb
theorem ti_row {K : PySem.W.Frag} {H : Hp} {b : V × List Int} (h : TI K H b.1 b.2) (n : b.2 ≠ []) : RowAt K H b := by
  obtain ⟨t, e1, e2⟩ := h
  exact ⟨t, e1, e2, n⟩
end GL
namespace GL
open PySem PySem.Spec PyProof.Rows L2
theorem fm_if {α : Type} (p : α → Bool) : ∀ l : List α, (l.filterMap fun v => if p v = true then some v else none) = l.filter p
  | [] => rfl
  | a :: l => by
    have ih := fm_if p l
    by_cases h : p a = true
    · rw [List.filterMap_cons, List.filter_cons_of_pos h, if_pos h, ih]
    · rw [List.filterMap_cons, List.filter_cons_of_neg h, if_neg h, ih]
def oV : Option Int → V
  | none => .non
  | some i => .int i
theorem inV_ints (x : Int) : ∀ ns : List Int, inV (.int x) (ns.map V.int) = decide (x ∈ ns)
  | [] => rfl
  | n :: ns => by
    have ih := inV_ints x ns
    unfold inV at *
    rw [List.map_cons, List.any_cons, ih]
    by_cases h : n = x
    · simp [eqV, h]
    · have h' : ¬ x = n := fun e => h e.symm
      simp [eqV, h, h']
theorem flat_ints : ∀ ns : List Int, (ns.map V.int).all flatV = true
  | [] => rfl
  | n :: ns => by
    rw [List.map_cons, List.all_cons, flat_ints ns]
    rfl
end GL
namespace GL
open PySem PySem.Spec PyProof.Rows L2
/-- min(xs, default=None), max(xs, default=None) -/
def rBestU (K : PySem.W.Frag) (R : List Int → Option Int → Prop) : List V → List V → Hp → VK → Prop := fun vs zs H Q =>
  ∃ (a : Addr) (ns : List Int), vs = [.ref a] ∧ zs = [.non] ∧ SqL K H a (ns.map V.int) ∧ ∀ o, R ns o → Q (oV o) H
theorem cr_minU {X : Cx} (hc : X.calm = true) : CallRK X (.builtin "min") [Str.ofString "default"] (rBestU X.K K2.IsLo) := by
  intro pins s σ H vs zs us ws Q I r rz h
  obtain ⟨a, ns, e1, e2, hs, q⟩ := h
  exact cr_minD hc pins s σ H vs zs us ws Q I r rz ⟨a, ns, e1, e2, hs, fun z => q none (.inl ⟨z, rfl⟩), fun M h1 h2 => q (some M) (.inr ⟨M, rfl, h1, h2⟩)⟩
theorem cr_maxU {X : Cx} (hc : X.calm = true) : CallRK X (.builtin "max") [Str.ofString "default"] (rBestU X.K K2.IsHi) := by
  intro pins s σ H vs zs us ws Q I r rz h
  obtain ⟨a, ns, e1, e2, hs, q⟩ := h
  exact cr_maxD hc pins s σ H vs zs us ws Q I r rz ⟨a, ns, e1, e2, hs, fun z => q none (.inl ⟨z, rfl⟩), fun M h1 h2 => q (some M) (.inr ⟨M, rfl, h1, h2⟩)⟩
end GL
namespace GL
open PySem PySem.Spec PyProof.Rows L2
/-- another reading that says enough -/
theorem pe_imp {X : Cx} {e : Expr} {t t' : TE} (h : PE X e t) (f : ∀ σ H Q, t' σ H Q → t σ H Q) : PE X e t' := ⟨fun pins s σ H Q I hw => h.run pins s σ H Q I (f σ H Q hw)⟩
theorem dp_lints {K : PySem.W.Frag} {H : Hp} {a : Addr} {ns : List Int} (h : SqL K H a (ns.map V.int)) : Dp K H (.ref a) (.list (ns.map .int)) := .lst h (dp_ints ns)
theorem shaped_lints (ns : List Int) : SeqAt.shaped (.list (ns.map .int)) = true := by
  unfold SeqAt.shaped
  rw [PyData.canLay0, lay_ints, PyData.depth, PySem.W.depth_ints]
  rfl
theorem ne_lints (ns : List Int) : (!PyData.eqv (.list (ns.map .int)) (.list [])) = decide (ns ≠ []) := by
  have := eqvs_ints ns []
  rw [PyData.eqv]
  rw [List.map_nil] at this
  rw [this]
  cases ns <;> simp
/-- xs[0] if xs != [] else None; xs[-1] if xs != [] else None: ascending whole numbers -/
def tFirstOr (K : PySem.W.Frag) (i : Nat) : TE := fun σ H Q => ∃ (a : Addr) (ns : List Int), σ[i]? = some (some (.ref a)) ∧ SqL K H a (ns.map V.int) ∧ ns.Pairwise (· < ·) ∧ ∀ o H', Same H H' → K2.IsLo ns o → Q (oV o) H'
def tLastOr (K : PySem.W.Frag) (i : Nat) : TE := fun σ H Q => ∃ (a : Addr) (ns : List Int), σ[i]? = some (some (.ref a)) ∧ SqL K H a (ns.map V.int) ∧ ns.Pairwise (· < ·) ∧ ∀ o H', Same H H' → K2.IsHi ns o → Q (oV o) H'
theorem last_at {ns : List Int} (h : ns ≠ []) : ∃ l m, ns = l ++ [m] ∧ atI (ns.map V.int) (-1) = some (.int m) := by
  refine ⟨ns.dropLast, ns.getLast h, (List.dropLast_concat_getLast h).symm, ?_⟩
  have e : ns.map V.int = ns.dropLast.map V.int ++ [.int (ns.getLast h)] := by
    rw [← List.map_singleton, ← List.map_append, List.dropLast_concat_getLast h]
  rw [e]
  exact atI_last _ _
end GL

/-! small data: what is asked of them by == and repr -/
namespace GL
open PySem PySem.Spec PyProof.Rows L2
/-- no dict, no text; whole numbers of at most twelve digits; depth, weight -/
structure Ok (w dp : Nat) (d : PyData) : Prop where
  sh : d.showable = true
  nd : d.hasDict = false
  lay : d.canLay0 = true
  sm : d.leavesShort 13 = true
  dep : d.depth ≤ dp
  wt : d.weight ≤ w
structure OkAll (w dp : Nat) (ds : List PyData) : Prop where
  sh : PyData.showableAll ds = true
  nd : PyData.hasDictAll ds = false
  lay : PyData.canLayAll0 ds = true
  sm : PyData.leavesShortAll 13 ds = true
  dep : PyData.depthAll ds ≤ dp
  wt : PyData.weightAll ds ≤ w
theorem Ok.mono {w w' dp dp' : Nat} {d : PyData} (h : Ok w dp d) (a : w ≤ w') (b : dp ≤ dp') : Ok w' dp' d := ⟨h.sh, h.nd, h.lay, h.sm, Nat.le_trans h.dep b, Nat.le_trans h.wt a⟩
theorem OkAll.mono {w w' dp dp' : Nat} {d : List PyData} (h : OkAll w dp d) (a : w ≤ w') (b : dp ≤ dp') : OkAll w' dp' d := ⟨h.sh, h.nd, h.lay, h.sm, Nat.le_trans h.dep b, Nat.le_trans h.wt a⟩
theorem Ok.none : Ok 0 0 .none := ⟨by simp [PyData.showable], by simp [PyData.hasDict], by simp [PyData.canLay0], by simp [PyData.leavesShort], by simp [PyData.depth], by simp [PyData.weight]⟩
theorem Ok.bool (b : Bool) : Ok 0 0 (.bool b) := ⟨by simp [PyData.showable], by simp [PyData.hasDict], by simp [PyData.canLay0], by simp [PyData.leavesShort], by simp [PyData.depth], by simp [PyData.weight]⟩
theorem Ok.int {i : Int} (h : i.natAbs < 10 ^ 12) : Ok 41 0 (.int i) := by
  have l2 : i.natAbs.log2 < 40 := by
    by_cases z : i.natAbs = 0
    · rw [z]
      decide
    · exact (Nat.log2_lt z).mpr (Nat.lt_trans h (by decide))
  refine ⟨?_, by simp [PyData.hasDict], by simp [PyData.canLay0], ?_, by simp [PyData.depth], ?_⟩
  · simp only [PyData.showable, decide_eq_true_eq]
    omega
  · simp only [PyData.leavesShort, decide_eq_true_eq]
    exact PyData.shown_int_le h
  · simp only [PyData.weight]
    split <;> omega
theorem OkAll.nil (dp : Nat) : OkAll 0 dp [] := ⟨by simp [PyData.showableAll], by simp [PyData.hasDictAll], by simp [PyData.canLayAll0], by simp [PyData.leavesShortAll], by simp [PyData.depthAll], by simp [PyData.weightAll]⟩
theorem Ok.cons' {w1 w2 dp : Nat} {d : PyData} {ds : List PyData} (h : Ok w1 dp d) (t : OkAll w2 dp ds) : OkAll (w1 + 1 + w2) dp (d :: ds) :=
  ⟨by simp [PyData.showableAll, h.sh, t.sh], by simp [PyData.hasDictAll, h.nd, t.nd], by simp [PyData.canLayAll0, h.lay, t.lay], by simp [PyData.leavesShortAll, h.sm, t.sm],
    by simp only [PyData.depthAll]; exact Nat.max_le.mpr ⟨h.dep, t.dep⟩, by simp only [PyData.weightAll]; have := h.wt; have := t.wt; omega⟩
theorem OkAll.map {α : Type} {w dp : Nat} {f : α → PyData} : ∀ {l : List α}, (∀ a ∈ l, Ok w dp (f a)) → OkAll (l.length * (w + 1)) dp (l.map f)
  | [], _ => (OkAll.nil dp).mono (Nat.zero_le _) (Nat.le_refl _)
  | a :: l, h => by
    have t := OkAll.map (l := l) fun b hb => h b (List.mem_cons_of_mem _ hb)
    refine ((h a List.mem_cons_self).cons' t).mono ?_ (Nat.le_refl _)
    rw [List.length_cons, Nat.succ_mul]
    omega
theorem Ok.tuple {w dp : Nat} {ds : List PyData} (h : OkAll w dp ds) : Ok w (dp + 1) (.tuple ds) :=
  ⟨by simp [PyData.showable, h.sh], by simp [PyData.hasDict, h.nd], by simp [PyData.canLay0, h.lay], by simp [PyData.leavesShort, h.sm], by simp only [PyData.depth]; have := h.dep; omega, by simp only [PyData.weight]; exact h.wt⟩
theorem Ok.list {w dp : Nat} {ds : List PyData} (h : OkAll w dp ds) : Ok w (dp + 1) (.list ds) :=
  ⟨by simp [PyData.showable, h.sh], by simp [PyData.hasDict, h.nd], by simp [PyData.canLay0, h.lay], by simp [PyData.leavesShort, h.sm], by simp only [PyData.depth]; have := h.dep; omega, by simp only [PyData.weight]; exact h.wt⟩
theorem Ok.shaped {w dp : Nat} {d : PyData} (h : Ok w dp d) (b : dp ≤ 60) : SeqAt.shaped d = true := by
  unfold SeqAt.shaped
  rw [h.lay, decide_eq_true (show d.depth ≤ 64 by have := h.dep; omega)]
  rfl
theorem Ok.shows {w dp : Nat} {d : PyData} (h : Ok w dp d) (a : w ≤ 1000000) (b : dp ≤ 60) : Shows d := by
  refine ⟨h.sh, h.nd, Nat.le_trans h.dep b, ?_⟩
  have := PyData.shown_le 13 (by decide) d h.sm
  have := h.wt
  rw [sizeLine_eq]
  omega
theorem ok_row {r : List Int} (h : ∀ v ∈ r, v.natAbs < 10 ^ 12) : Ok (r.length * 42) 1 (encR r) := Ok.tuple (OkAll.map fun a ha => Ok.int (h a ha))
theorem ok_rows {rs : List (List Int)} {k : Nat} (h : ∀ r ∈ rs, r.length ≤ k ∧ ∀ v ∈ r, v.natAbs < 10 ^ 12) : Ok (rs.length * (k * 42 + 1)) 2 (encRs rs) :=
  Ok.tuple (OkAll.map fun r hr => (ok_row (h r hr).2).mono (Nat.mul_le_mul_right _ (h r hr).1) (Nat.le_refl _))
theorem ok_tab {many : Int} {rs : List (List Int)} {k : Nat} (hm : many.natAbs < 10 ^ 12) (h : ∀ r ∈ rs, r.length ≤ k ∧ ∀ v ∈ r, v.natAbs < 10 ^ 12) :
    Ok (41 + 1 + (rs.length * (k * 42 + 1) + 1 + 0)) 3 (encT many rs) :=
  Ok.tuple (((Ok.int hm).mono (Nat.le_refl _) (by omega)).cons' (((ok_rows h)).cons' (OkAll.nil 2)))
end GL

/-! the end of a row: the defs as the top leaves them -/
namespace GL
open PySem PySem.Spec PyProof.Rows L2
section
variable {P : Program} {w : World} {K : PySem.W.Frag} {mg : Str → Option Value} {base : Heap}
theorem fn_mk {x : Str} {st : Stmt} {N ps : List Str} {k : Nat} {sp : Sp} {f : Addr} {fd : FuncData} (F : L2.Fun K x x st f fd) (S : FnScope N ps (defScope st))
    (len : ∀ vs H Q E, sp vs H Q E → vs.length = ps.length)
    (body : ∀ (f : Addr) (cdv : Value) (A : Around) (outer : List Env) (s : Shared) (H : Hp) (vs : List V) (Q : VK) (E : XK),
      A.guards = some [] → Room k (A.deeper (envOfC x (defScope st) s.heap.objs.size f cdv)) → sp vs H Q E →
      ∃ t, PSs (cxOf CX0 P w K mg base N x (defScope st) f cdv A outer s H E).nox (defBody st) t ∧
        t { nx := fun _ H' => Q .non H', rt := Q } (start N vs) H) :
    Fn0 P w K mg base CX0 (k + 1) f fd ps sp :=
  fn0_of F S len (fun cdv A outer s H vs Q E hG hr h => body f cdv A outer s H vs Q E hG hr h)
theorem def_at {h : Heap} {x : Str} {st : Stmt} {ps : List Str} {f : Addr} {fd : FuncData} (X : K.In h) (G : h.Ns mainGlobals mg) (a : PySem.W.nsIn K mainGlobals x = some (some (.ref f)))
    (F : L2.Fun K x x st f fd) (b : Binds K fd ps []) : DefAt K mg x st ps := ⟨f, fd, F, PySem.W.mg_of X G a, b⟩
end
end GL

/-! data of all kinds, dicts among them: == and repr of the same data -/
namespace PySem.SeqAt
open AutoSeq1 (wpAny_loadPart')
open MeetsSeq MeetsSeq2 MeetsSeq3 SeqRoads2
section
variable {prog : Program} {w : World}
theorem gv_tup_eq (l b : Addr) (us vs : Array Value) (n n2 : Nat) (dd dd2 : Option Addr) (sl sl2 : Array (Option Value)) (hsz : us.size = vs.size) :
    MeetsIn prog w (Builtin.«tuple.__eq__» ⟨[.ref l, .ref b], []⟩)
      (fun A R s => s.heap.get? l = some { cls := .type "tuple", dict := dd, data := .seq us n, slots := sl } ∧
        s.heap.get? b = some { cls := .type "tuple", dict := dd2, data := .seq vs n2, slots := sl2 } ∧
        (∀ j (h1 : j < us.size) (h2 : j < vs.size), EqP prog w A.in1 s us[j] vs[j] true) ∧ R (.ok (.ret (.bool true))) s) := by
  intro A R s h
  obtain ⟨hp, g, d, tk, os⟩ := s
  obtain ⟨hl, hb, he, h⟩ := h
  have f2 := AutoSeq1.sub_tuple_tuple
  have hZ : (us.toList.zip vs.toList).length = us.size := by simp [hsz]
  wp_walk using wpAny_loadPart' hl, wpAny_loadPart' hb, wpAny_forIn_list _ (fun rest c s' => c.1 = none ∧ s' = ⟨hp, g, d, tk, os⟩ ∧ ∃ i, rest = (us.toList.zip vs.toList).drop i) _
  case turn =>
    rintro ⟨y, x⟩ rest c s' ⟨hc, rfl, i, hz⟩
    have hlt : i < (us.toList.zip vs.toList).length := by
      rcases Nat.lt_or_ge i (us.toList.zip vs.toList).length with q | q
      · exact q
      · rw [List.drop_of_length_le q] at hz
        cases hz
    have h1 : i < us.size := hZ ▸ hlt
    have h2 : i < vs.size := hsz ▸ h1
    rw [List.drop_eq_getElem_cons hlt] at hz
    injection hz with e1 e2
    have ey : y = us[i] := by simpa using congrArg Prod.fst e1
    have ex : x = vs[i] := by simpa using congrArg Prod.snd e1
    subst ey
    subst ex
    refine wpAny_bind (he i h1 h2 _ _ ?_)
    wp_walk
    exact ⟨rfl, rfl, i + 1, e2⟩
  case fin =>
    rintro ⟨b1, b2⟩ s' ⟨hc, rfl, i, hz⟩
    simp only at hc
    subst hc
    wp_walk
    simpa [Builtin.Tuple.tupleCompareSizes, hsz] using h
  case h => exact ⟨rfl, rfl, 0, rfl⟩
theorem gv_rc_tup {A : Around} {s : Shared} {l b : Addr} {us vs : Array Value} (hl : s.heap.IsTuple l us) (hb : s.heap.IsTuple b vs) (hsz : us.size = vs.size) (hu : A.units < cLine)
    (he : ∀ j (h1 : j < us.size) (h2 : j < vs.size), EqP prog w A.in1 s us[j] vs[j] true) (E Q : Value → Shared → Prop) (q : Q (.bool true) s) :
    wpAny (model prog w) A (richCompare .Eq (.ref l) (.ref b)) Q E s := by
  obtain ⟨⟨c1, d1, x1, k1⟩, ho, hc, n, hd⟩ := id hl
  obtain ⟨⟨c2, d2, x2, k2⟩, ho2, hc2, n2, hd2⟩ := id hb
  simp only at hc hd hc2 hd2
  subst hc
  subst hd
  subst hc2
  subst hd2
  have ta : s.TypeIs (.ref l) "tuple" := ⟨_, ho, rfl⟩
  have tb : s.TypeIs (.ref b) "tuple" := ⟨_, ho2, rfl⟩
  exact wpAny_richCompare_same_room (op := .Eq) ta tb F.slot_tuple_eq (call_meetsIn F.slot_tuple_eq ta F.entry_tuple_eq (F.args_tuple_eq_2 _ _) (gv_tup_eq l b us vs n n2 d1 d2 k1 k2 hsz)
    ⟨ho, ho2, he, show Value.bool true ≠ Value.notImplemented ∧ Q (.bool true) s from ⟨(fun x => nomatch x), q⟩⟩) hu
end
end PySem.SeqAt
namespace GL
open PySem PySem.Spec PyProof.Rows L2
/-- a key as a datum -/
def kD : Key → PyData
  | .inl i => .int i
  | .inr x => .str x
mutual
/-- a value's datum; lists stand off sys.modules -/
inductive Dv (K : PySem.W.Frag) (H : Hp) : V → PyData → Prop
  | non : Dv K H .non .none
  | bl (b : Bool) : Dv K H (.bl b) (.bool b)
  | int (i : Int) : Dv K H (.int i) (.int i)
  | str (x : Str) : Dv K H (.str x) (.str x)
  | lst {a : Addr} {xs : List V} {ds : List PyData} : H a = some (.lst xs) → a ≠ sysModules → DvAll K H xs ds → Dv K H (.ref a) (.list ds)
  | tup {a : Addr} {xs : List V} {ds : List PyData} : SqT K H a xs → DvAll K H xs ds → Dv K H (.ref a) (.tuple ds)
  | dk {a : Addr} {kvs : List (Key × V)} {ds : List (PyData × PyData)} : H a = some (.dK kvs) → (kvs.map (·.1)).Nodup → DvKv K H kvs ds → Dv K H (.ref a) (.dict ds)
inductive DvAll (K : PySem.W.Frag) (H : Hp) : List V → List PyData → Prop
  | nil : DvAll K H [] []
  | cons {v : V} {vs : List V} {d : PyData} {ds : List PyData} : Dv K H v d → DvAll K H vs ds → DvAll K H (v :: vs) (d :: ds)
inductive DvKv (K : PySem.W.Frag) (H : Hp) : List (Key × V) → List (PyData × PyData) → Prop
  | nil : DvKv K H [] []
  | cons {k : Key} {v : V} {kvs : List (Key × V)} {d : PyData} {ds : List (PyData × PyData)} : Dv K H v d → DvKv K H kvs ds → DvKv K H ((k, v) :: kvs) ((kD k, d) :: ds)
end
section
variable {X : Cx} {pins : List (Addr × Obj)} {σ : L2.St} {H : Hp} {s : Shared}
theorem key_reads {P : Program} {w : World} {h : Heap} {k : Key} {u : Value} (e : (mixKind P w).is k u = true) : Reads h u (kD k) [] := by
  have e' : keyIs k u = true := e
  cases k with
  | inl i =>
    rcases keyIs_shape e' with ⟨j, t, e1, rfl⟩ | ⟨x, t, e1, rfl⟩
    · cases e1
      exact .int _ _
    · cases e1
  | inr x =>
    rcases keyIs_shape e' with ⟨j, t, e1, rfl⟩ | ⟨y, t, e1, rfl⟩
    · cases e1
    · cases e1
      exact .str _ _
end
end GL
namespace GL
open PySem PySem.Spec PyProof.Rows L2
section
variable {X : Cx} {pins : List (Addr × Obj)} {σ : L2.St} {H : Hp} {s : Shared}
mutual
theorem Dv.reads (I : Inv X pins σ H s) : ∀ (d : PyData) (v : V) (u : Value), Dv X.K H v d → RelV v u → ∃ as, Reads s.heap u d as ∧ sysModules ∉ as
  | .none, _, _, h, r => by
    cases h
    cases r
    exact ⟨_, .none, List.not_mem_nil⟩
  | .bool b, _, _, h, r => by
    cases h
    cases r
    exact ⟨_, .bool b, List.not_mem_nil⟩
  | .int i, _, _, h, r => by
    cases h
    obtain ⟨t, rfl⟩ := r
    exact ⟨_, .int i t, List.not_mem_nil⟩
  | .str x, _, _, h, r => by
    cases h
    obtain ⟨t, rfl⟩ := r
    exact ⟨_, .str x t, List.not_mem_nil⟩
  | .list ds, _, _, h, r => by
    cases h with
    | lst hs ne ha =>
      cases r
      obtain ⟨its, rv, ⟨o, n, ho, hc, _, hd⟩, _⟩ := I.list (SqL.of hs)
      obtain ⟨as, hr, hn⟩ := Dv.readsAll I ds _ its ha rv
      refine ⟨_, .list ho hc hd hr, fun z => ?_⟩
      rcases List.mem_cons.mp z with e | z
      · exact ne e.symm
      · exact hn z
  | .tuple ds, _, _, h, r => by
    cases h with
    | tup hs ha =>
      cases r
      obtain ⟨its, rv, ⟨o, ho, hc, n, hd⟩, _⟩ := I.tuple hs
      obtain ⟨as, hr, hn⟩ := Dv.readsAll I ds _ its ha rv
      exact ⟨_, .tuple ho hc hd hr, hn⟩
  | .dict ds, _, _, h, r => by
    cases h with
    | dk hs nd ha =>
      cases r
      obtain ⟨_, ya, vs, rv, o, es, ep, ho, hc, hd, _, hp, _⟩ := dk_of I.hok hs
      obtain ⟨as, bs, h1, h2, n1, n2⟩ := Dv.readsKv I ds _ vs es.toList ha rv hp
      refine ⟨_, .dict ho hc.1 hd h1 h2, fun z => ?_⟩
      rcases List.mem_append.mp z with z | z
      · rcases List.mem_cons.mp z with e | z
        · exact beq_eq_false_iff_ne.mp ya e.symm
        · exact n1 z
      · exact n2 z
theorem Dv.readsAll (I : Inv X pins σ H s) : ∀ (ds : List PyData) (vs : List V) (us : List Value), DvAll X.K H vs ds → Vals vs us → ∃ as, ReadsAll s.heap us ds as ∧ sysModules ∉ as
  | [], _, _, h, r => by
    cases h
    cases r
    exact ⟨_, .nil, List.not_mem_nil⟩
  | d :: ds, _, _, h, r => by
    cases h with
    | cons h1 h2 =>
      cases r with
      | cons r1 r2 =>
        obtain ⟨as, q1, n1⟩ := Dv.reads I d _ _ h1 r1
        obtain ⟨bs, q2, n2⟩ := Dv.readsAll I ds _ _ h2 r2
        refine ⟨_, .cons q1 q2, fun z => ?_⟩
        rcases List.mem_append.mp z with z | z
        · exact n1 z
        · exact n2 z
theorem Dv.readsKv (I : Inv X pins σ H s) : ∀ (ds : List (PyData × PyData)) (kvs : List (Key × V)) (vs : List (Key × Value)) (es : List DictEntry), DvKv X.K H kvs ds → KV kvs vs →
    Pairs (mixKind X.prog X.w) es vs → ∃ as bs, ReadsAll s.heap (es.map (·.key)) (ds.map (·.1)) as ∧ ReadsAll s.heap (es.map (·.val)) (ds.map (·.2)) bs ∧ sysModules ∉ as ∧ sysModules ∉ bs
  | [], _, _, _, h, r, p => by
    cases h
    cases r
    cases p
    exact ⟨_, _, .nil, .nil, List.not_mem_nil, List.not_mem_nil⟩
  | (_, d) :: ds, _, _, _, h, r, p => by
    cases h with
    | cons h1 h2 =>
      cases r with
      | @cons _ q _ qs r1 r2 =>
        cases p with
        | cons p1 p2 p3 =>
          obtain ⟨e1, rv⟩ := r1
          obtain ⟨as, bs, q1, q2, n1, n2⟩ := Dv.readsKv I ds _ _ _ h2 r2 p3
          obtain ⟨cs, q3, n3⟩ := Dv.reads I d _ _ h1 rv
          rw [← p2] at q3
          have q4 := key_reads (h := s.heap) p1
          rw [← e1] at q4
          refine ⟨_, _, .cons q4 q1, .cons q3 q2, n1, fun z => ?_⟩
          rcases List.mem_append.mp z with z | z
          · exact n3 z
          · exact n2 z
end
end
end GL
namespace GL
open PySem PySem.Spec PyProof.Rows L2
open PySem.Calls
theorem kD_inj {k l : Key} (h : kD k = kD l) : k = l := by
  cases k <;> cases l <;> cases h <;> rfl
/-- the same datum, of small depth -/
def Twin (K : PySem.W.Frag) (H : Hp) (n : Nat) (x y : V) : Prop := ∃ d, d.depth < n ∧ Dv K H x d ∧ Dv K H y d
theorem twins {K : PySem.W.Frag} {H : Hp} {n : Nat} : ∀ {ds : List PyData} {xs ys : List V}, DvAll K H xs ds → DvAll K H ys ds → PyData.depthAll ds < n → Paired (Twin K H n) xs ys
  | [], _, _, h1, h2, _ => by
    cases h1
    cases h2
    exact .nil
  | d :: ds, _, _, h1, h2, hn => by
    cases h1 with
    | cons a1 b1 =>
      cases h2 with
      | cons a2 b2 =>
        rw [PyData.depthAll] at hn
        exact .cons ⟨d, Nat.lt_of_le_of_lt (Nat.le_max_left _ _) hn, a1, a2⟩ (twins b1 b2 (Nat.lt_of_le_of_lt (Nat.le_max_right _ _) hn))
theorem twinKv {K : PySem.W.Frag} {H : Hp} {n : Nat} : ∀ {ds : List (PyData × PyData)} {ks ls : List (Key × V)}, DvKv K H ks ds → DvKv K H ls ds → PyData.depthKv ds < n →
    ks.length = ls.length ∧ ∀ p ∈ ks, ∃ u, (p.1, u) ∈ ls ∧ Twin K H n p.2 u
  | [], _, _, h1, h2, _ => by
    cases h1
    cases h2
    exact ⟨rfl, fun p hp => nomatch hp⟩
  | (kd, d) :: ds, _, _, h1, h2, hn => by
    rw [PyData.depthKv] at hn
    have hd : d.depth < n := by omega
    have hr : PyData.depthKv ds < n := by omega
    generalize e : (kd, d) :: ds = l at h1 h2
    cases h1 with
    | nil => cases e
    | @cons k v kvs d1 ds1 a1 b1 =>
      generalize e2 : (kD k, d1) :: ds1 = m at h2
      cases h2 with
      | nil => cases e2
      | @cons k2 v2 kvs2 d2 ds2 a2 b2 =>
        obtain ⟨e3, e4⟩ := List.cons.inj e
        obtain ⟨e5, e6⟩ := List.cons.inj e2
        obtain ⟨_, rfl⟩ := Prod.mk.inj e3
        obtain ⟨e7, rfl⟩ := Prod.mk.inj e5
        subst e4
        subst e6
        have ek := kD_inj e7
        subst ek
        obtain ⟨q1, q2⟩ := twinKv b1 b2 hr
        refine ⟨by rw [List.length_cons, List.length_cons, q1], fun p hp => ?_⟩
        rcases List.mem_cons.mp hp with rfl | hp
        · exact ⟨v2, List.mem_cons_self, d, hd, a1, a2⟩
        · obtain ⟨u, hu, t⟩ := q2 p hp
          exact ⟨u, List.mem_cons_of_mem _ hu, t⟩
section
variable {X : Cx} {pins : List (Addr × Obj)} {σ : L2.St} {H : Hp} {s : Shared}
theorem twin_rc (I : Inv X pins σ H s) {n : Nat} {A : Around} (hu : A.units < cLine) (ih : ∀ x y v u, Twin X.K H n x y → RelV x v → RelV y u → SeqAt.EqP X.prog X.w A.in1 s v u true)
    {x y : V} {v u : Value} (h : Twin X.K H (n + 1) x y) (rx : RelV x v) (ry : RelV y u) (E Q : Value → Shared → Prop) (q : Q (.bool true) s) :
    wpAny (model X.prog X.w) A (richCompare .Eq v u) Q E s := by
  obtain ⟨d, hd, h1, h2⟩ := h
  cases d with
  | none =>
    cases h1
    cases h2
    cases rx
    cases ry
    exact SeqAt.RcAt.none_none _ _ E Q q
  | bool b =>
    cases h1
    cases h2
    cases rx
    cases ry
    exact SeqAt.RcAt.bool_bool b b _ _ E Q (by rw [beq_self_eq_true]; exact q)
  | int i =>
    cases h1
    cases h2
    obtain ⟨t, rfl⟩ := rx
    obtain ⟨t2, rfl⟩ := ry
    exact SeqAt.RcAt.int_int i t i t2 _ _ E Q (by rw [beq_self_eq_true]; exact q)
  | str z =>
    cases h1
    cases h2
    obtain ⟨t, rfl⟩ := rx
    obtain ⟨t2, rfl⟩ := ry
    exact SeqAt.RcAt.str_str z t z t2 _ _ E Q (by rw [beq_self_eq_true]; exact q)
  | list ds =>
    rw [PyData.depth] at hd
    cases h1 with
    | lst e1 m1 a1 =>
      cases h2 with
      | lst e2 m2 a2 =>
        cases rx
        cases ry
        obtain ⟨us, r1, p1, _⟩ := I.list (SqL.of e1)
        obtain ⟨ws, r2, p2, _⟩ := I.list (SqL.of e2)
        have pr := twins (n := n) a1 a2 (by omega)
        have hsz : us.toArray.size = ws.toArray.size := by
          rw [List.size_toArray, List.size_toArray, ← r1.length, ← r2.length]
          exact Paired.length pr
        refine SeqAt.rcP_lists (e := fun _ => true) p1.isList p2.isList hsz hu (fun j h1 h2 => ?_) E Q ?_
        · have k := items_run ih pr r1 r2 j (by simpa using h1) (by simpa using h2)
          simpa using k
        · rw [show ((List.range us.toArray.size).all fun _ => true) = true from List.all_eq_true.mpr fun _ _ => rfl]
          exact q
  | tuple ds =>
    rw [PyData.depth] at hd
    cases h1 with
    | tup e1 a1 =>
      cases h2 with
      | tup e2 a2 =>
        cases rx
        cases ry
        obtain ⟨us, r1, p1, _⟩ := I.tuple e1
        obtain ⟨ws, r2, p2, _⟩ := I.tuple e2
        have pr := twins (n := n) a1 a2 (by omega)
        have hsz : us.toArray.size = ws.toArray.size := by
          rw [List.size_toArray, List.size_toArray, ← r1.length, ← r2.length]
          exact Paired.length pr
        refine SeqAt.gv_rc_tup p1 p2 hsz hu (fun j h1 h2 => ?_) E Q q
        have k := items_run ih pr r1 r2 j (by simpa using h1) (by simpa using h2)
        simpa using k
  | dict ds =>
    rw [PyData.depth] at hd
    cases h1 with
    | dk e1 nd1 a1 =>
      cases h2 with
      | dk e2 nd2 a2 =>
        cases rx
        cases ry
        obtain ⟨_, ya, va, ra, da⟩ := dk_of I.hok e1
        obtain ⟨_, yb, vb, rb, db⟩ := dk_of I.hok e2
        obtain ⟨hl, hp⟩ := twinKv (n := n) a1 a2 (by omega)
        refine PySem.W.rcP_dicts (knd := mixKind X.prog X.w) (r := true) ya yb da db hu (fun _ => hits_run ih rb ra fun p hm => ?_) E Q ?_
        · obtain ⟨u, hu', t⟩ := hp p hm
          exact ⟨u, val_nodup nd2 _ hu', t⟩
        · have e : va.length = vb.length := by rw [← ra.length, ← rb.length]; exact hl
          rw [show (va.length == vb.length && true) = true from by rw [e]; simp]
          exact q
theorem twin_eq (I : Inv X pins σ H s) : ∀ (n : Nat) (A : Around), A.units + n < cLine → ∀ (x y : V) (v u : Value), Twin X.K H n x y → RelV x v → RelV y u → SeqAt.EqP X.prog X.w A s v u true
  | 0, _, _, _, _, _, _, ⟨_, h, _⟩, _, _ => absurd h (Nat.not_lt_zero _)
  | n + 1, A, hu, x, y, v, u, h, rx, ry => by
    have step := twin_rc I (A := A) (by omega) (twin_eq I n A.in1 (by show A.units + 1 + n < cLine; omega)) h rx ry
    obtain ⟨d, hd, h1, h2⟩ := h
    by_cases isr : ∃ a b, x = .ref a ∧ y = .ref b
    · obtain ⟨a, b, rfl, rfl⟩ := isr
      cases (show v = Value.ref a from rx)
      cases (show u = Value.ref b from ry)
      by_cases e : a = b
      · subst e
        exact (SeqAt.EqAt.same _).eqP
      · exact SeqAt.eqP_refs e step
    · have flat : x = y ∧ flatB x = true := by
        cases h1 <;> cases h2 <;> first | exact ⟨rfl, rfl⟩ | exact absurd ⟨_, _, rfl, rfl⟩ isr
      obtain ⟨rfl, f⟩ := flat
      exact (eqAt_same rx ry f).eqP
end
section
variable {X : Cx}
/-- x == y, the same datum -/
def rEqW (K : PySem.W.Frag) : R2 := fun x y H Q => ∃ d, d.depth ≤ 60 ∧ Dv K H x d ∧ Dv K H y d ∧ Q (.bl true) H
theorem op_eqW (hu : X.A.units + 64 < cLine) : OpR X (compareOp .Eq) (rEqW X.K) := by
  intro pins s σ H x y v u Q I rx ry h
  obtain ⟨d, hd, h1, h2, q⟩ := h
  exact twin_rc I (n := 61) (A := X.A) (by omega) (twin_eq I 61 X.A.in1 (by show X.A.units + 1 + 61 < cLine; omega)) ⟨d, by omega, h1, h2⟩ rx ry _ _ ⟨.bl true, H, I, rfl, q⟩
/-- the text of a datum fits -/
def ShowsW (d : PyData) : Prop := d.showable = true ∧ d.depth ≤ 60 ∧ d.shown.length ≤ sizeLine
def rReprW (K : PySem.W.Frag) : List V → Hp → VK → Prop := fun xs H Q => ∃ x d, xs = [x] ∧ Dv K H x d ∧ ShowsW d ∧ Q (.str d.shown) H
theorem call_reprW {X : Cx} (hG : X.A.guards = some []) (hu : X.A.units + 64 < cLine) : CallR X (.builtin "repr") (rReprW X.K) := by
  intro pins s σ H xs us Q I r h
  obtain ⟨x, d, rfl, hd, ⟨h1, h3, h4⟩, q⟩ := h
  cases r with
  | cons rx rn =>
    cases rn
    by_cases isr : ∃ a, x = .ref a
    · obtain ⟨a, rfl⟩ := isr
      cases rx
      obtain ⟨as, hr, hn⟩ := Dv.reads I d _ _ hd rfl
      refine repr_of_reads' hr h1 (fun _ => hn) hG (by omega) (fun _ _ e => e) (fun h' u tk hk => ?_) h4
      exact ⟨.str d.shown, H, I.kept hk, ⟨_, rfl⟩, q⟩
    · cases hd with
      | non =>
        cases rx
        refine PySem.P.repr_of_none ⟨.str "None", H, I.tok _, ⟨_, rfl⟩, ?_⟩
        simpa [PyData.shown] using q
      | bl b =>
        cases rx
        refine PySem.P.repr_of_bool ⟨.str (if b then "True" else "False"), H, I.tok _, ⟨_, rfl⟩, ?_⟩
        simpa [PyData.shown] using q
      | int i =>
        obtain ⟨t, rfl⟩ := rx
        refine PySem.P.repr_of_int (by simpa [PyData.showable] using h1) ⟨.str (Str.ofString (toString i)), H, I.tok _, ⟨_, rfl⟩, ?_⟩
        simpa [PyData.shown] using q
      | str z =>
        obtain ⟨t, rfl⟩ := rx
        refine PySem.P.repr_of_str ⟨.str (PySem.reprText z), H, I.tok _, ⟨_, rfl⟩, ?_⟩ (by simpa [PyData.shown] using h4)
        simpa [PyData.shown] using q
      | lst => exact absurd ⟨_, rfl⟩ isr
      | tup => exact absurd ⟨_, rfl⟩ isr
      | dk => exact absurd ⟨_, rfl⟩ isr
end
end GL
namespace GL
open PySem PySem.Spec PyProof.Rows L2
section
variable {X : Cx}
/-- [a, b, ..], with where it does not stand -/
def tLstN (t : TA) : TE := fun σ H Q => t σ H fun xs H1 => xs.length ≤ sizeLine ∧ ∀ p, H1 p = none → p ≠ sysModules → Q (.ref p) (upd H1 p (.lst xs))
theorem pe_lstN {es : List Expr} {pos : Pos} {t : TA} (h : PA X es t) : PE X (.List es pos) (tLstN t) := by
  refine ⟨fun pins s σ H Q I hq => ?_⟩
  refine wpAny_List_spliced (thn (h.run pos pins s σ H _ I hq) fun us s1 ⟨xs, H1, I1, r, z, q⟩ => ⟨by rw [← r.length]; exact z, ?_⟩)
  refine ⟨.ref s1.heap.objs.size, upd H1 s1.heap.objs.size (.lst xs), I1.laid (t' := s1.toks) (fun b u e => Heap.get?_push_of_some _ e) (Nat.le_refl _) ⟨z, us, 0, r, Heap.get?_push_size _ rfl⟩, rfl, ?_⟩
  exact q _ (I1.hok.fresh (Nat.le_refl _)) (Nat.ne_of_gt I1.big)
end
theorem DvAll.mono' {K : PySem.W.Frag} {H H' : Hp} (f : ∀ v d, Dv K H v d → Dv K H' v d) : ∀ {vs : List V} {ds : List PyData}, DvAll K H vs ds → DvAll K H' vs ds
  | [], _, h => by
    cases h
    exact .nil
  | _ :: _, _, h => by
    cases h with
    | cons a b => exact .cons (f _ _ a) (DvAll.mono' f b)
mutual
/-- what stands stays -/
theorem Dv.same {K : PySem.W.Frag} {H H' : Hp} (k : Same H H') : ∀ (d : PyData) (v : V), Dv K H v d → Dv K H' v d
  | .none, _, h => by
    cases h
    exact .non
  | .bool _, _, h => by
    cases h
    exact .bl _
  | .int _, _, h => by
    cases h
    exact .int _
  | .str _, _, h => by
    cases h
    exact .str _
  | .list ds, _, h => by
    cases h with
    | lst a b c => exact .lst (k _ _ a) b (DvAll.same k ds _ c)
  | .tuple ds, _, h => by
    cases h with
    | tup a c => exact .tup (TupK.same k _ _ _ a) (DvAll.same k ds _ c)
  | .dict ds, _, h => by
    cases h with
    | dk a b c => exact .dk (k _ _ a) b (DvKv.same k ds _ c)
theorem DvAll.same {K : PySem.W.Frag} {H H' : Hp} (k : Same H H') : ∀ (ds : List PyData) (vs : List V), DvAll K H vs ds → DvAll K H' vs ds
  | [], _, h => by
    cases h
    exact .nil
  | d :: ds, _, h => by
    cases h with
    | cons a b => exact .cons (Dv.same k d _ a) (DvAll.same k ds _ b)
theorem DvKv.same {K : PySem.W.Frag} {H H' : Hp} (k : Same H H') : ∀ (ds : List (PyData × PyData)) (vs : List (Key × V)), DvKv K H vs ds → DvKv K H' vs ds
  | [], _, h => by
    cases h
    exact .nil
  | (_, d) :: ds, _, h => by
    cases h with
    | cons a b => exact .cons (Dv.same k d _ a) (DvKv.same k ds _ b)
end
def spAlikeW (K : PySem.W.Frag) : Sp := fun vs H Q _ => ∃ (x y : V) (d : PyData), vs = [x, y] ∧ Dv K H x d ∧ Dv K H y d ∧ ShowsW d ∧ Q (.bl true) H
end GL
namespace GL
open PySem PySem.Spec PyProof.Rows L2
theorem dv_ints {K : PySem.W.Frag} {H : Hp} : ∀ l : List Int, DvAll K H (l.map V.int) (l.map PyData.int)
  | [] => .nil
  | i :: l => .cons (.int i) (dv_ints l)
theorem TI.dv {K : PySem.W.Frag} {H : Hp} {v : V} {r : List Int} (h : TI K H v r) : Dv K H v (encR r) := by
  obtain ⟨t, rfl, h⟩ := h
  exact .tup h (dv_ints r)
theorem dv_rows {K : PySem.W.Frag} {H : Hp} : ∀ {bs : List (V × List Int)}, (∀ b ∈ bs, TI K H b.1 b.2) → DvAll K H (bs.map (·.1)) (bs.map fun b => encR b.2)
  | [], _ => .nil
  | b :: bs, h => .cons (h b List.mem_cons_self).dv (dv_rows fun c hc => h c (List.mem_cons_of_mem _ hc))
theorem RowsAt.dv {K : PySem.W.Frag} {H : Hp} {a : Addr} {bs : List (V × List Int)} (h : RowsAt K H a bs) : Dv K H (.ref a) (encRs (bs.map (·.2))) := by
  refine .tup h.1 ?_
  rw [List.map_map]
  exact dv_rows h.2
theorem TabAt.dv {K : PySem.W.Frag} {H : Hp} {t a : Addr} {many : Int} {bs : List (V × List Int)} (h : TabAt K H t many a bs) : Dv K H (.ref t) (encT many (bs.map (·.2))) :=
  .tup h.1 (.cons (.int _) (.cons h.2.dv .nil))

/-! ### tables by their names -/
abbrev Tab := Int × List (List Int)
/-- a table stands at v -/
def TabV (K : PySem.W.Frag) (H : Hp) (v : V) (T : Tab) : Prop := ∃ t a bs, v = .ref t ∧ TabAt K H t T.1 a bs ∧ bs.map (·.2) = T.2
theorem TabV.mono {K : PySem.W.Frag} {H H' : Hp} {v : V} {T : Tab} (k : TupK H H') (h : TabV K H v T) : TabV K H' v T := by
  obtain ⟨t, a, bs, e, h, q⟩ := h
  exact ⟨t, a, bs, e, h.mono k, q⟩
theorem TabV.dv {K : PySem.W.Frag} {H : Hp} {v : V} {T : Tab} (h : TabV K H v T) : Dv K H v (encT T.1 T.2) := by
  obtain ⟨t, a, bs, rfl, h, q⟩ := h
  rw [← q]
  exact h.dv
/-- a dict's entries: names and tables -/
def TabsKv (K : PySem.W.Frag) (H : Hp) (kvs : List (Key × V)) (ts : List (Str × Tab)) : Prop := PySem.W.EachIs (fun p q => p.1 = .inr q.1 ∧ TabV K H p.2 q.2) kvs ts
def TabsAt (K : PySem.W.Frag) (H : Hp) (d : Addr) (ts : List (Str × Tab)) : Prop := ∃ kvs, H d = some (.dK kvs) ∧ TabsKv K H kvs ts
theorem TabsKv.mono {K : PySem.W.Frag} {H H' : Hp} {kvs : List (Key × V)} {ts : List (Str × Tab)} (k : TupK H H') (h : TabsKv K H kvs ts) : TabsKv K H' kvs ts :=
  each_mono (fun _ _ h => ⟨h.1, h.2.mono k⟩) h
abbrev encKv (ts : List (Str × Tab)) : List (PyData × PyData) := ts.map fun q => (.str q.1, encT q.2.1 q.2.2)
theorem TabsKv.dv {K : PySem.W.Frag} {H : Hp} : ∀ {kvs : List (Key × V)} {ts : List (Str × Tab)}, TabsKv K H kvs ts → DvKv K H kvs (encKv ts)
  | _, _, .nil => .nil
  | (k, v) :: _, q :: _, .cons ⟨e, h⟩ t => by
    cases (show k = .inr q.1 from e)
    exact .cons h.dv (TabsKv.dv t)
theorem TabsKv.keys {K : PySem.W.Frag} {H : Hp} : ∀ {kvs : List (Key × V)} {ts : List (Str × Tab)}, TabsKv K H kvs ts → kvs.map (·.1) = ts.map fun q => .inr q.1
  | _, _, .nil => rfl
  | (k, v) :: _, q :: _, .cons ⟨e, h⟩ t => by
    cases (show k = .inr q.1 from e)
    rw [List.map_cons, List.map_cons, TabsKv.keys t]
theorem nodup_inr {l : List Str} : l.Nodup → (l.map fun x => (Sum.inr x : Key)).Nodup := fun h => List.Pairwise.map _ (fun _ _ n e => n (Sum.inr.inj e)) h
theorem TabsKv.nodup {K : PySem.W.Frag} {H : Hp} {kvs : List (Key × V)} {ts : List (Str × Tab)} (h : TabsKv K H kvs ts) (n : (ts.map (·.1)).Nodup) : (kvs.map (·.1)).Nodup := by
  rw [h.keys]
  have := nodup_inr n
  rw [List.map_map] at this
  exact this
theorem TabsAt.dv {K : PySem.W.Frag} {H : Hp} {d : Addr} {ts : List (Str × Tab)} (h : TabsAt K H d ts) (n : (ts.map (·.1)).Nodup) : Dv K H (.ref d) (.dict (encKv ts)) := by
  obtain ⟨kvs, h1, h2⟩ := h
  exact .dk h1 (h2.nodup n) h2.dv
theorem putK_new {kvs : List (Key × V)} {k : Key} {v : V} (h : k ∉ kvs.map (·.1)) : putK kvs k v = kvs ++ [(k, v)] := by
  unfold putK
  rw [if_neg]
  intro z
  obtain ⟨p, hp, e⟩ := List.any_eq_true.mp z
  exact h (List.mem_map.mpr ⟨p, hp, of_decide_eq_true e⟩)
theorem mergeK_nodup : ∀ {more kvs : List (Key × V)}, ((kvs ++ more).map (·.1)).Nodup → mergeK kvs more = kvs ++ more
  | [], kvs, _ => by
    unfold mergeK
    simp
  | (k, v) :: more, kvs, h => by
    have hk : k ∉ kvs.map (·.1) := by
      rw [List.map_append, List.nodup_append] at h
      exact fun z => h.2.2 k z k (by simp) rfl
    have e : mergeK kvs ((k, v) :: more) = mergeK (putK kvs k v) more := rfl
    rw [e, putK_new hk, mergeK_nodup (by rw [List.append_assoc]; exact h), List.append_assoc]
    rfl
end GL

/-! comprehensions whose turns draw, with what is known of the turn's own item -/
namespace GL
open PySem PySem.Spec PyProof.Rows L2
open PySem.W (EachIs)
open PySem.Calls
section
variable {K : PySem.W.Frag} {g : TG} {tt : TT} {te : TE} {vs : List Nat} {σ : L2.St} {H1 : Hp} {D : Addr} {Qd : Hp → Prop} {Rel : Hp → Hp → Prop} {G : Hp → Prop} {β : Type}
def TurnX (g : TG) (tt : TT) (te : TE) (vs : List Nat) (σ : L2.St) (Rel : Hp → Hp → Prop) (G : Hp → Prop) (Y : Hp → V → β → Prop) (Z : β → Prop) (x : V) (H : Hp) : Prop :=
  ∀ (Qe : VK) (Qn : Hp → Prop), (∀ y H4 b, Rel H H4 → G H4 → Y H4 y b → Z b → Qe y H4) →
    g x (wipe σ vs) H fun σ2 H2 => wipe σ2 vs = wipe σ vs ∧ tt σ2 H2 fun b H3 => if b = true then te σ2 H3 Qe else Qn H3
def LpX (H1 : Hp) (D : Addr) (Rel : Hp → Hp → Prop) (G : Hp → Prop) (Y : Hp → V → β → Prop) (Z : Nat → β → Prop) (i : Nat) (H : Hp) : Prop :=
  ∃ (acc : List V) (bs : List β), Rel H1 H ∧ G H ∧ H D = some (.lst acc) ∧ EachIs (Y H) acc bs ∧ bs.length = i ∧ ∀ j b, bs[j]? = some b → Z j b
variable {Y : Hp → V → β → Prop} {Z : Nat → β → Prop}
theorem LpX.turn (L : LcG H1 D Rel G) (mono : ∀ H H' v b, TupK H H' → Y H v b → Y H' v b) {i : Nat} {x : V} {H : Hp} (hi : i < 1000) (hp : LpX H1 D Rel G Y Z i H)
    (step : Rel H1 H → G H → TurnX g tt te vs σ Rel G Y (Z i) x H) :
    g x (wipe σ vs) H fun σ2 H2 => wipe σ2 vs = wipe σ vs ∧ tt σ2 H2 fun b H3 =>
      if b = true then te σ2 H3 fun y H4 => ∃ acc, H4 D = some (.lst acc) ∧ acc.length < sizeLine ∧ LpX H1 D Rel G Y Z (i + 1) (upd H4 D (.lst (acc ++ [y])))
      else LpX H1 D Rel G Y Z (i + 1) H3 := by
  obtain ⟨acc, bs, r1, g1, hD, ea, rfl, hz⟩ := hp
  refine step r1 g1 _ _ fun y H4 b r4 g4 hy z4 => ?_
  have hD4 := L.keepD r4 hD
  have t4 := (L.tk2 g1 r4).trans (TupK.upd (o := .lst (acc ++ [y])) hD4)
  refine ⟨acc, hD4, small1000 (by have := ea.length; omega), acc ++ [y], bs ++ [b], L.upd (L.trans r1 r4) hD4, L.gU g4 hD4, upd_same,
    each_snoc (mono _ _ _ _ (TupK.upd hD4) hy) (each_mono (fun v b => mono _ _ _ _ t4) ea), by rw [List.length_append]; rfl, fun j c e => ?_⟩
  by_cases h : j < bs.length
  · rw [List.getElem?_append_left h] at e
    exact hz j c e
  · rw [List.getElem?_append_right (by omega)] at e
    have h0 : j - bs.length = 0 := by
      rcases Nat.eq_zero_or_pos (j - bs.length) with q | q
      · exact q
      · rw [List.getElem?_eq_none (show [b].length ≤ j - bs.length from q)] at e
        cases e
    rw [h0] at e
    cases e
    have : j = bs.length := by omega
    rw [this]
    exact z4
theorem lcx_list {a : Addr} {xs : List V} (L : LcG H1 D Rel G) (mono : ∀ H H' v b, TupK H H' → Y H v b → Y H' v b) (src : ∀ H, Rel H1 H → SqL K H a xs) (hl : xs.length ≤ 1000)
    (step : ∀ (i : Nat) (x : V) (H : Hp), xs[i]? = some x → Rel H1 H → G H → TurnX g tt te vs σ Rel G Y (Z i) x H)
    (fin : ∀ H acc bs, Rel H1 H → G H → H D = some (.lst acc) → EachIs (Y H) acc bs → bs.length = xs.length → (∀ j b, bs[j]? = some b → Z j b) → Qd H) :
    ∃ W : Nat → Nat → Hp → Prop, (∃ m, W 0 m (upd H1 D (.lst []))) ∧ ∀ i m H, W i m H →
      ((Itl K a).stop i H ∧ Qd H) ∨ ((Itl K a).go i H ∧ ∃ Nx : Hp → Prop, (∀ H', Nx H' → ∃ m', m' < m ∧ W (i + 1) m' H') ∧ ∀ x H', (Itl K a).yld i H x H' → g x (wipe σ vs) H' fun σ2 H2 =>
        wipe σ2 vs = wipe σ vs ∧ tt σ2 H2 fun b H3 => if b = true then te σ2 H3 fun y H4 => ∃ acc, H4 D = some (.lst acc) ∧ acc.length < sizeLine ∧ Nx (upd H4 D (.lst (acc ++ [y]))) else Nx H3) := by
  refine lc_list (K := K) (a := a) (xs := xs) (LpX H1 D Rel G Y Z) ⟨[], [], L.new, L.g0, upd_same, .nil, rfl, fun j b e => by simp at e⟩ (fun i H _ hp => ?_) (fun i x H hx hp => ?_) (fun H hp => ?_)
  · obtain ⟨_, _, r1, _⟩ := hp
    exact src H r1
  · have hi : i < xs.length := (List.getElem?_eq_some_iff.mp hx).1
    exact LpX.turn L mono (by omega) hp fun r g => step i x H hx r g
  · obtain ⟨acc, bs, r1, g1, hD, ea, e, hz⟩ := hp
    exact fin H acc bs r1 g1 hD ea e hz
end
/-- pairs of a name and a table -/
def PairV (K : PySem.W.Frag) (H : Hp) (v : V) (q : Str × Tab) : Prop := ∃ p w, v = .ref p ∧ SqT K H p [.str q.1, w] ∧ TabV K H w q.2
theorem PairV.mono {K : PySem.W.Frag} : ∀ H H' v q, TupK H H' → PairV K H v q → PairV K H' v q := fun _ _ _ _ k ⟨p, w, e, h, t⟩ => ⟨p, w, e, k _ _ _ h, t.mono k⟩
theorem pairs_kv {K : PySem.W.Frag} {H : Hp} : ∀ {acc : List V} {ts : List (Str × Tab)}, EachIs (PairV K H) acc ts → ∃ (ps : List Addr) (kvs : List (Key × V)), acc = ps.map V.ref ∧
    Paired (fun p kv => SqT K H p [kV kv.1, kv.2]) ps kvs ∧ TabsKv K H kvs ts
  | _, _, .nil => ⟨[], [], rfl, .nil, .nil⟩
  | _, q :: _, .cons ⟨p, w, e, h, t⟩ r => by
    obtain ⟨ps, kvs, e1, h1, h2⟩ := pairs_kv r
    subst e
    exact ⟨p :: ps, (.inr q.1, w) :: kvs, by rw [e1]; rfl, .cons h h1, .cons ⟨rfl, t⟩ h2⟩
end GL
namespace GL
open PySem PySem.Spec PyProof.Rows L2
open PySem.W (EachIs)
section
variable {K : PySem.W.Frag} {g : TG} {tt : TT} {te : TE} {vs : List Nat} {σ : L2.St} {H1 : Hp} {D : Addr} {Qd : Hp → Prop} {Rel : Hp → Hp → Prop} {G : Hp → Prop} {β : Type} {Y : Hp → V → β → Prop} {out : Nat → Option β}
theorem lcg_str {z : Str} (L : LcG H1 D Rel G) (mono : ∀ H H' v b, TupK H H' → Y H v b → Y H' v b) (hl : z.cps.size ≤ 1000)
    (step : ∀ (i c : Nat) (H : Hp), z.cps[i]? = some c → Rel H1 H → G H → Turn g tt te vs σ Rel G Y (.str ⟨#[c]⟩) (out i) H)
    (fin : ∀ H acc bs, Rel H1 H → G H → H D = some (.lst acc) → EachIs (Y H) acc bs → bs = (List.range z.cps.size).filterMap out → Qd H) :
    ∃ W : Nat → Nat → Hp → Prop, (∃ m, W 0 m (upd H1 D (.lst []))) ∧ ∀ i m H, W i m H →
      ((Its z).stop i H ∧ Qd H) ∨ ((Its z).go i H ∧ ∃ Nx : Hp → Prop, (∀ H', Nx H' → ∃ m', m' < m ∧ W (i + 1) m' H') ∧ ∀ x H', (Its z).yld i H x H' → g x (wipe σ vs) H' fun σ2 H2 =>
        wipe σ2 vs = wipe σ vs ∧ tt σ2 H2 fun b H3 => if b = true then te σ2 H3 fun y H4 => ∃ acc, H4 D = some (.lst acc) ∧ acc.length < sizeLine ∧ Nx (upd H4 D (.lst (acc ++ [y]))) else Nx H3) := by
  refine lc_it walk_str (Lp H1 D Rel G Y out) (Lp.zero L) (fun _ _ _ _ => trivial) (fun i x H H' hi hp hy => ?_) (fun H hp => ?_)
  · obtain ⟨e, c, hc, rfl⟩ := hy
    subst e
    exact Lp.turn L mono (by omega) hp fun r g => step i c _ hc r g
  · obtain ⟨acc, bs, r1, g1, hD, ea, e⟩ := hp
    exact fin H acc bs r1 g1 hD ea e
end
end GL
namespace GL
open PySem PySem.Spec PyProof.Rows L2
theorem dc_listU {K : PySem.W.Frag} {a : Addr} {xs : List V} {g : TG} {tt : TT} {tk tv : TE} {vs : List Nat} {σ : L2.St} {H1 : Hp} {D : Addr} {Qd : Hp → Prop} (Pv : Nat → Hp → Prop) (h0 : Pv 0 (upd H1 D (.dK []))) (hl : ∀ i H, i ≤ xs.length → Pv i H → SqL K H a xs)
    (hs : ∀ i x H, xs[i]? = some x → Pv i H → g x (wipe σ vs) H fun σ2 H2 => wipe σ2 vs = wipe σ vs ∧ tt σ2 H2 fun b H3 =>
      if b = true then tk σ2 H3 fun y H4 => tv σ2 H4 fun z H5 => ∃ kvs k, y = kV k ∧ H5 D = some (.dK kvs) ∧ kvs.length < sizeLine ∧ Pv (i + 1) (upd H5 D (.dK (putK kvs k z))) else Pv (i + 1) H3) (hd : ∀ H, Pv xs.length H → Qd H) :
    ∃ W : Nat → Nat → Hp → Prop, (∃ m, W 0 m (upd H1 D (.dK []))) ∧ ∀ i m H, W i m H →
      ((Itl K a).stop i H ∧ Qd H) ∨ ((Itl K a).go i H ∧ ∃ Nx : Hp → Prop, (∀ H', Nx H' → ∃ m', m' < m ∧ W (i + 1) m' H') ∧ ∀ x H', (Itl K a).yld i H x H' → g x (wipe σ vs) H' fun σ2 H2 => wipe σ2 vs = wipe σ vs ∧ tt σ2 H2 fun b H3 =>
        if b = true then tk σ2 H3 fun y H4 => tv σ2 H4 fun z H5 => ∃ kvs k, y = kV k ∧ H5 D = some (.dK kvs) ∧ kvs.length < sizeLine ∧ Nx (upd H5 D (.dK (putK kvs k z))) else Nx H3) := by
  refine ⟨fun i m H => m = xs.length - i ∧ i ≤ xs.length ∧ Pv i H, ⟨xs.length, by simp, Nat.zero_le _, h0⟩, ?_⟩
  rintro i m H ⟨rfl, hi, p⟩
  have q := hl i H hi p
  by_cases hlt : i < xs.length
  · refine .inr ⟨⟨xs, xs[i], q, by simp [hlt]⟩, Pv (i + 1), fun H' p' => ⟨xs.length - (i + 1), by omega, rfl, hlt, p'⟩, fun x H' y => ?_⟩
    obtain ⟨e, y⟩ := y
    subst e
    exact hs i x _ (y xs q) p
  · have e : i = xs.length := by omega
    subst e
    exact .inl ⟨⟨xs, q, Nat.le_refl _⟩, hd H p⟩
end GL

/-! small data, texts and dicts among them -/
namespace GL
open PySem PySem.Spec PyProof.Rows L2
structure OkW (w dp : Nat) (d : PyData) : Prop where
  sh : d.showable = true
  sm : d.leavesShort 13 = true
  dep : d.depth ≤ dp
  wt : d.weight ≤ w
structure OkWAll (w dp : Nat) (ds : List PyData) : Prop where
  sh : PyData.showableAll ds = true
  sm : PyData.leavesShortAll 13 ds = true
  dep : PyData.depthAll ds ≤ dp
  wt : PyData.weightAll ds ≤ w
structure OkWKv (w dp : Nat) (ds : List (PyData × PyData)) : Prop where
  sh : PyData.showableKv ds = true
  sm : PyData.leavesShortKv 13 ds = true
  dep : PyData.depthKv ds ≤ dp
  wt : PyData.weightKv ds ≤ w
theorem OkW.mono {w w' dp dp' : Nat} {d : PyData} (h : OkW w dp d) (a : w ≤ w') (b : dp ≤ dp') : OkW w' dp' d := ⟨h.sh, h.sm, Nat.le_trans h.dep b, Nat.le_trans h.wt a⟩
theorem OkWAll.mono {w w' dp dp' : Nat} {d : List PyData} (h : OkWAll w dp d) (a : w ≤ w') (b : dp ≤ dp') : OkWAll w' dp' d := ⟨h.sh, h.sm, Nat.le_trans h.dep b, Nat.le_trans h.wt a⟩
theorem OkWKv.mono {w w' dp dp' : Nat} {d : List (PyData × PyData)} (h : OkWKv w dp d) (a : w ≤ w') (b : dp ≤ dp') : OkWKv w' dp' d := ⟨h.sh, h.sm, Nat.le_trans h.dep b, Nat.le_trans h.wt a⟩
theorem Ok.w {w dp : Nat} {d : PyData} (h : Ok w dp d) : OkW w dp d := ⟨h.sh, h.sm, h.dep, h.wt⟩
theorem OkW.none : OkW 0 0 .none := Ok.none.w
theorem OkW.bool (b : Bool) : OkW 0 0 (.bool b) := (Ok.bool b).w
theorem OkW.int {i : Int} (h : i.natAbs < 10 ^ 12) : OkW 41 0 (.int i) := (Ok.int h).w
theorem OkW.str {x : Str} {n : Nat} (hx : ∀ c ∈ x.cps.toList, c < 16 ^ 8) (hn : x.cps.toList.length ≤ n) : OkW n 0 (.str x) := by
  refine ⟨by simp [PyData.showable], ?_, by simp [PyData.depth], ?_⟩
  · simp only [PyData.leavesShort, List.all_eq_true, decide_eq_true_eq]
    exact hx
  · simp only [PyData.weight]
    simpa using hn
theorem OkWAll.nil (dp : Nat) : OkWAll 0 dp [] := ⟨by simp [PyData.showableAll], by simp [PyData.leavesShortAll], by simp [PyData.depthAll], by simp [PyData.weightAll]⟩
theorem OkW.cons' {w1 w2 dp : Nat} {d : PyData} {ds : List PyData} (h : OkW w1 dp d) (t : OkWAll w2 dp ds) : OkWAll (w1 + 1 + w2) dp (d :: ds) :=
  ⟨by simp [PyData.showableAll, h.sh, t.sh], by simp [PyData.leavesShortAll, h.sm, t.sm], by simp only [PyData.depthAll]; exact Nat.max_le.mpr ⟨h.dep, t.dep⟩, by simp only [PyData.weightAll]; have := h.wt; have := t.wt; omega⟩
theorem OkWKv.nil (dp : Nat) : OkWKv 0 dp [] := ⟨by simp [PyData.showableKv], by simp [PyData.leavesShortKv], by simp [PyData.depthKv], by simp [PyData.weightKv]⟩
theorem OkWKv.cons {w1 w2 w3 dp : Nat} {k d : PyData} {ds : List (PyData × PyData)} (g : OkW w1 dp k) (h : OkW w2 dp d) (t : OkWKv w3 dp ds) : OkWKv (w1 + w2 + 2 + w3) dp ((k, d) :: ds) :=
  ⟨by simp [PyData.showableKv, g.sh, h.sh, t.sh], by simp [PyData.leavesShortKv, g.sm, h.sm, t.sm], by simp only [PyData.depthKv]; exact Nat.max_le.mpr ⟨Nat.max_le.mpr ⟨g.dep, h.dep⟩, t.dep⟩,
    by simp only [PyData.weightKv]; have := g.wt; have := h.wt; have := t.wt; omega⟩
theorem OkWKv.map {α : Type} {w dp : Nat} {f : α → PyData × PyData} : ∀ {l : List α}, (∀ a ∈ l, OkW w dp (f a).1 ∧ OkW w dp (f a).2) → OkWKv (l.length * (2 * w + 2)) dp (l.map f)
  | [], _ => (OkWKv.nil dp).mono (Nat.zero_le _) (Nat.le_refl _)
  | a :: l, h => by
    have t := OkWKv.map (l := l) fun b hb => h b (List.mem_cons_of_mem _ hb)
    obtain ⟨h1, h2⟩ := h a List.mem_cons_self
    refine (OkWKv.cons h1 h2 t).mono ?_ (Nat.le_refl _)
    have e : (l.length + 1) * (2 * w + 2) = l.length * (2 * w + 2) + (2 * w + 2) := Nat.succ_mul _ _
    rw [List.length_cons, e]
    generalize l.length * (2 * w + 2) = m
    omega
theorem OkW.tuple {w dp : Nat} {ds : List PyData} (h : OkWAll w dp ds) : OkW w (dp + 1) (.tuple ds) :=
  ⟨by simp [PyData.showable, h.sh], by simp [PyData.leavesShort, h.sm], by simp only [PyData.depth]; have := h.dep; omega, by simp only [PyData.weight]; exact h.wt⟩
theorem OkW.list {w dp : Nat} {ds : List PyData} (h : OkWAll w dp ds) : OkW w (dp + 1) (.list ds) :=
  ⟨by simp [PyData.showable, h.sh], by simp [PyData.leavesShort, h.sm], by simp only [PyData.depth]; have := h.dep; omega, by simp only [PyData.weight]; exact h.wt⟩
theorem OkW.dict {w dp : Nat} {ds : List (PyData × PyData)} (h : OkWKv w dp ds) : OkW w (dp + 1) (.dict ds) :=
  ⟨by simp [PyData.showable, h.sh], by simp [PyData.leavesShort, h.sm], by simp only [PyData.depth]; have := h.dep; omega, by simp only [PyData.weight]; exact h.wt⟩
theorem OkW.shows {w dp : Nat} {d : PyData} (h : OkW w dp d) (a : w ≤ 1000000) (b : dp ≤ 60) : ShowsW d := by
  refine ⟨h.sh, Nat.le_trans h.dep b, ?_⟩
  have := PyData.shown_le 13 (by decide) d h.sm
  have := h.wt
  rw [sizeLine_eq]
  omega
end GL

/-! sorted(names) -/
namespace GL
open PySem PySem.Spec PyProof.Rows L2
open PySem.Calls
theorem rank_unique {α : Type} (ρ : α → Nat) : ∀ {l m : List α}, l.Pairwise (fun a b => ρ a ≤ ρ b) → m.Pairwise (fun a b => ρ a ≤ ρ b) → (∀ a ∈ l, ∀ b ∈ l, ρ a = ρ b → a = b) → l.Perm m → l = m
  | [], m, _, _, _, p => (List.Perm.eq_nil p.symm).symm
  | a :: l, [], _, _, _, p => absurd (List.Perm.eq_nil p) (by simp)
  | a :: l, b :: m, hl, hm, inj, p => by
    rw [List.pairwise_cons] at hl hm
    have e : a = b := by
      have ha : a ∈ b :: m := p.mem_iff.mp List.mem_cons_self
      have hb : b ∈ a :: l := p.mem_iff.mpr List.mem_cons_self
      rcases List.mem_cons.mp ha with e | ha
      · exact e
      · rcases List.mem_cons.mp hb with e | hb
        · exact e.symm
        · exact inj a List.mem_cons_self b (List.mem_cons_of_mem _ hb) (Nat.le_antisymm (hl.1 b hb) (hm.1 a ha))
    subst e
    rw [rank_unique ρ hl.2 hm.2 (fun x hx y hy => inj x (List.mem_cons_of_mem _ hx) y (List.mem_cons_of_mem _ hy)) p.cons_inv]
def nm4 : List Str := ["r", "s", "r1", "pairs"]
def nmS : List Str := ["pairs", "r", "r1", "s"]
def rank (x : Str) : Nat := nmS.idxOf x
theorem rank_lt : ∀ x ∈ nm4, ∀ y ∈ nm4, ltCps x.cps.toList y.cps.toList = decide (rank x < rank y) := by decide +kernel
theorem rank_inj : ∀ x ∈ nm4, ∀ y ∈ nm4, rank x = rank y → x = y := by decide +kernel
theorem rising_rank : ∀ {ys : List Str} {x : Str}, (∀ y ∈ x :: ys, y ∈ nm4) → risingS x ys = true → (x :: ys).Pairwise fun a b => rank a ≤ rank b
  | [], x, _, _ => by simp
  | y :: ys, x, h, r => by
    have hx := h x List.mem_cons_self
    have hy := h y (List.mem_cons_of_mem _ List.mem_cons_self)
    have r' : (!(ltCps y.cps.toList x.cps.toList) && risingS y ys) = true := r
    rw [Bool.and_eq_true, Bool.not_eq_true', rank_lt y hy x hx] at r'
    have h1 : rank x ≤ rank y := Nat.not_lt.mp (of_decide_eq_false r'.1)
    have ih := rising_rank (fun z hz => h z (List.mem_cons_of_mem _ hz)) r'.2
    refine List.pairwise_cons.mpr ⟨fun z hz => ?_, ih⟩
    rcases List.mem_cons.mp hz with rfl | hz
    · exact h1
    · exact Nat.le_trans h1 ((List.pairwise_cons.mp ih).1 z hz)
def canon (ks : List Str) : List Str := nmS.filter fun x => decide (x ∈ ks)
theorem canon_perm {ks : List Str} (n : ks.Nodup) (h : ∀ k ∈ ks, k ∈ nm4) : (canon ks).Perm ks := by
  refine (List.perm_ext_iff_of_nodup ?_ n).mpr fun x => ?_
  · exact List.Pairwise.filter _ (show nmS.Nodup by decide +kernel)
  · unfold canon
    rw [List.mem_filter]
    refine ⟨fun z => of_decide_eq_true z.2, fun z => ⟨?_, decide_eq_true z⟩⟩
    have : ∀ y ∈ nm4, y ∈ nmS := by decide +kernel
    exact this x (h x z)
theorem canon_rank (ks : List Str) : (canon ks).Pairwise fun a b => rank a ≤ rank b := by
  refine List.Pairwise.filter _ ?_
  decide +kernel
theorem canon_of {ys ks : List Str} (n : ks.Nodup) (h : ∀ k ∈ ks, k ∈ nm4) (p : ys.Perm ks) (s : sortedS ys = true) : ys = canon ks := by
  have hy : ∀ y ∈ ys, y ∈ nm4 := fun y hy => h y (p.mem_iff.mp hy)
  have py : ys.Pairwise fun a b => rank a ≤ rank b := by
    cases ys with
    | nil => simp
    | cons x r => exact rising_rank hy s
  exact rank_unique rank py (canon_rank ks) (fun a ha b hb e => rank_inj a (hy a ha) b (hy b hb) e) (p.trans (canon_perm n h).symm)
theorem canon_congr {ks ls : List Str} (h : ∀ x, x ∈ ks ↔ x ∈ ls) : canon ks = canon ls := by
  unfold canon
  exact List.filter_congr fun x _ => by simp only [h x]
/-- sorted(d), d's keys such names -/
def rSortNames : List V → Hp → VK → Prop := fun xs H Q => ∃ (a : Addr) (kvs : List (Key × V)) (ks : List Str), xs = [.ref a] ∧ H a = some (.dK kvs) ∧ kvs.map (·.1) = ks.map Sum.inr ∧ ks.Nodup ∧ (∀ k ∈ ks, k ∈ nm4) ∧ ks.length ≤ 4 ∧
  ∀ p, H p = none → Q (.ref p) (upd H p (.lst ((canon ks).map V.str)))
theorem cr_sortNames {X : Cx} (hc : X.calm = true) : CallR X (.builtin "sorted") rSortNames := by
  intro pins s σ H xs us Q I r h
  obtain ⟨a, kvs, ks, e1, e2, e3, n, m, l, q⟩ := h
  refine call_sortedD hc pins s σ H xs us Q I r ⟨a, kvs, ks, e1, .inl e2, e3, by omega, fun ys p pm so hp => ?_⟩
  rw [canon_of n m pm so]
  exact q p hp
end GL
namespace GL
open PySem PySem.Spec PyProof.Rows L2
def rJoinU (K : PySem.W.Frag) : V → List V → Hp → VK → Prop := fun x xs H Q => ∃ a p, ∃ ys : List Str, x = .str a ∧ xs = [.ref p] ∧ (SqL K H p (ys.map V.str) ∨ SqT K H p (ys.map V.str)) ∧
    (ys.map (·.length)).sum + ys.length * a.length ≤ 16777216 ∧ Q (.str (Txt.join a ys)) H
theorem mt_joinU {X : Cx} : MtR X "str.join" (rJoinU X.K) := mt_join
end GL

/-! sorted(d), d's keys rows -/
namespace GL
open PySem PySem.Spec PyProof.Rows L2
open PySem.Calls
section
variable {prog : Program} {w : World} {A : Around} {E : Value → Shared → Prop} {s : Shared}
theorem sorted_gather2 {x : Value} {Q : Value → Shared → Prop} {bs : List (Value × List Int)} {Z : Shared → Prop}
    (hcol : ∀ (E' : Value → Shared → Prop) (Q' : List Value → Shared → Prop),
      (∀ s' out, (∀ b o, s.heap.get? b = some o → s'.heap.get? b = some o) → Z s' →
        out.Perm (bs.map (·.1)) → Q' out s') → wpAny (model prog w) A.in1 (collect x) Q' E' s)
    (hr : ∀ b ∈ bs, b.2 ≠ [] ∧ ∃ as, Reads s.heap b.1 (encR b.2) as) (hL : bs.length ≤ sizeLine) (hu : A.units + 64 < cLine)
    (h : ∀ s1 h' c (bs' : List (Value × List Int)), Z s1 → (∀ b o, s1.heap.get? b = some o → h'.get? b = some o) →
      h'.get? s1.heap.objs.size = some (seqObj "list" (bs'.map (·.1)).toArray c) → bs'.Perm bs → (bs'.map (·.2)).Pairwise (· ≤ ·) → Q (.ref s1.heap.objs.size) { s1 with heap := h' }) :
    wpAny (model prog w) A (call (.builtin "sorted") [x]) Q E s := by
  refine Calls.call_function_entry kind_sorted plain_sorted entry_sorted (args_sorted1 _) ?_
  unfold Builtin.«sorted»
  refine wpAny_bind (m := checkCount "sorted" 1 1 _) (wpAny_pure ?_)
  refine wpAny_bind (hcol _ _ fun s1 out k1 z1 pm => ?_)
  obtain ⟨b1, e1, p1⟩ := perm_lift _ out bs pm
  subst e1
  have l1 : (b1.map (·.1)).length ≤ sizeLine := by rw [List.length_map, p1.length_eq]; exact hL
  refine wpAny_bind (wpAny_newList ?_ l1)
  have ho : (s1.heap.push (seqObj "list" (b1.map (·.1)).toArray 0)).get? s1.heap.objs.size = some (seqObj "list" (b1.map (·.1)).toArray 0) := Heap.get?_push_size _ rfl
  have old : ∀ b o, s.heap.get? b = some o → (PySem.W.sortingHeap (s1.heap.push (seqObj "list" (b1.map (·.1)).toArray 0)) s1.heap.objs.size (b1.map (·.1))).get? b = some o := by
    intro b o e
    have e2 := k1 b o e
    exact PySem.W.sortingHeap_old (Nat.ne_of_lt (Heap.lt_size e2)) (Heap.get?_push_of_some _ e2)
  have er : PySem.W.EachIs (fun v (b : Value × List Int) => ∃ as, Reads (PySem.W.sortingHeap (s1.heap.push (seqObj "list" (b1.map (·.1)).toArray 0)) s1.heap.objs.size (b1.map (·.1))) v (encR b.2) as) (b1.map (·.1)) b1 :=
    each_of fun b hb => by
      obtain ⟨_, as, r⟩ := hr b (p1.mem_iff.mp hb)
      exact ⟨as, PyProof.Rows.Reads.keeps old r⟩
  have hal : PySem.W.AllAlike (b1.map fun b => encR b.2) := PySem.W.AllAlike.of fun b c => by
    show PySem.W.alike (.tuple _) (.tuple _) = true
    rw [PySem.W.alike]
    exact PySem.W.alike_ints _ _
  have hk : PySem.W.Sortable (b1.map fun b => encR b.2) := .inl fun d hd => by
    obtain ⟨b, hb, rfl⟩ := List.mem_map.mp hd
    obtain ⟨n0, _⟩ := hr b (p1.mem_iff.mp hb)
    obtain ⟨_, r⟩ := b
    cases r with
    | nil => exact absurd rfl n0
    | cons i r => exact ⟨_, _, rfl⟩
  have S := PySem.W.SortsAt.data (prog := prog) (w := w) (A := A.in1.in1) (s := { s1 with heap := PySem.W.sortingHeap (s1.heap.push (seqObj "list" (b1.map (·.1)).toArray 0)) s1.heap.objs.size (b1.map (·.1)) })
    (PySem.W.each_map (R := fun v d => ∃ as, Reads (PySem.W.sortingHeap (s1.heap.push (seqObj "list" (b1.map (·.1)).toArray 0)) s1.heap.objs.size (b1.map (·.1))) v d as) (fun b : Value × List Int => encR b.2) er) hal hk (fun d hd => by
      obtain ⟨b, _, rfl⟩ := List.mem_map.mp hd
      have dp : (encR b.2).depth = 1 := by
        show PyData.depth (.tuple _) = 1
        rw [PyData.depth, PySem.W.depth_ints]
      rw [dp]
      show A.units + 1 + 1 + 1 < cLine
      omega)
  refine wpAny_bind (wpAny_holding (wpAny_call_entry slot_list_sort ⟨_, ho, rfl⟩ entry_list_sort ?body (args_list_sort _)))
  case body =>
    refine PySem.W.list_sort_vals (s := { s1 with heap := s1.heap.push (seqObj "list" (b1.map (·.1)).toArray 0) }) ho S l1 ⟨_, rfl, wpAny_pure ⟨_, rfl, ?_⟩⟩
    have eo := PySem.W.sortVals_data (R := fun (v : Value) (b : Value × List Int) => v = b.1) false (each_fst b1) er hal
    have eo2 := fst_each eo
    rw [eo2]
    obtain ⟨c, hc⟩ := PyProof.Rows.sortedHeap_at (vs := b1.map (·.1)) (out := ((b1.mergeSort (PySem.W.dataLe false fun b => encR b.2)).map (·.1)).toArray) ho
    refine h s1 _ c (b1.mergeSort (PySem.W.dataLe false fun b => encR b.2)) z1 (fun b o e => ?_) hc ((List.mergeSort_perm _ _).trans p1) ?_
    · have e3 : (s1.heap.push (seqObj "list" (b1.map (·.1)).toArray 0)).get? b = some o := Heap.get?_push_of_some _ e
      exact (PyProof.Rows.sortedHeap_old (Nat.ne_of_lt (Heap.lt_size e)) (Heap.lt_size e3)).trans e3
    · have pw := PySem.W.sort_pairwise (le := PySem.W.dataLe false fun b : Value × List Int => encR b.2) (PySem.W.sortLe_total _ _ _) b1
      rw [List.pairwise_map]
      refine pw.imp fun {a b} hab => ?_
      have hab' : PySem.W.dataLe false (fun b : Value × List Int => encR b.2) a b = true := hab
      rw [dataLe_encR (fun b : Value × List Int => b.2)] at hab'
      exact of_decide_eq_true hab'

end
/-- sorted(d), d's keys tuples of whole numbers -/
def rSortDT (K : PySem.W.Frag) : List V → Hp → VK → Prop := fun vs H Q => ∃ (a : Addr) (rs : List (List Int)), vs = [.ref a] ∧ H a = some (.dT (rs.map fun r => (r.map Sum.inl, V.bl true))) ∧ (∀ r ∈ rs, r ≠ []) ∧
  ∀ (p : Addr) (bs : List (V × List Int)), H p = none → (bs.map (·.2)).Perm rs → (bs.map (·.2)).Pairwise (· ≤ ·) → (∀ b ∈ bs, TI K H b.1 b.2) → Q (.ref p) (upd H p (.lst (bs.map (·.1))))
abbrev dV (t : List Int × Addr) : Value × List Int := (Value.ref t.2, t.1)
theorem dt_rows {H : Hp} : ∀ {rs : List (List Int)} {xs : List (List Key × Addr × Value)}, KT H (rs.map fun r => (r.map Sum.inl, V.bl true)) xs →
    ∃ ts : List (List Int × Addr), rs = ts.map (·.1) ∧ xs.map (fun x => Value.ref x.2.1) = ts.map (fun t => Value.ref t.2) ∧ ∀ t ∈ ts, H t.2 = some (.tup (t.1.map V.int))
  | [], _, h => by
    cases h
    exact ⟨[], rfl, rfl, fun _ z => nomatch z⟩
  | r :: rs, _, h => by
    cases h with
    | @cons _ q _ qs h1 h2 =>
      obtain ⟨ts, e1, e2, e3⟩ := dt_rows h2
      refine ⟨(r, q.2.1) :: ts, by rw [List.map_cons, ← e1], by rw [List.map_cons, List.map_cons, e2], fun t ht => ?_⟩
      rcases List.mem_cons.mp ht with rfl | ht
      · have := h1.2.1
        rw [List.map_map] at this
        exact this
      · exact e3 t ht
theorem cr_sortDT {X : Cx} (hc : X.calm = true) (hu : X.A.units + 64 < cLine) : CallR X (.builtin "sorted") (rSortDT X.K) := by
  intro pins s σ H vs us Q I r h
  obtain ⟨a, rs, rfl, hd, hne, q⟩ := h
  rw [Vals.ref1 r]
  obtain ⟨z, hs, ks, pr, o, es, ep, ho, hx, hdt, he, hn⟩ := (show ObjOk X.prog X.w H s.heap a (.dT (rs.map fun r => (r.map Sum.inl, V.bl true))) from I.hok a _ hd)
  have l1 : es.size = ks.length := size_of_entries he
  have l2 : (rs.map fun r => ((r.map Sum.inl : List Key), V.bl true)).length = ks.length := Paired.length pr
  obtain ⟨ts, e1, e2, e3⟩ := dt_rows pr
  subst e1
  have l3 : ts.length = ks.length := by rw [List.length_map, List.length_map] at l2; exact l2
  rw [List.length_map, List.length_map] at z
  refine sorted_gather2 (bs := ts.map dV) (Z := fun s1 => ∃ h' tk, s1 = { s with heap := h', toks := tk } ∧ ∀ b o, s.heap.get? b = some o → h'.get? b = some o) (fun E' Q' k => ?_) (fun b hb => ?_) (by rw [List.length_map]; exact z) hu fun s1 h' c bs' hZ k1 hg pm pw => ?_
  · refine PySem.W.kdu_collect (kdl_raw hs hx hdt) (I.ok.hd hc) ho (by omega) fun h' tk acc kp it => ?_
    refine k _ _ kp ⟨h', tk, rfl, kp⟩ ?_
    have ea : acc.toList = ks.map fun x => Value.ref x.2.1 := by
      have hl : acc.toList.length = ks.length := by rw [Array.length_toList, it.1]; exact l1
      apply List.ext_getElem?
      intro j
      rw [List.getElem?_map]
      cases hj : acc.toList[j]? with
      | none =>
        have h1 := List.getElem?_eq_none_iff.mp hj
        rw [List.getElem?_eq_none (by omega)]
        rfl
      | some v =>
        obtain ⟨en, hen, hv⟩ := it.2 j v (by rw [← Array.getElem?_toList]; exact hj)
        have qe := entry_at he j
        rw [hen] at qe
        cases hb : ks[j]? with
        | none =>
          rw [hb] at qe
          cases qe
        | some x =>
          rw [hb] at qe
          cases qe
          rw [hv]
          rfl
    rw [ea, e2, List.map_map]
    exact List.Perm.refl _
  · obtain ⟨t, ht, rfl⟩ := List.mem_map.mp hb
    exact row_reads I (b := (V.ref t.2, t.1)) rfl ⟨t.2, rfl, SqT.of (e3 t ht), hne _ (List.mem_map.mpr ⟨t, ht, rfl⟩)⟩
  · obtain ⟨ts', ee, p1⟩ := perm_lift dV bs' ts pm
    subst ee
    obtain ⟨h1, tk, rfl, kp⟩ := hZ
    have I1 : Inv X pins σ H { s with heap := h1, toks := tk } := I.kept kp
    have hn1 : H h1.objs.size = none := I1.hok.fresh (Nat.le_refl _)
    have hv : Vals ((ts'.map fun t => (V.ref t.2, t.1)).map (·.1)) ((ts'.map dV).map (·.1)) := by
      clear pm pw p1 hg
      induction ts' with
      | nil => exact .nil
      | cons t l ih => exact .cons rfl ih
    have hlen : ((ts'.map fun t => ((V.ref t.2 : V), t.1)).map (·.1)).length ≤ sizeLine := by
      rw [List.length_map, List.length_map, p1.length_eq]
      exact z
    refine ⟨.ref h1.objs.size, _, I1.laid (a := h1.objs.size) (o := .lst ((ts'.map fun t => ((V.ref t.2 : V), t.1)).map (·.1))) (t' := tk) k1 (Nat.le_refl _) ⟨hlen, _, c, hv, hg⟩, rfl, ?_⟩
    refine q _ (ts'.map fun t => (V.ref t.2, t.1)) hn1 ?_ ?_ fun b hb => ?_
    · rw [List.map_map]
      exact p1.map _
    · rw [List.map_map] at pw ⊢
      exact pw
    · obtain ⟨t, ht, rfl⟩ := List.mem_map.mp hb
      exact ⟨t.2, rfl, SqT.of (e3 t (p1.mem_iff.mp ht))⟩
end GL

/-! sorted(d.items()), d's keys the four names, its values tables -/
namespace GL
open PySem PySem.Spec PyProof.Rows L2
open PySem.Calls
section
variable {prog : Program} {w : World} {A : Around} {E : Value → Shared → Prop} {s : Shared}
theorem sorted_gather3 {β : Type} {enc : β → PyData} {x : Value} {Q : Value → Shared → Prop} {Z : Shared → List (Value × β) → Prop}
    (hcol : ∀ (E' : Value → Shared → Prop) (Q' : List Value → Shared → Prop), (∀ s1 (bs : List (Value × β)), Z s1 bs → Q' (bs.map (·.1)) s1) → wpAny (model prog w) A.in1 (collect x) Q' E' s)
    (hr : ∀ s1 bs, Z s1 bs → (∀ b ∈ bs, ∃ as, Reads s1.heap b.1 (enc b.2) as) ∧ bs.length ≤ sizeLine)
    (hal0 : ∀ a b : β, PySem.W.alike (enc a) (enc b) = true) (ht : ∀ b : β, ∃ y r, enc b = .tuple (y :: r)) (hdep : ∀ b : β, (enc b).depth ≤ 10) (hu : A.units + 64 < cLine)
    (h : ∀ s1 b1 h' c (bs' : List (Value × β)), Z s1 b1 → (∀ b o, s1.heap.get? b = some o → h'.get? b = some o) →
      h'.get? s1.heap.objs.size = some (seqObj "list" (bs'.map (·.1)).toArray c) → bs'.Perm b1 → bs'.Pairwise (fun a b => PySem.W.dataLe false (fun b : Value × β => enc b.2) a b = true) →
      Q (.ref s1.heap.objs.size) { s1 with heap := h' }) :
    wpAny (model prog w) A (call (.builtin "sorted") [x]) Q E s := by
  refine Calls.call_function_entry kind_sorted plain_sorted entry_sorted (args_sorted1 _) ?_
  unfold Builtin.«sorted»
  refine wpAny_bind (m := checkCount "sorted" 1 1 _) (wpAny_pure ?_)
  refine wpAny_bind (hcol _ _ fun s1 b1 z1 => ?_)
  obtain ⟨hrd, l0⟩ := hr s1 b1 z1
  have l1 : (b1.map (·.1)).length ≤ sizeLine := by rw [List.length_map]; exact l0
  refine wpAny_bind (wpAny_newList ?_ l1)
  have ho : (s1.heap.push (seqObj "list" (b1.map (·.1)).toArray 0)).get? s1.heap.objs.size = some (seqObj "list" (b1.map (·.1)).toArray 0) := Heap.get?_push_size _ rfl
  have old : ∀ b o, s1.heap.get? b = some o → (PySem.W.sortingHeap (s1.heap.push (seqObj "list" (b1.map (·.1)).toArray 0)) s1.heap.objs.size (b1.map (·.1))).get? b = some o := by
    intro b o e
    exact PySem.W.sortingHeap_old (Nat.ne_of_lt (Heap.lt_size e)) (Heap.get?_push_of_some _ e)
  have er : PySem.W.EachIs (fun v (b : Value × β) => ∃ as, Reads (PySem.W.sortingHeap (s1.heap.push (seqObj "list" (b1.map (·.1)).toArray 0)) s1.heap.objs.size (b1.map (·.1))) v (enc b.2) as) (b1.map (·.1)) b1 :=
    each_of fun b hb => by
      obtain ⟨as, r⟩ := hrd b hb
      exact ⟨as, PyProof.Rows.Reads.keeps old r⟩
  have hal : PySem.W.AllAlike (b1.map fun b => enc b.2) := PySem.W.AllAlike.of fun b c => hal0 b.2 c.2
  have hk : PySem.W.Sortable (b1.map fun b => enc b.2) := .inl fun d hd => by
    obtain ⟨b, hb, rfl⟩ := List.mem_map.mp hd
    exact ht b.2
  have S := PySem.W.SortsAt.data (prog := prog) (w := w) (A := A.in1.in1) (s := { s1 with heap := PySem.W.sortingHeap (s1.heap.push (seqObj "list" (b1.map (·.1)).toArray 0)) s1.heap.objs.size (b1.map (·.1)) })
    (PySem.W.each_map (R := fun v d => ∃ as, Reads (PySem.W.sortingHeap (s1.heap.push (seqObj "list" (b1.map (·.1)).toArray 0)) s1.heap.objs.size (b1.map (·.1))) v d as) (fun b : Value × β => enc b.2) er) hal hk (fun d hd => by
      obtain ⟨b, _, rfl⟩ := List.mem_map.mp hd
      have := hdep b.2
      show A.units + 1 + 1 + _ < cLine
      omega)
  refine wpAny_bind (wpAny_holding (wpAny_call_entry slot_list_sort ⟨_, ho, rfl⟩ entry_list_sort ?body (args_list_sort _)))
  case body =>
    refine PySem.W.list_sort_vals (s := { s1 with heap := s1.heap.push (seqObj "list" (b1.map (·.1)).toArray 0) }) ho S l1 ⟨_, rfl, wpAny_pure ⟨_, rfl, ?_⟩⟩
    have eo := PySem.W.sortVals_data (R := fun (v : Value) (b : Value × β) => v = b.1) false (each_of fun b _ => rfl) er hal
    have fst2 : ∀ {vs : List Value} {l : List (Value × β)}, PySem.W.EachIs (fun (v : Value) (b : Value × β) => v = b.1) vs l → vs = l.map (·.1) := by
      intro vs l e
      induction e with
      | nil => rfl
      | cons e _ ih => rw [List.map_cons, e, ih]
    have eo2 := fst2 eo
    rw [eo2]
    obtain ⟨c, hc⟩ := PyProof.Rows.sortedHeap_at (vs := b1.map (·.1)) (out := ((b1.mergeSort (PySem.W.dataLe false fun b => enc b.2)).map (·.1)).toArray) ho
    refine h s1 b1 _ c (b1.mergeSort (PySem.W.dataLe false fun b => enc b.2)) z1 (fun b o e => ?_) hc (List.mergeSort_perm _ _) ?_
    · have e3 : (s1.heap.push (seqObj "list" (b1.map (·.1)).toArray 0)).get? b = some o := Heap.get?_push_of_some _ e
      exact (PyProof.Rows.sortedHeap_old (Nat.ne_of_lt (Heap.lt_size e)) (Heap.lt_size e3)).trans e3
    · exact PySem.W.sort_pairwise (le := PySem.W.dataLe false fun b : Value × β => enc b.2) (PySem.W.sortLe_total _ _ _) b1
end
abbrev encP (q : Str × Tab) : PyData := .tuple [.str q.1, encT q.2.1 q.2.2]
theorem alike_rows : ∀ a b : List (List Int), PySem.W.alikeAll (a.map encR) (b.map encR) = true
  | [], _ => by simp [PySem.W.alikeAll]
  | _ :: _, [] => by simp [PySem.W.alikeAll]
  | x :: a, y :: b => by
    rw [List.map_cons, List.map_cons, PySem.W.alikeAll, alike_rows a b, Bool.and_true]
    show PySem.W.alike (.tuple _) (.tuple _) = true
    rw [PySem.W.alike]
    exact PySem.W.alike_ints _ _
theorem alike_P (a b : Str × Tab) : PySem.W.alike (encP a) (encP b) = true := by
  show PySem.W.alike (.tuple [.str a.1, .tuple [.int a.2.1, .tuple (a.2.2.map encR)]]) (.tuple [.str b.1, .tuple [.int b.2.1, .tuple (b.2.2.map encR)]]) = true
  simp only [PySem.W.alike, PySem.W.alikeAll, alike_rows, Bool.and_true]
theorem depth_P (a : Str × Tab) : (encP a).depth ≤ 10 := by
  show PyData.depth (.tuple [.str a.1, .tuple [.int a.2.1, .tuple (a.2.2.map encR)]]) ≤ 10
  have := depth_rows a.2.2
  simp only [PyData.depth, PyData.depthAll]
  omega
theorem name_lt : ∀ a ∈ nm4, ∀ b ∈ nm4, PyProof.Rows.lexLt PyProof.Rows.itemOrd [.inr a.cps.toList] [.inr b.cps.toList] = decide (rank a < rank b) := by decide +kernel
theorem le_P {p q : Str × Tab} (hp : p.1 ∈ nm4) (hq : q.1 ∈ nm4) (h : PySem.W.dataLe false encP p q = true) : rank p.1 ≤ rank q.1 := by
  by_cases e : p.1 = q.1
  · rw [e]
    exact Nat.le_refl _
  · have h' : (!PySem.W.dataLt (encP q) (encP p)) = true := h
    rw [Bool.not_eq_true', PySem.W.dataLt_tuple] at h'
    have ne : (Sum.inr q.1.cps.toList : Int ⊕ List Nat) ≠ .inr p.1.cps.toList := fun z => e (PySem.W.str_of_cps (Sum.inr.inj z).symm)
    simp only [PySem.W.keyToksAll, PySem.W.keyToks, List.cons_append, List.nil_append] at h'
    have h2 := PySem.W.lex_pre [.inl 1] (.inr q.1.cps.toList :: PySem.W.keyToksAll [encT q.2.1 q.2.2]) (.inr p.1.cps.toList :: PySem.W.keyToksAll [encT p.2.1 p.2.2])
    have h3 := PySem.W.lex_atom ne (PySem.W.keyToksAll [encT q.2.1 q.2.2]) (PySem.W.keyToksAll [encT p.2.1 p.2.2])
    rw [h3, name_lt _ hq _ hp] at h2
    simp only [PySem.W.keyToksAll, PySem.W.keyToks, List.cons_append, List.nil_append] at h2
    rw [h2] at h'
    exact Nat.not_lt.mp (of_decide_eq_false h')
end GL
namespace GL
open PySem PySem.Spec PyProof.Rows L2
open PySem.Calls
open PySem.W (EachIs)
open L2.DX
section
variable {X : Cx}
/-- d.items(), d's keys whole numbers or texts -/
def rItemsK : V → List V → Hp → VK → Prop := fun x xs H Q => ∃ (a : Addr) (kvs : List (Key × V)), x = .ref a ∧ xs = [] ∧ H a = some (.dK kvs) ∧ ∀ p, H p = none → Q (.ref p) (upd H p (itemsO p a))
theorem mt_itemsK : MtR X "dict.items" rItemsK := by
  intro pins s σ H x xs v us Q I rx rxs h
  obtain ⟨a, kvs, rfl, rfl, ha, q⟩ := h
  cases rx
  cases rxs
  obtain ⟨z, hd, vs, rel, o, es, ep, ho, hx, hdat, _⟩ := dk_of I.hok ha
  refine DT.callItems (es := es) (ep := ep) hd ⟨o, ho, hx, hdat⟩ ?_
  exact ⟨.ref s.heap.objs.size, upd H s.heap.objs.size (itemsO s.heap.objs.size a), I.laid (t' := s.toks) (fun b u e => Heap.get?_push_of_some _ e) (Nat.le_refl _) (itemsO_ok (Heap.get?_push_size _ rfl)), rfl, q _ (I.hok.fresh (Nat.le_refl _))⟩
theorem ents {K : PySem.W.Frag} {H : Hp} {P : Program} {w : World} : ∀ {ts : List (Str × Tab)} {kvs : List (Key × V)} {vs : List (Key × Value)} {es : List DictEntry}, TabsKv K H kvs ts → KV kvs vs → Pairs (mixKind P w) es vs →
    es.length = ts.length ∧ ∀ (j : Nat) (e : DictEntry), es[j]? = some e → ∃ q v t, ts[j]? = some q ∧ e.key = .str q.1 t ∧ RelV v e.val ∧ TabV K H v q.2
  | [], _, _, _, .nil, r, p => by
    cases r
    cases p
    exact ⟨rfl, fun j e h => by simp at h⟩
  | q :: ts, (k, v) :: kvs, _, _, .cons ⟨ek, tv⟩ tk, r, p => by
    cases r with
    | @cons _ x _ xs r1 r2 =>
      cases p with
      | @cons e _ es _ p1 p2 p3 =>
        obtain ⟨l, f⟩ := ents tk r2 p3
        refine ⟨by rw [List.length_cons, List.length_cons, l], fun j e' h => ?_⟩
        cases j with
        | zero =>
          have e1 : e = e' := Option.some.inj h
          subst e1
          obtain ⟨r3, r4⟩ := r1
          have ek' : k = .inr q.1 := ek
          have r3' : k = x.1 := r3
          have p1' : keyIs x.1 e.key = true := p1
          rw [← r3', ek'] at p1'
          rcases keyIs_shape p1' with ⟨i, t, e1, _⟩ | ⟨z, t, e1, e2⟩
          · cases e1
          · cases e1
            exact ⟨q, v, t, rfl, e2, by rw [p2]; exact r4, tv⟩
        | succ j => exact f j e' h
/-- sorted(d.items()) -/
def rSortItems (K : PySem.W.Frag) : List V → Hp → VK → Prop := fun vs H Q => ∃ (p a : Addr) (kvs : List (Key × V)) (ts : List (Str × Tab)), vs = [.ref p] ∧ H p = some (itemsO p a) ∧ H a = some (.dK kvs) ∧ TabsKv K H kvs ts ∧
  (ts.map (·.1)).Nodup ∧ (∀ q ∈ ts, q.1 ∈ nm4) ∧ ts.length ≤ 4 ∧
  ∀ (l : Addr) (acc : List V) (ts' : List (Str × Tab)) (H' : Hp), Same H H' → H l = none → H' l = some (.lst acc) → EachIs (PairV K H') acc ts' → ts'.Perm ts → ts'.map (·.1) = canon (ts.map (·.1)) → Q (.ref l) H'
def ItZ (K : PySem.W.Frag) (H : Hp) (s : Shared) (ts : List (Str × Tab)) (s1 : Shared) (bs : List (Value × (Str × Tab))) : Prop := ∃ (h' : Heap) (tk : Nat) (as : List Addr), s1 = { s with heap := h', toks := tk } ∧
  (∀ b o, s.heap.get? b = some o → h'.get? b = some o) ∧ as.Nodup ∧ as.length = ts.length ∧ bs = (as.zip ts).map (fun z => (Value.ref z.1, z.2)) ∧
  ∀ z ∈ as.zip ts, s.heap.objs.size ≤ z.1 ∧ ∃ v u t, RelV v u ∧ TabV K H v z.2.2 ∧ h'.get? z.1 = some { cls := .type "tuple", data := .seq #[Value.str z.2.1 t, u] }
theorem cr_sortItems (hc : X.calm = true) (hu : X.A.units + 64 < cLine) : CallR X (.builtin "sorted") (rSortItems X.K) := by
  intro pins s σ H xs us Q I r h
  obtain ⟨p, a, kvs, ts, rfl, hp, ha, htk, nd, hnm, hl4, q⟩ := h
  obtain rfl := Vals.ref1 r
  have view : s.heap.IsItemsView p a := (show ObjOk X.prog X.w H s.heap p (itemsO p a) from I.hok p _ hp).1
  obtain ⟨z, hd, vs, rel, o, es, ep, ho, hx, hdat, _, hpr, _⟩ := dk_of I.hok ha
  obtain ⟨le, fe⟩ := ents htk rel hpr
  have les : es.size = ts.length := by simpa using le
  refine sorted_gather3 (enc := encP) (Z := ItZ X.K H s ts) (fun E' Q' k => ?_) (fun s1 bs hZ => ?_) alike_P (fun b => ⟨_, _, rfl⟩) depth_P hu fun s1 b1 h2 c bs' hZ k2 hg pm pw => ?_
  · refine DT.collectI (es := es) (ep := ep) (I.ok.hd hc) view ⟨o, ho, hx, hdat⟩ (by rw [les, sizeLine_eq]; omega) fun h' tk as hk hlt hl hG => ?_
    have hz : ∀ z ∈ as.zip ts, s.heap.objs.size ≤ z.1 ∧ ∃ v u t, RelV v u ∧ TabV X.K H v z.2.2 ∧ h'.get? z.1 = some { cls := .type "tuple", data := .seq #[Value.str z.2.1 t, u] } := by
      intro z hz
      obtain ⟨j, hj⟩ := List.mem_iff_getElem?.mp hz
      rw [List.getElem?_zip_eq_some] at hj
      obtain ⟨e, he, hg⟩ := hG.pairs j z.1 hj.1
      obtain ⟨q1, v, t, h1, h2, h3, h4⟩ := fe j e (by rw [Array.getElem?_toList]; exact he)
      rw [hj.2] at h1
      cases h1
      exact ⟨Nat.le_of_lt (hG.above z.1 (List.mem_of_getElem? hj.1)), v, e.val, t, h3, h4, by rw [hg, h2]⟩
    have := k { s with heap := h', toks := tk } ((as.zip ts).map fun z => (Value.ref z.1, z.2)) ⟨h', tk, as, rfl, hk, List.Pairwise.imp (fun h => Nat.ne_of_lt h) hG.rise, by omega, rfl, hz⟩
    have e : ((as.zip ts).map fun z => (Value.ref z.1, z.2)).map (·.1) = as.map Value.ref := by
      rw [List.map_map]
      show (as.zip ts).map (fun z => Value.ref z.1) = _
      rw [show (fun z : Addr × (Str × Tab) => Value.ref z.1) = Value.ref ∘ Prod.fst from rfl, ← List.map_map, List.map_fst_zip (by omega)]
    rw [e] at this
    exact this
  · obtain ⟨h', tk, as, rfl, hk, _, hl, rfl, hz⟩ := hZ
    refine ⟨fun b hb => ?_, by rw [List.length_map, List.length_zip, sizeLine_eq]; omega⟩
    obtain ⟨y, hy, rfl⟩ := List.mem_map.mp hb
    obtain ⟨_, v, u, t, rv, tv, hg⟩ := hz y hy
    obtain ⟨as2, r2, _⟩ := Dv.reads I (encT y.2.2.1 y.2.2.2) v u tv.dv rv
    exact ⟨_, .tuple hg rfl rfl (.cons (.str _ _) (.cons (PyProof.Rows.Reads.keeps hk r2) .nil))⟩
  · obtain ⟨h1, tk, as, rfl, hk, hn, hl, rfl, hz⟩ := hZ
    have I1 : Inv X pins σ H { s with heap := h1, toks := tk } := I.kept hk
    obtain ⟨H2, I2, g2, t2⟩ := takeT (P := fun a xs => ∃ y ∈ as.zip ts, y.1 = a ∧ ∃ v, xs = [.str y.2.1, v] ∧ TabV X.K H v y.2.2) I as H I1 hn fun a1 ha1 => by
      obtain ⟨j, hj⟩ := List.mem_iff_getElem?.mp ha1
      have hjt : j < ts.length := by have := (List.getElem?_eq_some_iff.mp hj).1; omega
      have hy : (a1, ts[j]) ∈ as.zip ts := List.mem_iff_getElem?.mpr ⟨j, by rw [List.getElem?_zip_eq_some]; exact ⟨hj, List.getElem?_eq_getElem hjt⟩⟩
      obtain ⟨hs, v, u, t, rv, tv, hg⟩ := hz _ hy
      exact ⟨hs, I.hok.fresh hs, [.str ts[j].1, v], ⟨_, hy, rfl, v, rfl, tv⟩, fun H2 => ⟨by show 2 ≤ sizeLine; decide, [Value.str ts[j].1 t, u], .cons ⟨t, rfl⟩ (.cons rv .nil), ⟨_, hg, rfl, 0, rfl⟩⟩⟩
    obtain ⟨zs, ez, pz⟩ := perm_lift (fun z : Addr × (Str × Tab) => (Value.ref z.1, z.2)) bs' (as.zip ts) pm
    subst ez
    have hv : Vals (zs.map fun z => V.ref z.1) ((zs.map fun z : Addr × (Str × Tab) => (Value.ref z.1, z.2)).map (·.1)) := by
      clear pm pw pz hg
      induction zs with
      | nil => exact .nil
      | cons t l ih => exact .cons rfl ih
    have lz : zs.length = ts.length := by rw [pz.length_eq, List.length_zip]; omega
    have hlen : (zs.map fun z => V.ref z.1).length ≤ sizeLine := by rw [List.length_map, lz, sizeLine_eq]; omega
    have hn1 : H h1.objs.size = none := I1.hok.fresh (Nat.le_refl _)
    have hn2 : H2 h1.objs.size = none := I2.hok.fresh (Nat.le_refl _)
    refine ⟨.ref h1.objs.size, _, I2.laid (a := h1.objs.size) (o := .lst (zs.map fun z => V.ref z.1)) (t' := tk) k2 (Nat.le_refl _) ⟨hlen, _, c, hv, hg⟩, rfl, ?_⟩
    have kS : Same H (upd H2 h1.objs.size (.lst (zs.map fun z => V.ref z.1))) := fun b o e => by
      rw [upd_ne (ne_of_none (g2 _ _ e) hn2)]
      exact g2 _ _ e
    refine q h1.objs.size _ (zs.map (·.2)) _ kS hn1 upd_same ?_ ?_ ?_
    · have all : ∀ l : List (Addr × (Str × Tab)), (∀ z ∈ l, z ∈ as.zip ts) → EachIs (PairV X.K (upd H2 h1.objs.size (.lst (zs.map fun z => V.ref z.1)))) (l.map fun z => V.ref z.1) (l.map (·.2)) := by
        intro l
        induction l with
        | nil => intro _; exact .nil
        | cons y l ih =>
          intro hin
          have hy := hin y List.mem_cons_self
          obtain ⟨xs, ⟨y2, hy2, e2, v, exs, tv⟩, ht⟩ := t2 y.1 (List.of_mem_zip (show (y.1, y.2) ∈ as.zip ts from hy)).1
          have ey : y2 = y := by
            obtain ⟨j, hj⟩ := List.mem_iff_getElem?.mp hy
            obtain ⟨j2, hj2⟩ := List.mem_iff_getElem?.mp hy2
            rw [List.getElem?_zip_eq_some] at hj hj2
            have hjj : j = j2 := (List.getElem?_inj (List.getElem?_eq_some_iff.mp hj.1).1 hn).mp (by rw [hj.1, hj2.1, e2])
            subst hjj
            have h3 := hj.2.symm.trans hj2.2
            exact Prod.ext e2 (Option.some.inj h3).symm
          subst ey
          subst exs
          have hne : y2.1 ≠ h1.objs.size := ne_of_none ht hn2
          exact .cons ⟨y2.1, v, rfl, SqT.of (by rw [upd_ne hne]; exact ht), tv.mono (TupK.same kS)⟩ (ih fun z hz => hin z (List.mem_cons_of_mem _ hz))
      exact all zs fun z hz => pz.mem_iff.mp hz
    · have := pz.map (·.2)
      rw [List.map_snd_zip (by omega)] at this
      exact this
    · have pp : (zs.map (·.2)).Perm ts := by
        have := pz.map (·.2)
        rw [List.map_snd_zip (by omega)] at this
        exact this
      have nm : ∀ y ∈ zs.map (·.2), y.1 ∈ nm4 := fun y hy => hnm y (pp.mem_iff.mp hy)
      have pr : ((zs.map (·.2)).map (·.1)).Pairwise fun a b => rank a ≤ rank b := by
        rw [List.pairwise_map] at pw
        rw [List.map_map, List.pairwise_map]
        refine pw.imp_of_mem fun {a b} ha hb hab => le_P (nm _ (List.mem_map.mpr ⟨a, ha, rfl⟩)) (nm _ (List.mem_map.mpr ⟨b, hb, rfl⟩)) hab
      have nk : ∀ k ∈ ts.map (·.1), k ∈ nm4 := fun k hk => by
        obtain ⟨y, hy, rfl⟩ := List.mem_map.mp hk
        exact hnm y hy
      refine rank_unique rank pr (canon_rank _) (fun a ha b hb e => rank_inj a ?_ b ?_ e) ((pp.map (·.1)).trans (canon_perm nd nk).symm)
      · obtain ⟨y, hy, rfl⟩ := List.mem_map.mp ha
        exact nm y hy
      · obtain ⟨y, hy, rfl⟩ := List.mem_map.mp hb
        exact nm y hy
end
end GL

/-! lines and their words: plain mathematics of signs -/
namespace TW
open PySem SX
/-- split at one sign -/
def cut (c : Nat) (l : List Nat) : List (List Nat) := TL.spl [c] 0 [] l
theorem cut_nil (c : Nat) : cut c [] = [[]] := TL.spl_nil _ _ _
theorem cut_at {c : Nat} {p q : List Nat} (h : c ∉ p) : cut c (p ++ c :: q) = p :: cut c q := by
  have := spl_free (sep := [c]) (p := p) q (List.cons_ne_nil _ _) (free_head h)
  exact this
theorem cut_none {c : Nat} {p : List Nat} (h : c ∉ p) : cut c p = [p] := by
  have := spl_join (c := c) (sep := []) (parts := [p]) (List.cons_ne_nil _ _) (fun x hx => by rw [List.mem_singleton.mp hx]; exact h)
  exact this
theorem spl_len (S : List Nat) : ∀ (l : List Nat) (k : Nat) (acc : List Nat), (TL.spl S k acc l).length ≤ l.length + 1
  | [], k, acc => by rw [TL.spl_nil]; exact Nat.le_refl _
  | c :: l, 0, acc => by
    cases h : TL.pre S (c :: l) with
    | true =>
      rw [TL.spl_hit h, List.length_cons]
      exact Nat.succ_le_succ (spl_len S l _ _)
    | false =>
      rw [TL.spl_miss h]
      exact Nat.le_trans (spl_len S l _ _) (Nat.le_succ _)
  | c :: l, k + 1, acc => by
    rw [TL.spl_pass]
    rw [List.drop_succ_cons]
    have h := TL.spl_pass S k acc l
    rw [← h]
    exact Nat.le_trans (spl_len S l k acc) (Nat.le_succ _)
theorem cut_len (c : Nat) (l : List Nat) : (cut c l).length ≤ l.length + 1 := spl_len _ _ _ _
/-- the words of a line -/
def words (l : List Nat) : List (List Nat) := (cut 32 l).filter fun w => decide (w ≠ [])
theorem words_nil : words [] = [] := by
  unfold words
  rw [cut_nil]
  rfl
theorem words_blank (l : List Nat) : words (32 :: l) = words l := by
  have := cut_at (c := 32) (p := []) (q := l) (by simp)
  unfold words
  rw [List.nil_append] at this
  rw [this]
  rfl
theorem words_blanks : ∀ (n : Nat) (l : List Nat), words (List.replicate n 32 ++ l) = words l
  | 0, l => rfl
  | n + 1, l => by
    rw [List.replicate_succ, List.cons_append, words_blank, words_blanks n l]
theorem words_word {w l : List Nat} (h : 32 ∉ w) (n : w ≠ []) : words (w ++ 32 :: l) = w :: words l := by
  unfold words
  rw [cut_at h, List.filter_cons_of_pos (by simpa using n)]
theorem words_one {w : List Nat} (h : 32 ∉ w) (n : w ≠ []) : words w = [w] := by
  unfold words
  rw [cut_none h, List.filter_cons_of_pos (by simpa using n)]
  rfl
/-- words one behind the other, each with blanks behind it -/
def spaced : List (List Nat × Nat) → List Nat
  | [] => []
  | (w, n) :: r => w ++ (List.replicate n 32 ++ spaced r)
/-- all but the last have a blank behind them -/
def Apart : List (List Nat × Nat) → Prop
  | [] => True
  | [(w, _)] => 32 ∉ w ∧ w ≠ []
  | (w, n) :: r => 32 ∉ w ∧ w ≠ [] ∧ n ≠ 0 ∧ Apart r
theorem words_spaced : ∀ {l : List (List Nat × Nat)}, Apart l → words (spaced l) = l.map (·.1)
  | [], _ => words_nil
  | [(w, n)], h => by
    obtain ⟨h1, h2⟩ := h
    show words (w ++ (List.replicate n 32 ++ [])) = [w]
    cases n with
    | zero =>
      rw [List.replicate_zero, List.nil_append, List.append_nil]
      exact words_one h1 h2
    | succ n =>
      rw [List.replicate_succ, List.cons_append, words_word h1 h2, words_blanks, words_nil]
  | (w, n) :: q :: r, h => by
    obtain ⟨h1, h2, h3, h4⟩ := h
    show words (w ++ (List.replicate n 32 ++ spaced (q :: r))) = w :: (q :: r).map (·.1)
    obtain ⟨m, rfl⟩ := Nat.exists_eq_succ_of_ne_zero h3
    rw [List.replicate_succ, List.cons_append, words_word h1 h2, words_blanks, words_spaced h4]
theorem words_join {ws : List (List Nat)} (h : ∀ w ∈ ws, 32 ∉ w ∧ w ≠ []) : words (TL.joinL [32] ws) = ws := by
  cases ws with
  | nil => exact words_nil
  | cons w r =>
    unfold words cut
    rw [spl_join (List.cons_ne_nil _ _) (fun p hp => (h p hp).1)]
    exact List.filter_eq_self.mpr fun p hp => by simpa using (h p hp).2
/-- blanks ahead and behind change no words -/
theorem words_ahead (n : Nat) (l : List Nat) : words (List.replicate n 32 ++ l) = words l := words_blanks n l
theorem spaced_snoc : ∀ (l : List (List Nat × Nat)) (n : Nat), l ≠ [] → ∃ l', spaced l ++ List.replicate n 32 = spaced l' ∧ l'.map (·.1) = l.map (·.1) ∧ (Apart l → Apart l')
  | [], _, h => absurd rfl h
  | [(w, k)], n, _ => ⟨[(w, k + n)], by
      show w ++ (List.replicate k 32 ++ []) ++ List.replicate n 32 = w ++ (List.replicate (k + n) 32 ++ [])
      rw [List.append_nil, List.append_nil, List.append_assoc, List.replicate_append_replicate], rfl, fun h => h⟩
  | (w, k) :: q :: r, n, _ => by
    obtain ⟨l', e1, e2, e3⟩ := spaced_snoc (q :: r) n (List.cons_ne_nil _ _)
    refine ⟨(w, k) :: l', ?_, by rw [List.map_cons, e2]; rfl, fun h => ?_⟩
    · show w ++ (List.replicate k 32 ++ spaced (q :: r)) ++ List.replicate n 32 = w ++ (List.replicate k 32 ++ spaced l')
      rw [← e1]
      simp only [List.append_assoc]
    · obtain ⟨h1, h2, h3, h4⟩ := h
      cases l' with
      | nil => cases e2
      | cons z l' => exact ⟨h1, h2, h3, e3 h4⟩
theorem words_behind {l : List (List Nat × Nat)} (h : Apart l) (n : Nat) : words (spaced l ++ List.replicate n 32) = l.map (·.1) := by
  cases l with
  | nil =>
    show words ([] ++ List.replicate n 32) = []
    have := words_blanks n []
    rw [List.append_nil] at this
    rw [List.nil_append, this, words_nil]
  | cons q r =>
    obtain ⟨l', e1, e2, e3⟩ := spaced_snoc (q :: r) n (List.cons_ne_nil _ _)
    rw [e1, words_spaced (e3 h), e2]
end TW

/-! blanks taken off behind -/
namespace TW
open PySem SX PyProof.Rows PySem.Builtin PySem.Builtin.Str
theorem takeWhile_rep {p : Nat → Bool} : ∀ l : List Nat, (∀ a ∈ l, p a = true → a = 32) → l.takeWhile p = List.replicate (l.takeWhile p).length 32
  | [], _ => rfl
  | a :: l, h => by
    rw [List.takeWhile_cons]
    split
    · rename_i ha
      have ih := takeWhile_rep l fun b hb => h b (List.mem_cons_of_mem _ hb)
      rw [h a List.mem_cons_self ha, List.length_cons, List.replicate_succ, ← ih]
    · rfl
theorem first_sign (c : Nat) : ∀ l : List Nat, c ∉ l ∨ ∃ p q, l = p ++ c :: q ∧ c ∉ p
  | [] => .inl (by simp)
  | a :: l => by
    by_cases h : a = c
    · exact .inr ⟨[], l, by rw [h]; rfl, by simp⟩
    · rcases first_sign c l with g | ⟨p, q, e, g⟩
      · exact .inl fun z => (List.mem_cons.mp z).elim (fun z => h z.symm) g
      · exact .inr ⟨a :: p, q, by rw [e]; rfl, fun z => (List.mem_cons.mp z).elim (fun z => h z.symm) g⟩
theorem words_at {p : List Nat} (q : List Nat) (h : 32 ∉ p) : words (p ++ 32 :: q) = (if p = [] then words q else p :: words q) := by
  by_cases n : p = []
  · subst n
    rw [if_pos rfl]
    exact words_blank q
  · rw [if_neg n]
    exact words_word h n
theorem words_snoc : ∀ (n : Nat) (l : List Nat), l.length ≤ n → words (l ++ [32]) = words l
  | 0, l, h => by
    have : l = [] := List.length_eq_zero_iff.mp (by omega)
    subst this
    exact words_blank []
  | n + 1, l, h => by
    rcases first_sign 32 l with g | ⟨p, q, e, g⟩
    · rw [words_at [] g]
      by_cases z : l = []
      · subst z
        rw [if_pos rfl]
      · rw [if_neg z, words_nil, words_one g z]
    · subst e
      rw [List.append_assoc, List.cons_append, words_at (q ++ [32]) g, words_at q g, words_snoc n q (by rw [List.length_append, List.length_cons] at h; omega)]
theorem words_tail (l : List Nat) : ∀ k, words (l ++ List.replicate k 32) = words l
  | 0 => by rw [List.replicate_zero, List.append_nil]
  | k + 1 => by
    rw [List.replicate_succ', ← List.append_assoc, words_snoc _ _ (Nat.le_refl _), words_tail l k]
theorem rstrip_S (l : List Nat) : ∃ R k, Txt.rstripChars (S l) (S [32]) = S R ∧ l = R ++ List.replicate k 32 := by
  unfold Txt.rstripChars
  rw [stripBy_eq]
  have lo : stripLo (Array.contains (S [32]).cps) false (S l) = 0 := rfl
  rw [lo]
  have hi : stripHi (Array.contains (S [32]).cps) true (S l) 0 = l.length - (l.reverse.takeWhile (Array.contains (S [32]).cps)).length := by
    unfold stripHi
    rw [if_pos rfl, S_len]
    rfl
  rw [hi]
  generalize ek : (l.reverse.takeWhile (Array.contains (S [32]).cps)).length = k
  have hl : k ≤ l.length := by
    rw [← ek, ← List.length_reverse (as := l)]
    exact (List.takeWhile_sublist _).length_le
  have h1 : l.reverse.take k = List.replicate k 32 := by
    have e1 := takeWhile_rep (p := Array.contains (S [32]).cps) l.reverse fun a _ ha => by
      have : (#[32] : Array Nat).contains a = true := ha
      simpa using this
    rw [ek] at e1
    have e2 : l.reverse.takeWhile (Array.contains (S [32]).cps) = l.reverse.take k := by
      have := List.takeWhile_append_dropWhile (p := Array.contains (S [32]).cps) (l := l.reverse)
      conv => rhs; rw [← this]
      rw [List.take_append_of_le_length (by omega), ← ek, List.take_length]
    rw [← e2]
    exact e1
  refine ⟨l.take (l.length - k), k, ?_, ?_⟩
  · refine TL.ext_tl ?_
    rw [TL.tl_strSub]
    show (l.drop 0).take (l.length - k - 0) = l.take (l.length - k)
    simp
  · have h2 : l.drop (l.length - k) = List.replicate k 32 := by
      rw [List.take_reverse] at h1
      have h3 := congrArg List.reverse h1
      rw [List.reverse_reverse, List.reverse_replicate] at h3
      exact h3
    rw [← h2, List.take_append_drop]
end TW

namespace LW
open PySem PySem.Spec PyProof.Rows L2 GL
def topS (i : Nat) : Stmt := PySem.Challenge.pw_enoughlooks_k04_whole_texts_of_tables_an.main.body.getD i (.Pass ⟨0, 0, 0, 0⟩)
end LW

namespace LW
open PySem PySem.Spec PyProof.Rows L2 GL
abbrev s_law_bag : Stmt := topS 19
theorem sc_law_bag : FnScope ["script", "cell"] ["script"] (defScope s_law_bag) := ⟨rfl, rfl, rfl, by decide +kernel, rfl, by decide +kernel, by decide +kernel⟩
theorem ok_law_bag {P : Program} {w : World} {K : PySem.W.Frag} {mg : Str → Option Value} {base : Heap} (D : DefAt K mg "_law_bag" s_law_bag ["script"]) (m_abs : mg "abs" = none) :
    Cal P w K mg base 1 "_law_bag" (spBag K) := by
  refine cal_mk D sc_law_bag (fun vs H Q E h => ?_) (fun f cdv A outer s H vs Q E hG hr h => ?_)
  · obtain ⟨a, ns, rfl, _⟩ := h; rfl
  have nd := sc_law_bag.nd
  obtain ⟨a, ns, rfl, hS, h63, q⟩ := h
  refine ⟨_, (pss_one (ps_ret (pe_lst (pa_cons pe_int (pa_cons pe_int (pa_cons pe_int (pa_cons (pe_lc (own := [("cell", 1)]) (g := gName 1) (tt := tYes) (by rfl) nd (pi_list (pe_slice sl_list (pv 0) po_none (po_some pe_int)) : PI _ _ _ (iList K _)) (blkOk_by (own := [("cell", 1)]) (N := ["script", "cell"]) (sc := (defScope s_law_bag)) (by decide +kernel)) (fun _ _ _ _ _ => (pg_name (i := 1) nd rfl (.inl rfl))) (fun _ _ _ _ _ => pts_nil) (fun _ _ _ _ _ => (pe_callB call_abs (by rfl) m_abs (by decide +kernel) (pa_cons (pv 1) pa_nil)))) pa_nil))))))), ?_⟩
  have hl : (ns.map V.int).length = ns.length := List.length_map ..
  obtain ⟨ms, em⟩ := cut_ints ns none (some 63)
  refine ⟨.ref a, rfl, 63, rfl, a, ns.map V.int, rfl, hS, fun c0 n0 => ?_⟩
  have k0 := put_new n0 (.lst (cutV (ns.map V.int) none (some 63)))
  have hc0 : upd H c0 (.lst (cutV (ns.map V.int) none (some 63))) c0 = some (.lst (ms.map V.int)) := by rw [upd_same, em]
  have lms : ms.length ≤ 63 := by
    have l1 := cutV_length (ns.map V.int) none (some 63)
    rw [em, List.length_map, List.length_map] at l1
    omega
  generalize upd H c0 (.lst (cutV (ns.map V.int) none (some 63))) = H0 at *
  refine ⟨c0, rfl, ⟨_, SqL.of hc0⟩, fun d nd0 => ?_⟩
  have ncd : c0 ≠ d := ne_of_none hc0 nd0
  refine lc_list (K := K) (a := c0) (xs := ms.map V.int) (fun i H1 => ∃ js : List Int, js.length = i ∧ H1 d = some (.lst (js.map V.int)) ∧ H1 c0 = some (.lst (ms.map V.int)) ∧ ∀ q o, H0 q = some o → H1 q = some o)
    ⟨[], rfl, upd_same, by rw [upd_ne ncd]; exact hc0, put_new nd0 _⟩ (fun i H1 _ hp => ?_) (fun i x H1 hx hp => ?_) (fun H1 hp => ?_)
  · obtain ⟨js, _, _, h2, _⟩ := hp
    exact SqL.of h2
  · obtain ⟨js, l1, h2, h3, h4⟩ := hp
    obtain ⟨m, hm, rfl⟩ := List.mem_map.mp (List.mem_of_getElem? hx)
    have hi : i < ms.length := by
      have := (List.getElem?_eq_some_iff.mp hx).1
      rw [List.length_map] at this
      exact this
    refine ⟨rfl, .int m, rfl, _, rfl, js.map V.int, h2, small1000 (by rw [List.length_map]; omega), js ++ [if m < 0 then -m else m], by rw [List.length_append, l1]; rfl, ?_, ?_, fun q o e => ?_⟩
    · rw [upd_same, List.map_append]
      rfl
    · rw [upd_ne ncd]
      exact h3
    · rw [upd_ne (ne_of_none e nd0)]
      exact h4 q o e
  · obtain ⟨js, l1, h2, h3, h4⟩ := hp
    refine ⟨by show 4 ≤ sizeLine; decide, fun b hb => ?_⟩
    refine q b d _ ((k0.trans h4).trans (put_new hb _)) ?_ ?_ ⟨0, 1234567891, 0, js, upd_same, ?_, by decide, by decide, ?_⟩
    · cases e : H b with
      | none => rfl
      | some o =>
        have := h4 b o (k0 b o e)
        rw [hb] at this
        cases this
    · cases e : H d with
      | none => rfl
      | some o =>
        have := k0 d o e
        rw [nd0] at this
        cases this
    · rw [upd_ne (ne_of_none h2 hb)]
      exact h2
    · rw [l1, List.length_map]
      omega

abbrev s_law_take : Stmt := topS 20
theorem sc_law_take : FnScope ["bag", "many", "begin", "second", "cell", "stirred", "value"] ["bag", "many"] (defScope s_law_take) := ⟨rfl, rfl, rfl, by decide +kernel, rfl, by decide +kernel, by decide +kernel⟩
theorem ok_law_take {P : Program} {w : World} {K : PySem.W.Frag} {mg : Str → Option Value} {base : Heap} (D : DefAt K mg "_law_take" s_law_take ["bag", "many"]) (m_int : mg "int" = none) :
    Cal P w K mg base 1 "_law_take" spTake := by
  refine cal_mk D sc_law_take (fun vs H Q E h => ?_) (fun f cdv A outer s H vs Q E hG hr h => ?_)
  · obtain ⟨b, c, many, rfl, _⟩ := h; rfl
  have nd := sc_law_take.nd
  obtain ⟨b, c, many, rfl, hB, h0, h1, q⟩ := h
  obtain ⟨s0, s1, s2, ns, hb, hc, g1, g2, g3⟩ := hB
  refine ⟨_, (C8.pss_cut (ps_if (pt_cmpR op_eq (pe_ix (ix_list : IxR _ (rIxL K)) (pv 0) pe_int (fun _ _ => rfl)) pe_int (nomark _)) (pss_cons (ps_set (i := 4) nd rfl (.inl rfl) (pe_ix (ix_list : IxR _ (rIxL K)) (pe_op op_cat (pe_slice sl_list (pe_ix (ix_list : IxR _ (rIxL K)) (pv 0) pe_int (fun _ _ => rfl)) (po_some (pe_ix (ix_list : IxR _ (rIxL K)) (pv 0) pe_int (fun _ _ => rfl))) po_none) (pe_lst (pa_cons pe_int pa_nil))) pe_int (fun _ _ => rfl)))
    (pss_cons (ps_augS (pv 0) pe_int pg_list pe_int ip_add set_list)
    (C8.pss_cut (ps_if (pt_cmpR op_ge (pv 4) (pe_op op_pow pe_int pe_int) (nomark _)) (pss_one (ps_asg (pv 4) (pg_sub (pv 0) pe_int set_list))) pss_nil)
    (pss_cons (ps_set (i := 5) nd rfl (.inl rfl) (pe_op op_add (pe_op op_add (pe_op op_mul (pe_ix (ix_list : IxR _ (rIxL K)) (pv 0) pe_int (fun _ _ => rfl)) pe_int) (pe_op op_modN (pe_callTy call_int1 (by rfl) m_int (by decide +kernel) (pa_cons (pv 4) pa_nil)) pe_int)) (pe_op op_mul pe_int (pe_ix (ix_list : IxR _ (rIxL K)) (pv 0) pe_int (fun _ _ => rfl)))))
    (pss_one (ps_asg (pe_op op_modN (pe_callTy call_int1 (by rfl) m_int (by decide +kernel) (pa_cons (pv 5) pa_nil)) pe_int) (pg_sub (pv 0) pe_int set_list))))))) pss_nil)
    (pss_cons (ps_if (pt_cmpR op_gt (pe_ix (ix_list : IxR _ (rIxL K)) (pv 0) pe_int (fun _ _ => rfl)) pe_int (nomark _)) (pss_cons (ps_set (i := 6) nd rfl (.inl rfl) (pe_op op_modN (pe_callTy call_int1 (by rfl) m_int (by decide +kernel) (pa_cons (pe_ix (ix_list : IxR _ (rIxL K)) (pv 0) pe_int (fun _ _ => rfl)) pa_nil)) (pv 1)))
    (pss_cons (ps_asg (pe_op op_fdivN (pe_callTy call_int1 (by rfl) m_int (by decide +kernel) (pa_cons (pe_ix (ix_list : IxR _ (rIxL K)) (pv 0) pe_int (fun _ _ => rfl)) pa_nil)) (pv 1)) (pg_sub (pv 0) pe_int set_list))
    (pss_one (ps_ret (pv 6))))) pss_nil)
    (pss_cons (ps_set (i := 2) nd rfl (.inl rfl) (pe_op op_modN (pe_callTy call_int1 (by rfl) m_int (by decide +kernel) (pa_cons (pe_op op_mul (pe_op op_add (pe_ix (ix_list : IxR _ (rIxL K)) (pv 0) pe_int (fun _ _ => rfl)) pe_int) pe_int) pa_nil)) pe_int))
    (pss_cons (ps_set (i := 3) nd rfl (.inl rfl) (pe_op op_modN (pe_callTy call_int1 (by rfl) m_int (by decide +kernel) (pa_cons (pe_op op_mul (pe_op op_modN (pe_callTy call_int1 (by rfl) m_int (by decide +kernel) (pa_cons (pe_op op_mul (pv 2) (pv 2)) pa_nil)) pe_int) pe_int) pa_nil)) pe_int))
    (pss_one (ps_ret (pe_op op_modN (pe_callTy call_int1 (by rfl) m_int (by decide +kernel) (pa_cons (pe_op op_fdivN (pv 3) pe_int) pa_nil)) (pv 1)))))))), ?_⟩
  have ncb : c ≠ b := Bag.cne hb hc
  refine ⟨fun σ H1 => ∃ x4 x5, σ = [some (.ref b), some (.int many), none, none, x4, x5, none] ∧ Kp b H H1 ∧ Bag H1 b c, ?_, ?_⟩
  · refine ⟨.ref b, rfl, b, _, 0, .int s0, rfl, rfl, SqL.of hb, atI_nat (j := 0) rfl, rfl, _, rfl, ite2 (fun e => ?_) (fun e => ?_)⟩
    · obtain ⟨ms, em⟩ := cut_ints ns (some s2) none
      refine ⟨.ref b, rfl, b, _, 3, .ref c, rfl, rfl, SqL.of hb, atI_nat (j := 3) rfl, .ref b, rfl, b, _, 2, .int s2, rfl, rfl, SqL.of hb, atI_nat (j := 2) rfl,
        s2, rfl, c, ns.map V.int, rfl, SqL.of hc, fun p1 n1 => ?_⟩
      refine ⟨by show 1 ≤ sizeLine; decide, fun p2 n2 => ?_⟩
      have z21 : p1 ≠ p2 := ne_of_none upd_same n2
      have e1 : upd (upd H p1 (.lst (cutV (ns.map V.int) (some s2) none))) p2 (.lst [.int 0]) p1 = some (.lst (ms.map V.int)) := by
        rw [upd_ne z21, upd_same, em]
      have lms : (ms.map V.int).length + 1 ≤ sizeLine := by
        have l1 := cutV_length (ns.map V.int) (some s2) none
        rw [em, List.length_map, List.length_map] at l1
        rw [List.length_map]
        exact Nat.le_trans (Nat.succ_le_succ l1) (len1000 g3)
      refine ⟨p1, p2, _, _, rfl, rfl, e1, upd_same, lms, fun p3 n3 => ?_⟩
      have k1 : Same H (upd H p1 (.lst (cutV (ns.map V.int) (some s2) none))) := put_new n1 _
      have k2 := k1.trans (put_new n2 (.lst [.int 0]))
      have k3 := k2.trans (put_new n3 (.lst (ms.map V.int ++ [.int 0])))
      obtain ⟨cv, hcv⟩ : ∃ cv : Int, (ms.map V.int ++ [V.int 0])[0]? = some (.int cv) := by
        cases ms with
        | nil => exact ⟨0, rfl⟩
        | cons m r => exact ⟨m, rfl⟩
      refine ⟨p3, _, 0, .int cv, rfl, rfl, SqL.of upd_same, atI_nat (j := 0) hcv, ?_⟩
      have hb3 := k3 _ _ hb
      have hc3 := k3 _ _ hc
      generalize upd (upd (upd H p1 (.lst (cutV (ns.map V.int) (some s2) none))) p2 (.lst [.int 0])) p3 (.lst (ms.map V.int ++ [.int 0])) = H3 at *
      -- bag[2] += 1
      refine ⟨.ref b, rfl, b, _, 2, .int s2, rfl, rfl, SqL.of hb3, by decide, rfl, s2, 1, rfl, rfl, b, _, 2, 2, rfl, rfl, hb3, rfl, ?_⟩
      have kp4 : Kp b H (upd H3 b (.lst [.int s0, .int s1, .int (s2 + 1), .ref c])) := (Kp.of k3).trans Kp.at
      have hb4 : upd H3 b (.lst [.int s0, .int s1, .int (s2 + 1), .ref c]) b = some (.lst [.int s0, .int s1, .int (s2 + 1), .ref c]) := upd_same
      have hc4 : upd H3 b (.lst [.int s0, .int s1, .int (s2 + 1), .ref c]) c = some (.lst (ns.map V.int)) := by rw [upd_ne ncb]; exact hc3
      show (fun H4 => _) (upd H3 b (.lst [.int s0, .int s1, .int (s2 + 1), .ref c]))
      generalize upd H3 b (.lst [.int s0, .int s1, .int (s2 + 1), .ref c]) = H4 at *
      refine ⟨fun σ H5 => ∃ s0' : Int, σ = [some (.ref b), some (.int many), none, none, some (.int cv), none, none] ∧ Kp b H H5 ∧
        H5 b = some (.lst [.int s0', .int s1, .int (s2 + 1), .ref c]) ∧ H5 c = some (.lst (ns.map V.int)), ?_, ?_⟩
      · refine ⟨.int cv, rfl, 10, 18, rfl, rfl, ⟨by decide, by decide, by decide⟩, _, _, rfl, rfl, _, rfl, ite2 (fun e5 => ?_) (fun e5 => ?_)⟩
        · refine ⟨.int cv, rfl, .ref b, rfl, b, _, 0, 0, rfl, rfl, hb4, rfl, cv, rfl, kp4.trans Kp.at, upd_same, ?_⟩
          rw [upd_ne ncb]
          exact hc4
        · exact ⟨s0, rfl, kp4, hb4, hc4⟩
      · rintro σ H5 ⟨s0', rfl, kp5, hb5, hc5⟩
        refine ⟨.ref b, rfl, b, _, 1, .int s1, rfl, rfl, SqL.of hb5, atI_nat (j := 1) rfl, s1, 48271, rfl, rfl, .inl ⟨by omega, by omega⟩,
          .int cv, rfl, .inl ⟨cv, rfl, cv, 2147483647, rfl, rfl, (by show (2147483647 : Int) ≠ 0; decide), _, _, rfl, rfl,
          .ref b, rfl, b, _, 2, .int (s2 + 1), rfl, rfl, SqL.of hb5, atI_nat (j := 2) rfl, 7919, s2 + 1, rfl, rfl, .inl ⟨by decide, by decide⟩, _, _, rfl, rfl, ?_⟩⟩
        refine ⟨.int _, rfl, .inl ⟨_, rfl, _, 2147483647, rfl, rfl, (by show (2147483647 : Int) ≠ 0; decide), .ref b, rfl, b, _, 1, 1, rfl, rfl, hb5, rfl, some (.int cv), _, rfl, kp5.trans Kp.at, ?_⟩⟩
        refine ⟨s0', _, s2 + 1, ns, upd_same, ?_, ?_, ?_, g3⟩
        · rw [upd_ne ncb]
          exact hc5
        · exact Int.fmod_nonneg_of_pos _ (by decide)
        · exact Int.fmod_lt_of_pos _ (by decide)
    · exact ⟨none, none, rfl, Kp.refl _ _, s0, s1, s2, ns, hb, hc, g1, g2, g3⟩
  · rintro σ H1 ⟨x4, x5, rfl, k1, t0, t1, t2, ms, hb1, hd1, j1, j2, j3⟩
    have ndb : c ≠ b := Bag.cne hb1 hd1
    refine ⟨.ref b, rfl, b, _, 0, .int t0, rfl, rfl, SqL.of hb1, atI_nat (j := 0) rfl, t0, 0, rfl, rfl, _, rfl, ite2 (fun e => ?_) (fun e => ?_)⟩
    · refine ⟨.ref b, rfl, b, _, 0, .int t0, rfl, rfl, SqL.of hb1, atI_nat (j := 0) rfl, .inl ⟨t0, rfl, .int many, rfl, t0, many, rfl, rfl, by show many ≠ 0; omega, ?_⟩⟩
      refine ⟨.ref b, rfl, b, _, 0, .int t0, rfl, rfl, SqL.of hb1, atI_nat (j := 0) rfl, .inl ⟨t0, rfl, .int many, rfl, t0, many, rfl, rfl, ⟨by omega, by omega⟩,
        .ref b, rfl, b, _, 0, 0, rfl, rfl, hb1, rfl, .int (t0.fmod many), rfl, ?_⟩⟩
      refine q _ _ (k1.trans Kp.at) ⟨_, t1, t2, ms, upd_same, ?_, j1, j2, j3⟩ (Int.fmod_nonneg_of_pos _ h0) (Int.fmod_lt_of_pos _ h0)
      rw [upd_ne ndb]
      exact hd1
    · refine ⟨.ref b, rfl, b, _, 1, .int t1, rfl, rfl, SqL.of hb1, atI_nat (j := 1) rfl, t1, 1, rfl, rfl, t1 + 1, 39373, rfl, rfl, .inl ⟨by omega, by omega⟩,
        .inl ⟨_, rfl, _, 1000000007, rfl, rfl, by show (1000000007 : Int) ≠ 0; decide, ?_⟩⟩
      have b1 : 0 ≤ ((t1 + 1) * 39373).fmod 1000000007 := Int.fmod_nonneg_of_pos _ (by decide)
      have b2 : ((t1 + 1) * 39373).fmod 1000000007 < 1000000007 := Int.fmod_lt_of_pos _ (by decide)
      refine ⟨.int (((t1 + 1) * 39373).fmod 1000000007), rfl, .int (((t1 + 1) * 39373).fmod 1000000007), rfl, _, _, rfl, rfl, .inl ⟨Int.lt_of_lt_of_le (by decide) b1, Int.lt_trans b2 (by decide)⟩, .inl ⟨_, rfl, _, 998244353, rfl, rfl, by show (998244353 : Int) ≠ 0; decide, ?_⟩⟩
      generalize ((t1 + 1) * 39373).fmod 1000000007 = bg at *
      have c1 : 0 ≤ (bg * bg).fmod 998244353 := Int.fmod_nonneg_of_pos _ (by decide)
      have c2 : (bg * bg).fmod 998244353 < 998244353 := Int.fmod_lt_of_pos _ (by decide)
      refine ⟨(bg * bg).fmod 998244353, 30011, rfl, rfl, .inl ⟨Int.lt_of_lt_of_le (by decide) c1, Int.lt_trans c2 (by decide)⟩, .inl ⟨_, rfl, _, 998244353, rfl, rfl, by show (998244353 : Int) ≠ 0; decide, ?_⟩⟩
      refine ⟨.int _, rfl, _, 7, rfl, rfl, ⟨by decide, by decide⟩, .inl ⟨_, rfl, .int many, rfl, _, many, rfl, rfl, by show many ≠ 0; omega, ?_⟩⟩
      exact q _ _ k1 ⟨t0, t1, t2, ms, hb1, hd1, j1, j2, j3⟩ (Int.fmod_nonneg_of_pos _ h0) (Int.fmod_lt_of_pos _ h0)

abbrev s_law_some : Stmt := topS 21
theorem sc_law_some : FnScope ["bag", "things"] ["bag", "things"] (defScope s_law_some) := ⟨rfl, rfl, rfl, by decide +kernel, rfl, by decide +kernel, by decide +kernel⟩
theorem ok_law_some {P : Program} {w : World} {K : PySem.W.Frag} {mg : Str → Option Value} {base : Heap} (D : DefAt K mg "_law_some" s_law_some ["bag", "things"]) (c__law_take : Cal P w K mg base 1 "_law_take" spTake) (m_len : mg "len" = none) :
    Cal P w K mg base 2 "_law_some" (spSome K) := by
  refine cal_mk D sc_law_some (fun vs H Q E h => ?_) (fun f cdv A outer s H vs Q E hG hr h => ?_)
  · obtain ⟨b, c, t, xs, rfl, _⟩ := h; rfl
  have nd := sc_law_some.nd
  obtain ⟨b, c, t, xs, rfl, hB, hS, hne, hlt, q⟩ := h
  refine ⟨_, (pss_one (ps_ret (pe_ix (ix_seq : IxR _ (rIx K)) (pv 1) (pe_cg c__law_take (by exact hG) (by exact hr) (by decide) (by rfl) (pa_cons (pv 0) (pa_cons (pe_callB (call_len2 : CallR _ (.builtin "len") (rLen2 K)) (by rfl) m_len PySem.boot_len (pa_cons (pv 1) pa_nil)) pa_nil))) (fun _ _ => rfl)))), ?_⟩
  refine ⟨.ref t, rfl, .ref b, rfl, .ref t, rfl, t, xs, rfl, hS.imp And.left id, b, c, _, rfl, hB, ?_, ?_, fun r H' k1 hB' r0 r1 => ?_⟩
  · have := List.length_pos_iff.mpr hne
    omega
  · omega
  · obtain ⟨x, hx⟩ : ∃ x, xs[r.toNat]? = some x := by
      have : r.toNat < xs.length := by omega
      exact ⟨_, List.getElem?_eq_getElem this⟩
    have hat : atI xs r = some x := by
      have e : r = ((r.toNat : Nat) : Int) := by omega
      rw [e]
      exact atI_nat hx
    have fin := q x H' (List.mem_of_getElem? hx) k1 hB'
    rcases hS with ⟨hS, ne⟩ | hS
    · exact .inl ⟨t, xs, r, x, rfl, rfl, k1.sqL ne hS, hat, fin⟩
    · obtain ⟨zs, hz⟩ := hB.lst
      exact .inr (.inl ⟨t, xs, r, x, rfl, rfl, k1.sqT hz hS, hat, fin⟩)

abbrev s_law_mixed : Stmt := topS 22
theorem sc_law_mixed : FnScope ["bag", "things", "found", "thing"] ["bag", "things"] (defScope s_law_mixed) := ⟨rfl, rfl, rfl, by decide +kernel, rfl, by decide +kernel, by decide +kernel⟩
theorem ok_law_mixed {P : Program} {w : World} {K : PySem.W.Frag} {mg : Str → Option Value} {base : Heap} (D : DefAt K mg "_law_mixed" s_law_mixed ["bag", "things"]) (c__law_take : Cal P w K mg base 1 "_law_take" spTake) (m_len : mg "len" = none) :
    Cal P w K mg base 2 "_law_mixed" (spMixed K) := by
  refine cal_mk D sc_law_mixed (fun vs H Q E h => ?_) (fun f cdv A outer s H vs Q E hG hr h => ?_)
  · obtain ⟨b, c, t, xs, rfl, _⟩ := h; rfl
  have nd := sc_law_mixed.nd
  obtain ⟨b, c, t, xs, rfl, hB, hS, htb, hlen, q⟩ := h
  refine ⟨_, (pss_cons (ps_set (i := 2) nd rfl (.inl rfl) (pe_lst pa_nil))
    (pss_cons (ps_for PassesOwn.never rfl (pi_list (pv 1) : PI _ _ _ (iList K _)) (pg_name (i := 3) nd rfl (.inl rfl)) (pss_one (ps_expr (pe_bm PySem.F.plainAttrs_list PySem.F.slot_list_insert PySem.F.type_list_insert mt_insert (pv 2) (pa_cons (pe_cg c__law_take (by exact hG) (by exact hr) (by decide) (by rfl) (pa_cons (pv 0) (pa_cons (pe_op op_add (pe_callB (call_len2 : CallR _ (.builtin "len") (rLen2 K)) (by rfl) m_len PySem.boot_len (pa_cons (pv 2) pa_nil)) pe_int) pa_nil))) (pa_cons (pv 3) pa_nil))))))
    (pss_one (ps_ret (pv 2))))), ?_⟩
  obtain ⟨zs, hz⟩ := hB.lst
  refine ⟨Nat.zero_le _, fun p np => ?_⟩
  have npb : p ≠ b := fun z => by rw [z, hz] at np; cases np
  have npc : p ≠ c := fun z => by
    obtain ⟨_, ns, hc⟩ := hB.cell
    rw [z, hc] at np
    cases np
  refine ⟨.ref t, rfl, t, rfl, ⟨_, (put_new np (.lst [])).seq hS⟩, ?_⟩
  refine for_list (K := K) (a := t) (xs := xs) (fun i σ H1 => ∃ (ys : List V) (y3 : Option V), σ = [some (.ref b), some (.ref t), some (.ref p), y3] ∧ ys.Perm (xs.take i) ∧ Kp b H H1 ∧ Bag H1 b c ∧ H1 p = some (.lst ys))
    ⟨[], none, rfl, List.Perm.refl _, Kp.new np, hB.new np, upd_same⟩ (fun i σ H1 _ hp => ?_) (fun i x σ H1 hx hp => ?_) (fun σ H1 hp => ?_)
  · obtain ⟨ys, y3, _, _, k1, _⟩ := hp
    exact k1.sqL htb hS
  · obtain ⟨ys, y3, rfl, pm, k1, hB1, hp1⟩ := hp
    have hi : i < xs.length := (List.getElem?_eq_some_iff.mp hx).1
    have ly : ys.length = i := by rw [pm.length_eq, List.length_take]; omega
    refine ⟨.ref p, rfl, .inl ⟨rfl, _, SqL.of hp1⟩, .ref b, rfl, .ref p, rfl, p, ys, rfl, .inl (SqL.of hp1), _, _, rfl, rfl, b, c, _, rfl, hB1, by omega, by omega, fun r H2 k2 hB2 r0 r1 => ?_⟩
    have hp2 := k2 p _ npb hp1
    refine ⟨x, rfl, p, ys, r, x, rfl, rfl, hp2, small1000 (by omega), r0, by omega, ys.take r.toNat ++ [x] ++ ys.drop r.toNat, some x, rfl, ?_, ?_, ?_, upd_same⟩
    · rw [List.take_add_one, hx]
      have q1 : (ys.take r.toNat ++ [x] ++ ys.drop r.toNat).Perm (x :: ys) := by
        rw [List.append_assoc, List.singleton_append]
        refine List.perm_middle.trans ?_
        rw [List.take_append_drop]
      refine q1.trans ((pm.cons x).trans ?_)
      exact (List.perm_append_singleton x (xs.take i)).symm
    · intro q o n e
      have n2 : q ≠ p := ne_of_none e np
      rw [upd_ne n2]
      exact k2 q o n (k1 q o n e)
    · exact hB2.other npb npc
  · obtain ⟨ys, y3, rfl, pm, k1, hB1, hp1⟩ := hp
    rw [List.take_of_length_le (Nat.le_refl _)] at pm
    exact ⟨.ref p, rfl, q p ys H1 pm k1 hB1 np hp1⟩

end LW

namespace LW
open PySem PySem.Spec PyProof.Rows L2 GL
abbrev s_law_alike : Stmt := topS 23
theorem sc_law_alike : FnScope ["found", "due"] ["found", "due"] (defScope s_law_alike) := ⟨rfl, rfl, rfl, by decide +kernel, rfl, by decide +kernel, by decide +kernel⟩
theorem ok_law_alike {P : Program} {w : World} {K : PySem.W.Frag} {mg : Str → Option Value} {base : Heap} (D : DefAt K mg "_law_alike" s_law_alike ["found", "due"]) (m_repr : mg "repr" = none) :
    Cal P w K mg base 1 "_law_alike" (spAlikeW K) := by
  refine cal_mk D sc_law_alike (fun vs H Q E h => ?_) (fun f cdv A outer s H vs Q E hG hr h => ?_)
  · obtain ⟨x, y, d, rfl, _⟩ := h; rfl
  have nd := sc_law_alike.nd
  obtain ⟨x, y, d, rfl, ha, hb, so, q⟩ := h
  refine ⟨_, (pss_one (ps_ret (pe_and (pe_cmpR (op_eqW (by exact hr.units) : OpR _ (compareOp .Eq) (rEqW K)) (pv 0) (pv 1) (nomark _)) (pe_one (pe_cmpR op_eq (pe_callB (call_reprW (by exact hG) (by exact hr.units) : CallR _ (.builtin "repr") (rReprW K)) (by rfl) m_repr (by decide +kernel) (pa_cons (pv 0) pa_nil)) (pe_callB (call_reprW (by exact hG) (by exact hr.units) : CallR _ (.builtin "repr") (rReprW K)) (by rfl) m_repr (by decide +kernel) (pa_cons (pv 1) pa_nil)) (nomark _)))))), ?_⟩
  refine ⟨x, rfl, y, rfl, d, so.2.1, ha, hb, _, rfl, ?_⟩
  refine iteT ⟨x, rfl, _, d, rfl, ha, so, y, rfl, _, d, rfl, hb, so, rfl, ?_⟩
  rw [decide_eq_true rfl]
  exact q


theorem yb2_all {wide : Int} : ∀ {acc : List V} {js : List Int}, PySem.W.EachIs (fun v i => v = V.int i ∧ -1 ≤ i ∧ i < wide) acc js → acc = js.map V.int ∧ ∀ v ∈ js, -1 ≤ v ∧ v < wide
  | _, _, .nil => ⟨rfl, fun _ z => nomatch z⟩
  | _, _, .cons h t => by
    obtain ⟨e, g⟩ := yb2_all t
    refine ⟨by rw [List.map_cons, ← e, ← h.1], fun v hv => ?_⟩
    rcases List.mem_cons.mp hv with rfl | hv
    · exact h.2
    · exact g v hv

/-- a drawn table -/
def GoodT (many : Int) (most : Nat) (rs : List (List Int)) : Prop := 1 ≤ many ∧ many ≤ 4 ∧ K2.Lot rs ∧ rs.length ≤ most ∧ ∀ r ∈ rs, r.length = many.toNat ∧ ∀ v ∈ r, -1 ≤ v ∧ v < 12
def spTab (K : PySem.W.Frag) : Sp := fun vs H Q _ => ∃ (b c : Addr) (most : Nat), vs = [.ref b, .int (most : Int)] ∧ Bag H b c ∧ most ≤ 50 ∧
  ∀ (t a : Addr) (many : Int) (bs : List (V × List Int)) H', Kp b H H' → Bag H' b c → TabAt K H' t many a bs → GoodT many most (bs.map (·.2)) → Q (.ref t) H'

theorem nodup_map {α β : Type} {f : α → β} : ∀ {l : List α}, (l.map f).Nodup → l.Nodup
  | [], _ => .nil
  | a :: l, h => by
    rw [List.map_cons, List.nodup_cons] at h
    exact List.nodup_cons.mpr ⟨fun z => h.1 (List.mem_map.mpr ⟨a, z, rfl⟩), nodup_map h.2⟩
theorem nodup_sub {α : Type} : ∀ {l m : List α}, l.Nodup → (∀ a ∈ l, a ∈ m) → l.length ≤ m.length
  | [], _, _, _ => Nat.zero_le _
  | a :: l, m, h, s => by
    rw [List.nodup_cons] at h
    obtain ⟨u, v, rfl⟩ := List.append_of_mem (s a List.mem_cons_self)
    have := nodup_sub (m := u ++ v) h.2 fun b hb => by
      have := s b (List.mem_cons_of_mem _ hb)
      rcases List.mem_append.mp this with z | z
      · exact List.mem_append_left _ z
      · rcases List.mem_cons.mp z with z | z
        · rw [z] at hb
          exact absurd hb h.1
        · exact List.mem_append_right _ z
    rw [List.length_append] at *
    simp only [List.length_cons]
    omega
theorem ks_of {K : PySem.W.Frag} {H : Hp} {many : Nat} : ∀ {acc : List V} {rs : List (List Int)}, PySem.W.EachIs (fun v row => TI K H v row ∧ row.length = many ∧ ∀ v ∈ row, -1 ≤ v ∧ v < 12) acc rs →
    ∃ ks : List (Addr × List Int), acc = ks.map (fun p => V.ref p.1) ∧ rs = ks.map (·.2) ∧ ∀ p ∈ ks, SqT K H p.1 (p.2.map V.int) ∧ p.2.length = many ∧ ∀ v ∈ p.2, -1 ≤ v ∧ v < 12
  | _, _, .nil => ⟨[], rfl, rfl, fun _ z => nomatch z⟩
  | _, r :: _, .cons h t => by
    obtain ⟨ks, e1, e2, e3⟩ := ks_of t
    obtain ⟨⟨a, e, hs⟩, h2⟩ := h
    refine ⟨(a, r) :: ks, by rw [List.map_cons, ← e1, e], by rw [List.map_cons, ← e2], fun p hp => ?_⟩
    rcases List.mem_cons.mp hp with rfl | hp
    · exact ⟨hs, h2⟩
    · exact e3 p hp
abbrev s_law_some_table : Stmt := topS 24
theorem sc_law_some_table : FnScope ["bag", "most", "rows", "many", "wide", "turn", "at"] ["bag", "most"] (defScope s_law_some_table) := ⟨rfl, rfl, rfl, by decide +kernel, rfl, by decide +kernel, by decide +kernel⟩
theorem ok_law_some_table {P : Program} {w : World} {K : PySem.W.Frag} {mg : Str → Option Value} {base : Heap} (D : DefAt K mg "_law_some_table" s_law_some_table ["bag", "most"]) (c__law_some : Cal P w K mg base 2 "_law_some" (spSome K)) (c__law_take : Cal P w K mg base 1 "_law_take" spTake) (m_int : mg "int" = none) (m_range : mg "range" = none) (m_set : mg "set" = none) (m_sorted : mg "sorted" = none) (m_tuple : mg "tuple" = none) :
    Cal P w K mg base 3 "_law_some_table" (spTab K) := by
  refine cal_mk D sc_law_some_table (fun vs H Q E h => ?_) (fun f cdv A outer s H vs Q E hG hr h => ?_)
  · obtain ⟨b, c, most, rfl, _⟩ := h; rfl
  have nd := sc_law_some_table.nd
  obtain ⟨b, c, most, rfl, hB, h50, q⟩ := h
  refine ⟨_, (pss_cons (ps_asg (pe_tup (pa_cons (pe_cg c__law_some (by exact hG) (by exact hr) (by decide) (by rfl) (pa_cons (pv 0) (pa_cons (pe_lst (pa_cons pe_int (pa_cons pe_int (pa_cons pe_int (pa_cons pe_int (pa_cons pe_int pa_nil)))))) pa_nil))) (pa_cons (pe_cg c__law_some (by exact hG) (by exact hr) (by decide) (by rfl) (pa_cons (pv 0) (pa_cons (pe_lst (pa_cons pe_int (pa_cons pe_int (pa_cons pe_int pa_nil)))) pa_nil))) pa_nil))) (pg_tup rfl (pgs_cons (pg_name (i := 3) nd rfl (.inr rfl)) (pgs_cons (pg_name (i := 4) nd rfl (.inr rfl)) pgs_nil))))
    (pss_cons (ps_setLc (i := 2) (own := [("turn", 5)]) (g := gName 5) (tt := tYes) (by rfl) nd rfl rfl (sw_true rfl rfl rfl (by decide +kernel)) (pi_range1 (by rfl) m_range (pa_cons (pe_cg c__law_take (by exact hG) (by exact hr) (by decide) (by rfl) (pa_cons (pv 0) (pa_cons (pe_op op_add (pv 1) pe_int) pa_nil))) pa_nil)) (blkOk_by (own := [("turn", 5)]) (N := ["bag", "most", "rows", "many", "wide", "turn", "at"]) (sc := (defScope s_law_some_table)) (by decide +kernel)) (fun _ _ _ _ _ => (pg_name (i := 5) nd rfl (.inl rfl))) (fun _ _ _ _ _ => pts_nil) (fun _ _ _ _ _ => (pe_callTy (call_tup2 : CallR _ (.type "tuple") (rTupOf K)) (by rfl) m_tuple (by decide +kernel) (pa_cons (pe_lc (own := [("at", 6)]) (g := gName 6) (tt := tYes) (by rfl) nd (pi_range1 (by rfl) m_range (pa_cons (pv 3) pa_nil)) (blkOk_by (own := [("at", 6)]) (N := ["bag", "most", "rows", "many", "wide", "turn", "at"]) (sc := (relS _ (defScope s_law_some_table))) (by decide +kernel)) (fun _ _ _ _ _ => (pg_name (i := 6) nd rfl (.inl rfl))) (fun _ _ _ _ _ => pts_nil) (fun _ _ _ _ _ => (pe_op op_sub (pe_cg c__law_take (by exact hG) (by exact hr) (by decide) (by rfl) (pa_cons (pv 0) (pa_cons (pv 4) pa_nil))) (pe_callTy call_int1 (by rfl) m_int (by decide +kernel) (pa_cons (pe_cmpR op_eq (pe_cg c__law_take (by exact hG) (by exact hr) (by decide) (by rfl) (pa_cons (pv 0) (pa_cons pe_int pa_nil))) pe_int (nomark _)) pa_nil))))) pa_nil))))
    (pss_one (ps_ret (pe_tup (pa_cons (pv 3) (pa_cons (pe_callTy (call_tup2 : CallR _ (.type "tuple") (rTupOf K)) (by rfl) m_tuple (by decide +kernel) (pa_cons (pe_callB (cr_sortSet rfl (by exact hr.units) : CallR _ (.builtin "sorted") (rSortSet K P w)) (by rfl) m_sorted (by decide +kernel) (pa_cons (pe_callTy (cr_setOfT rfl (by exact hr.units) : CallR _ (.type "set") (rSetOfT K P w)) (by rfl) m_set (by decide +kernel) (pa_cons (pv 2) pa_nil)) pa_nil)) pa_nil)) pa_nil))))))), ?_⟩
  have nbl : ∀ {l : Addr} {H1 : Hp}, Bag H1 b c → H1 l = none → l ≠ b := fun {l H1} g n z => by
    obtain ⟨xs, hx⟩ := g.lst
    rw [z, hx] at n
    cases n
  refine ⟨.ref b, rfl, by show 5 ≤ sizeLine; decide, fun l1 n1 => ?_⟩
  refine ⟨b, c, l1, _, rfl, hB.new n1, .inl ⟨SqL.of upd_same, nbl hB n1⟩, (by intro z; cases z), (by show 5 < 1000000; decide), fun x1 H1 hx1 k1 hB1 => ?_⟩
  obtain ⟨many, rfl, m1, m4⟩ : ∃ i : Int, x1 = .int i ∧ 1 ≤ i ∧ i ≤ 4 := by
    simp only [List.mem_cons, List.not_mem_nil, or_false] at hx1
    rcases hx1 with e | e | e | e | e <;> exact ⟨_, e, by decide, by decide⟩
  refine ⟨.ref b, rfl, by show 3 ≤ sizeLine; decide, fun l2 n2 => ?_⟩
  refine ⟨b, c, l2, _, rfl, hB1.new n2, .inl ⟨SqL.of upd_same, nbl hB1 n2⟩, (by intro z; cases z), (by show 3 < 1000000; decide), fun x2 H2 hx2 k2 hB2 => ?_⟩
  obtain ⟨wide, rfl, w0, w1⟩ : ∃ i : Int, x2 = .int i ∧ 0 < i ∧ i ≤ 12 := by
    simp only [List.mem_cons, List.not_mem_nil, or_false] at hx2
    rcases hx2 with e | e | e <;> exact ⟨_, e, by decide, by decide⟩
  refine ⟨by show 2 ≤ sizeLine; decide, fun p0 n0 => ?_⟩
  refine ⟨p0, _, rfl, SqT.of upd_same, rfl, .int many, [.int wide], rfl, .int wide, [], rfl, rfl, ?_⟩
  have K1 : Kp b H (upd H2 p0 (.tup [.int many, .int wide])) := (((Kp.new n1).trans k1).trans ((Kp.new n2).trans k2)).trans (Kp.new n0)
  have B1 := hB2.new (o := .tup [.int many, .int wide]) n0
  generalize upd H2 p0 (.tup [.int many, .int wide]) = G1 at *
  refine ⟨.ref b, rfl, .int most, rfl, most, 1, rfl, rfl, b, c, (most : Int) + 1, rfl, B1, by omega, by omega, fun r G2 k3 B2 r0 r1 => ?_⟩
  refine ⟨r, rfl, by omega, by omega, fun D nD => ?_⟩
  refine lcd_range (n := r.toNat) (Y := fun H v row => TI K H v row ∧ row.length = many.toNat ∧ ∀ v ∈ row, -1 ≤ v ∧ v < 12) (LcG.draw nD B2) (fun _ _ _ _ k h => ⟨h.1.mono k, h.2⟩) (by omega) (fun i H3 hi k4 B3 => ?_) (fun H3 acc rs k4 B3 hD ea el => ?_)
  · intro Qe Qn hE
    refine ⟨rfl, .int many, rfl, many, rfl, by omega, by omega, fun D2 n2 => ?_⟩
    refine lcd_range (n := many.toNat) (Y := fun _ v i => v = V.int i ∧ -1 ≤ i ∧ i < 12) (LcG.draw n2 B3) (fun _ _ _ _ _ h => h) (by omega) (fun i H4 hi k5 B4 => ?_) (fun H4 acc js k5 B4 hD2 ea2 el2 => ?_)
    · intro Re Rn hE2
      refine ⟨rfl, .ref b, rfl, .int wide, rfl, b, c, wide, rfl, B4, w0, by omega, fun r1 H5 k6 B5 a1 a2 => ?_⟩
      refine ⟨.ref b, rfl, b, c, 9, rfl, B5, by decide, by decide, fun r2 H6 k7 B6 _ _ => ?_⟩
      refine ⟨rfl, .inr ⟨_, rfl, r1, _, rfl, rfl, hE2 _ H6 _ (k6.trans k7) B6 ⟨rfl, ?_, ?_⟩⟩⟩
      · cases decide (V.int r2 = V.int 0) <;> simp <;> omega
      · cases decide (V.int r2 = V.int 0) <;> simp <;> omega
    · obtain ⟨rfl, e3⟩ := yb2_all ea2
      refine ⟨D2, _, rfl, .inl (SqL.of hD2), fun p H5 k6 s6 => ?_⟩
      exact hE _ H5 js (k5.trans (Kp.of k6)) (B4.same k6) ⟨⟨p, rfl, s6⟩, el2, e3⟩
  · obtain ⟨ks, e1, e2, e3⟩ := ks_of ea
    subst e1
    have lks : ks.length = r.toNat := by rw [← el, e2, List.length_map]
    refine ⟨.int many, rfl, .ref D, rfl, D, ks, rfl, SqL.of hD, fun p hp => (e3 p hp).1, by omega, fun a2 L n5 sub all => ?_⟩
    have tk5 : TupK H3 (upd H3 a2 (SetTO P w a2 L)) := TupK.new n5 _
    refine ⟨a2, L, rfl, upd_same, fun p hp => ⟨tk5 _ _ _ (e3 p (sub p hp)).1, fun z => ?_⟩, fun p3 bs' n6 pm pw nd => ?_⟩
    · have := (e3 p (sub p hp)).2.1
      rw [z] at this
      have z2 : (0 : Nat) = many.toNat := this
      omega
    · refine ⟨p3, _, rfl, .inl (SqL.of upd_same), fun p4 H7 k7 s7 => ?_⟩
      refine ⟨by show 2 ≤ sizeLine; decide, fun p5 n8 => ?_⟩
      have hbs : ∀ z ∈ bs', ∃ p ∈ L, z = (V.ref p.1, p.2) := fun z hz => by
        obtain ⟨p, hp, e⟩ := List.mem_map.mp (pm.mem_iff.mp hz)
        exact ⟨p, hp, e.symm⟩
      have tk : TupK H3 (upd H7 p5 (.tup [.int many, .ref p4])) := ((tk5.trans (TupK.new n6 _)).trans (TupK.same k7)).trans (TupK.new n8 _)
      have kk : Kp b H (upd H7 p5 (.tup [.int many, .ref p4])) := ((((((K1.trans k3).trans k4).trans (Kp.new n5)).trans (Kp.new n6)).trans (Kp.of k7)).trans (Kp.new n8))
      have BB : Bag (upd H7 p5 (.tup [.int many, .ref p4])) b c := (((B3.new n5).new n6).same k7).new n8
      refine q p5 p4 many bs' _ kk BB ⟨SqT.of upd_same, (TupK.new n8 _) _ _ _ s7, fun z hz => ?_⟩ ⟨m1, m4, ?_, ?_, fun row hrow => ?_⟩
      · obtain ⟨p, hp, rfl⟩ := hbs z hz
        exact ⟨p.1, rfl, tk _ _ _ (e3 p (sub p hp)).1⟩
      · refine K2.lot_of pw ?_
        have := (pm.map (·.2)).nodup_iff
        rw [this, List.map_map]
        exact nd
      · rw [List.length_map, pm.length_eq, List.length_map]
        have := nodup_sub (nodup_map nd) sub
        omega
      · obtain ⟨z, hz, rfl⟩ := List.mem_map.mp hrow
        obtain ⟨p, hp, rfl⟩ := hbs z hz
        exact (e3 p (sub p hp)).2


/-- drawn tables -/
def GoodTs (most : Nat) (ts : List (Str × Tab)) : Prop := (ts.map (·.1)).Nodup ∧ ts.length ≤ 3 ∧ ∀ q ∈ ts, q.1 ∈ nm4 ∧ GoodT q.2.1 most q.2.2
def spTabs (K : PySem.W.Frag) : Sp := fun vs H Q _ => ∃ (b c : Addr) (most : Nat), vs = [.ref b, .int (most : Int)] ∧ Bag H b c ∧ most ≤ 50 ∧
  ∀ (d : Addr) (ts : List (Str × Tab)) H', Kp b H H' → Bag H' b c → H d = none → d ≠ b → d ≠ c → TabsAt K H' d ts → GoodTs most ts → Q (.ref d) H'

theorem cut_take4 (xs : List V) (n : Nat) : cutV xs none (some (n : Int)) = xs.take n := by
  unfold cutV
  rw [HT.sIx_nat, HT.sIx_none, List.drop_zero, Nat.sub_zero]
  rcases Nat.le_total n xs.length with h | h
  · rw [Nat.min_eq_left h]
  · rw [Nat.min_eq_right h, List.take_length, List.take_of_length_le h]
abbrev s_law_some_tables : Stmt := topS 25
theorem sc_law_some_tables : FnScope ["bag", "most", "names", "name"] ["bag", "most"] (defScope s_law_some_tables) := ⟨rfl, rfl, rfl, by decide +kernel, rfl, by decide +kernel, by decide +kernel⟩
theorem ok_law_some_tables {P : Program} {w : World} {K : PySem.W.Frag} {mg : Str → Option Value} {base : Heap} (D : DefAt K mg "_law_some_tables" s_law_some_tables ["bag", "most"]) (c__law_mixed : Cal P w K mg base 2 "_law_mixed" (spMixed K)) (c__law_some_table : Cal P w K mg base 3 "_law_some_table" (spTab K)) (c__law_take : Cal P w K mg base 1 "_law_take" spTake) (m_dict : mg "dict" = none) :
    Cal P w K mg base 4 "_law_some_tables" (spTabs K) := by
  refine cal_mk D sc_law_some_tables (fun vs H Q E h => ?_) (fun f cdv A outer s H vs Q E hG hr h => ?_)
  · obtain ⟨b, c, most, rfl, _⟩ := h; rfl
  have nd := sc_law_some_tables.nd
  obtain ⟨b, c, most, rfl, hB, h50, q⟩ := h
  refine ⟨_, (pss_cons (ps_set (i := 2) nd rfl (.inl rfl) (pe_slice sl_list (pe_cg c__law_mixed (by exact hG) (by exact hr) (by decide) (by rfl) (pa_cons (pv 0) (pa_cons (pe_lst (pa_cons pe_str (pa_cons pe_str (pa_cons pe_str (pa_cons pe_str pa_nil))))) pa_nil))) po_none (po_some (pe_cg c__law_take (by exact hG) (by exact hr) (by decide) (by rfl) (pa_cons (pv 0) (pa_cons pe_int pa_nil))))))
    (pss_one (ps_ret (pe_callTy (call_dictP rfl) (by rfl) m_dict (by decide +kernel) (pa_cons (pe_lc (own := [("name", 3)]) (g := gName 3) (tt := tYes) (by rfl) nd (pi_list (pv 2) : PI _ _ _ (iList K _)) (blkOk_by (own := [("name", 3)]) (N := ["bag", "most", "names", "name"]) (sc := (defScope s_law_some_tables)) (by decide +kernel)) (fun _ _ _ _ _ => (pg_name (i := 3) nd rfl (.inl rfl))) (fun _ _ _ _ _ => pts_nil) (fun _ _ _ _ _ => (pe_tup (pa_cons (pv 3) (pa_cons (pe_cg c__law_some_table (by exact hG) (by exact hr) (by decide) (by rfl) (pa_cons (pv 0) (pa_cons (pv 1) pa_nil))) pa_nil))))) pa_nil))))), ?_⟩
  refine ⟨.ref b, rfl, (by show 4 ≤ sizeLine; decide), fun l nl => ?_⟩
  have nlb : l ≠ b := fun z => by
    obtain ⟨xs, hx⟩ := hB.lst
    rw [z, hx] at nl
    cases nl
  refine ⟨b, c, l, _, rfl, hB.new nl, SqL.of upd_same, nlb, (by show 4 ≤ 1000; decide), fun p ys H1 pm k1 hB1 np hp => ?_⟩
  have npb : p ≠ b := fun z => by
    obtain ⟨xs, hx⟩ := hB.lst
    rw [z, upd_ne nlb.symm, hx] at np
    cases np
  refine ⟨.ref b, rfl, b, c, 4, rfl, hB1, by decide, by decide, fun r H2 k2 hB2 r0 r1 => ?_⟩
  refine ⟨r, rfl, p, ys, rfl, SqL.of (k2 _ _ npb hp), fun p1 n1 => ?_⟩
  obtain ⟨nm0, e0, pm0⟩ := perm_lift V.str ys nm4 pm
  subst e0
  obtain ⟨rn, rfl⟩ : ∃ n : Nat, r = (n : Int) := ⟨r.toNat, by omega⟩
  have ecut : cutV (nm0.map V.str) none (some (rn : Int)) = (nm0.take rn).map V.str := by
    rw [cut_take4, List.map_take]
  have K3 : Kp b H (upd H2 p1 (.lst (cutV (nm0.map V.str) none (some (rn : Int))))) := (((Kp.new nl).trans k1).trans k2).trans (Kp.new n1)
  have hB3 := hB2.new (o := .lst (cutV (nm0.map V.str) none (some (rn : Int)))) n1
  have hp1 : upd H2 p1 (.lst (cutV (nm0.map V.str) none (some (rn : Int)))) p1 = some (.lst ((nm0.take rn).map V.str)) := by rw [upd_same, ecut]
  have p1b : p1 ≠ b := fun z => by
    obtain ⟨xs, hx⟩ := hB2.lst
    rw [z, hx] at n1
    cases n1
  obtain ⟨nm, enm⟩ : ∃ nm, nm = nm0.take rn := ⟨_, rfl⟩
  rw [← enm] at hp1
  have nnm : nm.Nodup := by
    rw [enm]
    exact (pm0.nodup_iff.mpr (by decide +kernel)).sublist (List.take_sublist _ _)
  have lnm : nm.length ≤ 3 := by rw [enm, List.length_take]; omega
  have mnm : ∀ x ∈ nm, x ∈ nm4 := fun x hx => pm0.mem_iff.mp (List.mem_of_mem_take (enm ▸ hx))
  clear ecut pm0 enm pm hp k2 k1 r0 r1 hB1 hB2 n1
  generalize upd H2 p1 (.lst (cutV (nm0.map V.str) none (some (rn : Int)))) = H3 at *
  refine ⟨.ref p1, rfl, p1, rfl, ⟨_, SqL.of hp1⟩, fun D nD => ?_⟩
  refine lcx_list (K := K) (xs := nm.map V.str) (Y := PairV K) (Z := fun i q => nm[i]? = some q.1 ∧ GoodT q.2.1 most q.2.2) (LcG.draw nD hB3) PairV.mono (fun H4 k4 => SqL.of (k4 _ _ p1b hp1)) (by rw [List.length_map]; omega) (fun i x H4 hx k4 hB4 => ?_) (fun H4 acc ts k4 hB4 hD ea el hz => ?_)
  · intro Qe Qn hE
    rw [List.getElem?_map] at hx
    obtain ⟨name, hn, rfl⟩ := Option.map_eq_some_iff.mp hx
    refine ⟨rfl, .str name, rfl, .ref b, rfl, .int (most : Int), rfl, b, c, most, rfl, hB4, h50, fun t a many bs H5 k5 hB5 tab good => ?_⟩
    refine ⟨by show 2 ≤ sizeLine; decide, fun p6 n6 => ?_⟩
    exact hE _ _ (name, many, bs.map (·.2)) (k5.trans (Kp.new n6)) (hB5.new n6) ⟨p6, .ref t, rfl, SqT.of upd_same, t, a, bs, rfl, tab.mono (TupK.new n6 _), rfl⟩ ⟨hn, good⟩
  · obtain ⟨ps, kvs, e1, hps, hts⟩ := pairs_kv ea
    subst e1
    refine ⟨D, ps, kvs, rfl, SqL.of hD, hps, fun d nd2 => ?_⟩
    have enames : ts.map (·.1) = nm := by
      rw [List.length_map] at el
      refine List.ext_getElem? fun i => ?_
      rw [List.getElem?_map]
      cases e : ts[i]? with
      | none =>
        rw [List.getElem?_eq_none_iff] at e
        rw [Option.map_none, List.getElem?_eq_none_iff.mpr (by omega)]
      | some q => exact (hz i q e).1.symm
    have hn2 : (ts.map (·.1)).Nodup := by rw [enames]; exact nnm
    have em : mergeK [] kvs = kvs := mergeK_nodup (kvs := []) (hts.nodup hn2)
    rw [em]
    have ndH : H d = none := by
      cases e : H d with
      | none => rfl
      | some o =>
        exfalso
        by_cases z : d = b
        · obtain ⟨xs, hx⟩ := hB4.lst
          rw [z, hx] at nd2
          cases nd2
        · have := k4 d o z (K3 d o z e)
          rw [this] at nd2
          cases nd2
    refine q d ts _ ((K3.trans k4).trans (Kp.new nd2)) (hB4.new nd2) ndH ?_ ?_ ⟨kvs, upd_same, hts.mono (TupK.new nd2 _)⟩ ⟨hn2, ?_, fun q hq => ?_⟩
    · intro z
      obtain ⟨xs, hx⟩ := hB4.lst
      rw [z, hx] at nd2
      cases nd2
    · intro z
      obtain ⟨_, xs, hx⟩ := hB4.cell
      rw [z, hx] at nd2
      cases nd2
    · rw [el, List.length_map]
      exact lnm
    · obtain ⟨i, hi⟩ := List.mem_iff_getElem?.mp hq
      have := hz i q hi
      exact ⟨mnm _ (List.mem_of_getElem? this.1), this.2⟩

end LW

namespace LW
open PySem PySem.Spec PyProof.Rows L2 GL

/-- a whole number's word -/
def iS (v : Int) : Str := Str.ofString (toString v)
def wI (v : Int) : List Nat := TL.tl (iS v)
def rowL (r : List Int) : List Nat := TL.joinL [32] (r.map wI)
theorem small_cases {v : Int} (h : -1 ≤ v ∧ v < 12) : v ∈ ([-1, 0, 1, 2, 3, 4, 5, 6, 7, 8, 9, 10, 11] : List Int) := by
  have : v = -1 ∨ v = 0 ∨ v = 1 ∨ v = 2 ∨ v = 3 ∨ v = 4 ∨ v = 5 ∨ v = 6 ∨ v = 7 ∨ v = 8 ∨ v = 9 ∨ v = 10 ∨ v = 11 := by omega
  simp only [List.mem_cons, List.not_mem_nil, or_false]
  omega
theorem wI_ok : ∀ v ∈ ([-1, 0, 1, 2, 3, 4, 5, 6, 7, 8, 9, 10, 11] : List Int), 32 ∉ wI v ∧ 10 ∉ wI v ∧ wI v ≠ [] ∧ (wI v).length ≤ 2 ∧ v.natAbs.log2 < 1920 := by decide +kernel
def RowOk (r : List Int) : Prop := r ≠ [] ∧ r.length ≤ 4 ∧ ∀ v ∈ r, -1 ≤ v ∧ v < 12
theorem RowOk.w {r : List Int} (h : RowOk r) : ∀ v ∈ r, 32 ∉ wI v ∧ 10 ∉ wI v ∧ wI v ≠ [] ∧ (wI v).length ≤ 2 ∧ v.natAbs.log2 < 1920 := fun v hv => wI_ok v (small_cases (h.2.2 v hv))
theorem sum_le {n : Nat} : ∀ {l : List Nat}, (∀ x ∈ l, x ≤ n) → l.sum ≤ l.length * n
  | [], _ => Nat.zero_le _
  | a :: l, h => by
    have := sum_le (l := l) fun x hx => h x (List.mem_cons_of_mem _ hx)
    have h1 := h a List.mem_cons_self
    rw [List.sum_cons, List.length_cons, Nat.add_mul, Nat.one_mul]
    omega
def YS (H : Hp) (v : V) (b : Str) : Prop := v = .str b
theorem ys_all {H : Hp} : ∀ {acc : List V} {bs : List Str}, PySem.W.EachIs (YS H) acc bs → acc = bs.map V.str
  | _, _, .nil => rfl
  | _, _, .cons h t => by rw [List.map_cons, ys_all t, ← h]
def spShowRow (K : PySem.W.Frag) : Sp := fun vs H Q _ => ∃ (t : Addr) (r : List Int), vs = [.ref t] ∧ SqT K H t (r.map V.int) ∧ RowOk r ∧ ∀ H', Same H H' → Q (.str (SX.S (rowL r))) H'
abbrev sshow_row : Stmt := topS 11
theorem scshow_row : FnScope ["row", "value"] ["row"] (defScope sshow_row) := ⟨rfl, rfl, rfl, by decide +kernel, rfl, by decide +kernel, by decide +kernel⟩
theorem okshow_row {P : Program} {w : World} {K : PySem.W.Frag} {mg : Str → Option Value} {base : Heap} (D : DefAt K mg "show_row" sshow_row ["row"]) (m_str : mg "str" = none) :
    Cal P w K mg base 1 "show_row" (spShowRow K) := by
  refine cal_mk D scshow_row (fun vs H Q E h => ?_) (fun f cdv A outer s H vs Q E hG hr h => ?_)
  · obtain ⟨t, r, rfl, _⟩ := h; rfl
  have nd := scshow_row.nd
  obtain ⟨t, r, rfl, hT, hR, q⟩ := h
  refine ⟨_, (pss_one (ps_ret (pe_m1 PySem.F.slot_str_join PySem.F.type_str_join (mt_joinU : MtR _ "str.join" (rJoinU K)) pe_str (pe_lc (own := [("value", 1)]) (g := gName 1) (tt := tYes) (by rfl) nd (pi_tup (pv 0) : PI _ _ _ (iTup K _)) (blkOk_by (own := [("value", 1)]) (N := ["row", "value"]) (sc := (defScope sshow_row)) (by decide +kernel)) (fun _ _ _ _ _ => (pg_name (i := 1) nd rfl (.inl rfl))) (fun _ _ _ _ _ => pts_nil) (fun _ _ _ _ _ => (pe_callTy call_str_int (by rfl) m_str (by decide +kernel) (pa_cons (pv 1) pa_nil))))))), ?_⟩
  refine ⟨⟨_, rfl⟩, .ref t, rfl, t, rfl, ⟨_, hT⟩, fun D nD => ?_⟩
  refine lcg_tup (K := K) (Y := YS) (out := fun i => (r[i]?).bind fun v => some (iS v)) (LcG.pure nD) (fun _ _ _ _ _ h => h) hT (by rw [List.length_map]; have := hR.2.1; omega) (fun i x H1 hx k1 _ => ?_) (fun H1 acc ys k1 _ hD ea eb => ?_)
  · rw [List.getElem?_map] at hx
    obtain ⟨v, hv, rfl⟩ := Option.map_eq_some_iff.mp hx
    have hw := hR.w v (List.mem_of_getElem? hv)
    intro Qe Qn hE hN
    exact ⟨rfl, .int v, rfl, v, rfl, hw.2.2.2.2, hE _ H1 (iS v) (by simp [hv]) (Same.refl _) trivial rfl⟩
  · rw [List.length_map, fm_all] at eb
    have e2 := ys_all ea
    subst e2
    have ey : ys = r.map iS := by
      rw [eb]
      exact List.filterMap_eq_map ▸ rfl
    have eS : r.map iS = (r.map wI).map SX.S := by
      rw [List.map_map]
      exact List.map_congr_left fun v _ => (SX.S_tl _).symm
    refine ⟨Str.ofString " ", D, ys, rfl, rfl, .inl (SqL.of hD), ?_, ?_⟩
    · have h1 : (ys.map (·.length)).sum ≤ (ys.map (·.length)).length * 2 := by
        refine sum_le fun x hx => ?_
        rw [ey, List.map_map] at hx
        obtain ⟨v, hv, rfl⟩ := List.mem_map.mp hx
        have := (hR.w v hv).2.2.2.1
        show (iS v).length ≤ 2
        rw [TL.len_tl]
        exact this
      have h2 : ys.length ≤ 4 := by rw [ey, List.length_map]; exact hR.2.1
      have h3 : (Str.ofString " ").length = 1 := by decide +kernel
      rw [List.length_map] at h1
      rw [h3]
      omega
    · have e : Txt.join (Str.ofString " ") ys = SX.S (rowL r) := by
        rw [ey, eS]
        have : (Str.ofString " ") = SX.S [32] := by decide +kernel
        rw [this, SX.join_S]
        rfl
      rw [e]
      exact q H1 k1

end LW

namespace LW
open PySem PySem.Spec PyProof.Rows L2 GL

theorem mem_joinL {s : List Nat} {c : Nat} : ∀ {l : List (List Nat)}, c ∈ TL.joinL s l → c ∈ s ∨ ∃ p ∈ l, c ∈ p
  | [], h => by cases h
  | [p], h => .inr ⟨p, by simp, h⟩
  | p :: q :: r, h => by
    have h' : c ∈ p ++ (s ++ TL.joinL s (q :: r)) := h
    rcases List.mem_append.mp h' with h | h
    · exact .inr ⟨p, by simp, h⟩
    · rcases List.mem_append.mp h with h | h
      · exact .inl h
      · rcases mem_joinL h with h | ⟨x, hx, h⟩
        · exact .inl h
        · exact .inr ⟨x, List.mem_cons_of_mem _ hx, h⟩

def tabOf (ts : List (Str × Tab)) (n : Str) : Tab := ((ts.find? fun q => decide (q.1 = n)).map (·.2)).getD (0, [])
theorem kv_get {K : PySem.W.Frag} {H : Hp} : ∀ {kvs : List (Key × V)} {ts : List (Str × Tab)} {n : Str}, TabsKv K H kvs ts → n ∈ ts.map (·.1) →
    ∃ v, valV kvs (.inr n) = some v ∧ TabV K H v (tabOf ts n) ∧ (n, tabOf ts n) ∈ ts
  | _, _, _, .nil, h => by cases h
  | (k, v) :: kvs, q :: ts, n, .cons ⟨e, h⟩ t, m => by
    cases (show k = .inr q.1 from e)
    by_cases z : q.1 = n
    · subst z
      have e1 : tabOf (q :: ts) q.1 = q.2 := by
        unfold tabOf
        rw [List.find?_cons_of_pos (by simp)]
        rfl
      rw [e1]
      exact ⟨v, valV_pos rfl, h, List.mem_cons_self⟩
    · have m2 : n ∈ ts.map (·.1) := (List.mem_cons.mp m).resolve_left fun x => z x.symm
      obtain ⟨u, h1, h2, h3⟩ := kv_get t m2
      have e1 : tabOf (q :: ts) n = tabOf ts n := by
        unfold tabOf
        rw [List.find?_cons_of_neg (by simpa using z)]
      rw [e1]
      exact ⟨u, by rw [valV_neg (fun x => z (Sum.inr.inj x))]; exact h1, h2, List.mem_cons_of_mem _ h3⟩
def headL (n : Str) (m : Int) : List Nat := TL.tl (Str.ofString "table ") ++ (TL.tl n ++ (32 :: wI m))
def blockL (n : Str) (T : Tab) : List (List Nat) := headL n T.1 :: T.2.map rowL
def linesOf (ts : List (Str × Tab)) (cs : List Str) : List (List Nat) := cs.flatMap fun n => blockL n (tabOf ts n)
def textL (ts : List (Str × Tab)) : List Nat := TL.joinL [10] (linesOf ts (canon (ts.map (·.1))))
def lV (l : List Nat) : V := .str (SX.S l)
theorem head_str (n : Str) (m : Int) : Str.ofString "table " ++ n ++ Str.ofString " " ++ iS m = SX.S (headL n m) := by
  refine TL.ext_tl ?_
  rw [TL.tl_append, TL.tl_append, TL.tl_append]
  show _ = headL n m
  have : TL.tl (Str.ofString " ") = [32] := by decide +kernel
  rw [this]
  unfold headL wI
  simp
theorem nm_len : ∀ n ∈ nm4, n.length ≤ 5 ∧ 32 ∉ TL.tl n ∧ 10 ∉ TL.tl n ∧ TL.tl n ≠ [] := by decide +kernel
theorem head_len {n : Str} {m : Int} (hn : n ∈ nm4) (hm : 1 ≤ m ∧ m ≤ 4) : (headL n m).length ≤ 14 := by
  have h1 := (nm_len n hn).1
  rw [TL.len_tl] at h1
  have h2 := (wI_ok m (small_cases ⟨by omega, by omega⟩)).2.2.2.1
  have h3 : (TL.tl (Str.ofString "table ")).length = 6 := by decide +kernel
  unfold headL
  rw [List.length_append, List.length_append, List.length_cons, h3]
  omega
theorem joinL_len (s : List Nat) : ∀ l : List (List Nat), (TL.joinL s l).length ≤ (l.map (·.length)).sum + l.length * s.length
  | [] => Nat.zero_le _
  | [p] => by
    show p.length ≤ _
    simp
  | p :: q :: r => by
    have ih := joinL_len s (q :: r)
    show (p ++ (s ++ TL.joinL s (q :: r))).length ≤ _
    rw [List.length_append, List.length_append, List.map_cons, List.sum_cons, List.length_cons, Nat.add_mul, Nat.one_mul]
    omega
theorem row_len {r : List Int} (h : RowOk r) : (rowL r).length ≤ 12 := by
  have h1 := joinL_len [32] (r.map wI)
  have h2 := sum_le (n := 2) (l := (r.map wI).map (·.length)) fun x hx => by
    rw [List.map_map] at hx
    obtain ⟨v, hv, rfl⟩ := List.mem_map.mp hx
    exact (h.w v hv).2.2.2.1
  rw [List.length_map, List.length_map] at h2
  rw [List.length_map, List.length_singleton] at h1
  have h3 := h.2.1
  unfold rowL
  omega
/-- good tables' rows -/
theorem GoodT.rowOk {m : Int} {most : Nat} {rs : List (List Int)} (h : GoodT m most rs) : ∀ r ∈ rs, RowOk r := fun r hr => by
  obtain ⟨h1, h4, _, _, h5⟩ := h
  obtain ⟨a, b⟩ := h5 r hr
  refine ⟨fun z => ?_, by omega, b⟩
  rw [z] at a
  have z2 : (0 : Nat) = m.toNat := a
  omega
def spShowTs (K : PySem.W.Frag) : Sp := fun vs H Q _ => ∃ (d : Addr) (ts : List (Str × Tab)), vs = [.ref d] ∧ TabsAt K H d ts ∧ GoodTs 8 ts ∧ ∀ H', Same H H' → Q (.str (SX.S (textL ts))) H'
theorem len_cat (x y : Str) : (x ++ y).length = x.length + y.length := by rw [TL.len_tl, TL.tl_append, List.length_append, ← TL.len_tl, ← TL.len_tl]
theorem empty_cat (x : Str) : Str.empty ++ x = x := TL.ext_tl (by rw [TL.tl_append]; rfl)
theorem same_upd {H G : Hp} {p : Addr} {o : HO} (k : Same H G) (n : H p = none) : Same H (upd G p o) := fun q u e => by
  rw [upd_ne (ne_of_none e n)]
  exact k q u e
theorem lines_count {ts : List (Str × Tab)} (g : GoodTs 8 ts) : ∀ {cs : List Str}, (∀ n ∈ cs, (n, tabOf ts n) ∈ ts) → (linesOf ts cs).length ≤ cs.length * 9
  | [], _ => Nat.zero_le _
  | n :: cs, h => by
    have ih := lines_count g (cs := cs) fun m hm => h m (List.mem_cons_of_mem _ hm)
    have h1 : (tabOf ts n).2.length ≤ 8 := (g.2.2 _ (h n List.mem_cons_self)).2.2.2.2.1
    show (blockL n (tabOf ts n) ++ linesOf ts cs).length ≤ _
    rw [List.length_append, List.length_cons, Nat.add_mul]
    unfold blockL
    rw [List.length_cons, List.length_map]
    omega
/-- lines that may be joined -/
theorem lines_ok {ts : List (Str × Tab)} {cs : List Str} (g : GoodTs 8 ts) (hc : ∀ n ∈ cs, (n, tabOf ts n) ∈ ts) : ∀ l ∈ linesOf ts cs, l.length ≤ 14 ∧ 10 ∉ l := by
  intro l hl
  obtain ⟨n, hn, hl⟩ := List.mem_flatMap.mp hl
  obtain ⟨g1, g2⟩ := g.2.2 _ (hc n hn)
  rcases List.mem_cons.mp hl with rfl | hl
  · refine ⟨head_len g1 ⟨g2.1, g2.2.1⟩, ?_⟩
    have h1 := (nm_len n g1).2.2.1
    have h2 := (wI_ok (tabOf ts n).1 (small_cases ⟨by have : 1 ≤ (tabOf ts n).1 := g2.1; omega, by have : (tabOf ts n).1 ≤ 4 := g2.2.1; omega⟩)).2.1
    have h3 : 10 ∉ TL.tl (Str.ofString "table ") := by decide +kernel
    unfold headL
    simp only [List.mem_append, List.mem_cons]
    rintro (h | h | h | h)
    · exact h3 h
    · exact h1 h
    · cases h
    · exact h2 h
  · obtain ⟨r, hr, rfl⟩ := List.mem_map.mp hl
    have ro := GoodT.rowOk g2 r hr
    refine ⟨Nat.le_trans (row_len ro) (by decide), fun z => ?_⟩
    unfold rowL at z
    rcases mem_joinL z with z | ⟨p, hp, z⟩
    · simp at z
    · obtain ⟨v, hv, rfl⟩ := List.mem_map.mp hp
      exact (ro.w v hv).2.1 z
end LW

namespace LW
open PySem PySem.Spec PyProof.Rows L2 GL
abbrev sshow_tables : Stmt := topS 12
theorem scshow_tables : FnScope ["tables", "lines", "name", "many", "rows", "row"] ["tables"] (defScope sshow_tables) := ⟨rfl, rfl, rfl, by decide +kernel, rfl, by decide +kernel, by decide +kernel⟩
theorem okshow_tables {P : Program} {w : World} {K : PySem.W.Frag} {mg : Str → Option Value} {base : Heap} (D : DefAt K mg "show_tables" sshow_tables ["tables"]) (c_show_row : Cal P w K mg base 1 "show_row" (spShowRow K)) (m_sorted : mg "sorted" = none) :
    Cal P w K mg base 2 "show_tables" (spShowTs K) := by
  refine cal_mk D scshow_tables (fun vs H Q E h => ?_) (fun f cdv A outer s H vs Q E hG hr h => ?_)
  · obtain ⟨d, ts, rfl, _⟩ := h; rfl
  have nd := scshow_tables.nd
  obtain ⟨d, ts, rfl, hT, g, q⟩ := h
  refine ⟨_, (pss_cons (ps_set (i := 1) nd rfl (.inl rfl) (pe_lst pa_nil))
    (pss_cons (ps_for PassesOwn.never rfl (pi_list (pe_callB (cr_sortNames rfl : CallR _ (.builtin "sorted") rSortNames) (by rfl) m_sorted (by decide +kernel) (pa_cons (pv 0) pa_nil)) : PI _ _ _ (iList K _)) (pg_name (i := 2) nd rfl (.inl rfl)) (pss_cons (ps_asg (pe_dget (by exact Nat.lt_of_le_of_lt (Nat.add_le_add_left (by decide : 1 ≤ 64) _) hr.units) (pv 0) (pv 2) (fun _ _ => rfl)) (pg_tup rfl (pgs_cons (pg_name (i := 3) nd rfl (.inl rfl)) (pgs_cons (pg_name (i := 4) nd rfl (.inl rfl)) pgs_nil))))
    (pss_cons (ps_expr (pe_bm PySem.F.plainAttrs_list PySem.F.slot_list_append PySem.F.type_list_append mt_append (pv 1) (pa_cons (pe_joined (PJ.cons pe_str (PJ.cons (pe_fmt (pv 2)) (PJ.cons pe_str (PJ.cons (pe_fmt (pv 3)) PJ.nil))))) pa_nil)))
    (pss_one (ps_expr (pe_bm PySem.F.plainAttrs_list PySem.F.slot_list_extend PySem.F.type_list_extend mt_extend (pv 1) (pa_cons (pe_lc (own := [("row", 5)]) (g := gName 5) (tt := tYes) (by rfl) nd (pi_tup (pv 4) : PI _ _ _ (iTup K _)) (blkOk_by (own := [("row", 5)]) (N := ["tables", "lines", "name", "many", "rows", "row"]) (sc := (defScope sshow_tables)) (by decide +kernel)) (fun _ _ _ _ _ => (pg_name (i := 5) nd rfl (.inl rfl))) (fun _ _ _ _ _ => pts_nil) (fun _ _ _ _ _ => (pe_cg c_show_row (by exact hG) (by exact hr) (by decide) (by rfl) (pa_cons (pv 5) pa_nil)))) pa_nil)))))))
    (pss_one (ps_ret (pe_m1 PySem.F.slot_str_join PySem.F.type_str_join (mt_joinU : MtR _ "str.join" (rJoinU K)) pe_str (pv 1)))))), ?_⟩
  have gn : (ts.map (·.1)).Nodup := g.1
  have gm : ∀ k ∈ ts.map (·.1), k ∈ nm4 := fun k hk => by
    obtain ⟨q, hq, rfl⟩ := List.mem_map.mp hk
    exact (g.2.2 q hq).1
  have gl : (ts.map (·.1)).length ≤ 3 := by rw [List.length_map]; exact g.2.1
  obtain ⟨cs, ecs⟩ : ∃ cs, cs = canon (ts.map (·.1)) := ⟨_, rfl⟩
  have pcs := canon_perm gn gm
  rw [← ecs] at pcs
  have lcs : cs.length ≤ 3 := by rw [pcs.length_eq]; exact gl
  refine ⟨Nat.zero_le _, fun p np => ?_⟩
  have k0 := put_new np (.lst [])
  obtain ⟨kvs, hd, hk⟩ := hT
  refine ⟨.ref d, rfl, d, kvs, ts.map (·.1), rfl, k0 _ _ hd, ?_, gn, gm, by omega, fun sp nsp => ?_⟩
  · rw [hk.keys, List.map_map]
    rfl
  rw [← ecs]
  have k1 := k0.trans (put_new nsp (.lst (cs.map V.str)))
  have hsp : upd (upd H p (.lst [])) sp (.lst (cs.map V.str)) sp = some (.lst (cs.map V.str)) := upd_same
  have hp1 : upd (upd H p (.lst [])) sp (.lst (cs.map V.str)) p = some (.lst []) := put_new nsp (.lst (cs.map V.str)) _ _ upd_same
  have nps : p ≠ sp := fun z => by rw [← z, upd_same] at nsp; cases nsp
  have nspH : H sp = none := by
    cases e : H sp with
    | none => rfl
    | some o => rw [k0 _ _ e] at nsp; cases nsp
  refine ⟨sp, rfl, ⟨_, SqL.of hsp⟩, ?_⟩
  refine for_list (K := K) (a := sp) (xs := cs.map V.str) (fun i σ G => ∃ y2 y3 y4 y5, σ = [some (.ref d), some (.ref p), y2, y3, y4, y5] ∧ Same H G ∧ G sp = some (.lst (cs.map V.str)) ∧ G p = some (.lst ((linesOf ts (cs.take i)).map lV)))
    ⟨none, none, none, none, rfl, k1, hsp, hp1⟩ (fun i σ G _ hp => ?_) (fun i x σ G hx hp => ?_) (fun σ G hp => ?_)
  · obtain ⟨_, _, _, _, _, _, h, _⟩ := hp
    exact SqL.of h
  · obtain ⟨y2, y3, y4, y5, rfl, k, hs, hl⟩ := hp
    rw [List.getElem?_map] at hx
    obtain ⟨n, hn, rfl⟩ := Option.map_eq_some_iff.mp hx
    have hnm : n ∈ ts.map (·.1) := pcs.mem_iff.mp (List.mem_of_getElem? hn)
    obtain ⟨v, hv, ⟨t, a, bs, rfl, tab, ebs⟩, hin⟩ := kv_get hk hnm
    obtain ⟨gn4, gt⟩ := g.2.2 _ hin
    have tab1 := tab.mono (TupK.same k)
    refine ⟨.ref d, rfl, .str n, rfl, d, .ref t, rfl, ?_, ?_⟩
    · have := DGet.k (k := (.inr n)) (k _ _ hd)
      rw [hv] at this
      exact this
    have g1 : 1 ≤ (tabOf ts n).1 := gt.1
    have g4 : (tabOf ts n).1 ≤ 4 := gt.2.1
    have hw := wI_ok (tabOf ts n).1 (small_cases ⟨by omega, by omega⟩)
    refine ⟨t, _, rfl, tab1.1, rfl, .int (tabOf ts n).1, [.ref a], rfl, .ref a, [], rfl, rfl, ?_⟩
    have l1 : (Str.empty ++ Str.ofString "table ").length = 6 := by decide +kernel
    have l2 := (nm_len n gn4).1
    have l3 : (Str.ofString " ").length = 1 := by decide +kernel
    have l4 : (iS (tabOf ts n).1).length ≤ 2 := by rw [TL.len_tl]; exact hw.2.2.2.1
    have nl : ((linesOf ts (cs.take i)).map lV).length ≤ 27 := by
      rw [List.length_map]
      refine Nat.le_trans (lines_count g fun m hm => ?_) (by rw [List.length_take]; omega)
      have : m ∈ ts.map (·.1) := pcs.mem_iff.mp (List.mem_of_mem_take hm)
      obtain ⟨_, _, _, h⟩ := kv_get hk this
      exact h
    refine ⟨.ref p, rfl, .inl ⟨rfl, _, SqL.of hl⟩, _, rfl, by rw [l1]; decide, .str n, rfl, .inl ⟨n, rfl, Nat.le_trans l2 (by decide), _, rfl, by rw [len_cat, l1]; exact Nat.le_trans (Nat.add_le_add_left l2 6) (by decide), _, rfl, by rw [len_cat, len_cat, l1, l3]; exact Nat.le_trans (Nat.add_le_add_right (Nat.add_le_add_left l2 6) 1) (by decide),
      .int (tabOf ts n).1, rfl, .inr ⟨_, rfl, hw.2.2.2.2, _, rfl, ?_, ?_⟩⟩⟩
    · show (Str.empty ++ Str.ofString "table " ++ n ++ Str.ofString " " ++ iS (tabOf ts n).1).length ≤ sizeLine
      rw [len_cat, len_cat, len_cat, l1, l3]
      exact Nat.le_trans (show 6 + n.length + 1 + (iS (tabOf ts n).1).length ≤ 14 by omega) (by decide)
    rw [show Str.empty ++ Str.ofString "table " ++ n ++ Str.ofString " " ++ Str.ofString (toString (tabOf ts n).1) = SX.S (headL n (tabOf ts n).1) by rw [empty_cat]; exact head_str n _]
    refine ⟨p, _, _, rfl, rfl, hl, small1000 (by omega), ?_⟩
    have hl2 : upd G p (.lst ((linesOf ts (cs.take i)).map lV ++ [V.str (SX.S (headL n (tabOf ts n).1))])) p = some (.lst ((linesOf ts (cs.take i)).map lV ++ [V.str (SX.S (headL n (tabOf ts n).1))])) := upd_same
    have k2 := same_upd (o := .lst ((linesOf ts (cs.take i)).map lV ++ [V.str (SX.S (headL n (tabOf ts n).1))])) k np
    have hs2 : upd G p (.lst ((linesOf ts (cs.take i)).map lV ++ [V.str (SX.S (headL n (tabOf ts n).1))])) sp = some (.lst (cs.map V.str)) := by rw [upd_ne nps.symm]; exact hs
    have tab2 := tab.mono (TupK.same k2)
    generalize upd G p (.lst ((linesOf ts (cs.take i)).map lV ++ [V.str (SX.S (headL n (tabOf ts n).1))])) = G2 at *
    have lbs : bs.length ≤ 8 := by
      have := gt.2.2.2.1
      rw [← ebs, List.length_map] at this
      exact this
    refine ⟨.ref p, rfl, .inl ⟨rfl, _, SqL.of hl2⟩, .ref a, rfl, a, rfl, ⟨_, tab2.2.1⟩, fun D nD => ?_⟩
    refine lcg_tup (K := K) (Y := YS) (out := fun i => (bs[i]?).bind fun b => some (SX.S (rowL b.2))) (LcG.pure nD) (fun _ _ _ _ _ h => h) tab2.2.1 (by rw [List.length_map]; omega) (fun i x H1 hx k1 _ => ?_) (fun H1 acc ys k1 _ hD ea eb => ?_)
    · obtain ⟨u, hb, rfl, hm⟩ := get_fst hx
      intro Qe Qn hE hN
      obtain ⟨tb, et, hb1⟩ := (tab2.2.2 u hm).mono (TupK.same k1)
      have ro : RowOk u.2 := GoodT.rowOk gt u.2 (by show u.2 ∈ (tabOf ts n).2; rw [← ebs]; exact List.mem_map.mpr ⟨u, hm, rfl⟩)
      exact ⟨rfl, u.1, rfl, tb, u.2, by rw [et]; rfl, hb1, ro, fun H2 k2 => hE _ H2 _ (by simp [hb]) k2 trivial rfl⟩
    · rw [List.length_map, fm_all] at eb
      have e2 := ys_all ea
      subst e2
      have ey : ys.map V.str = ((tabOf ts n).2.map rowL).map lV := by
        rw [eb, show bs.filterMap (fun b => some (SX.S (rowL b.2))) = bs.map (fun b => SX.S (rowL b.2)) from List.filterMap_eq_map ▸ rfl]
        have ebs' : bs.map (·.2) = (tabOf ts n).2 := ebs
        rw [← ebs', List.map_map, List.map_map, List.map_map]
        rfl
      have ly : (ys.map V.str).length ≤ 8 := by
        rw [eb, List.length_map]
        exact Nat.le_trans (List.length_filterMap_le _ _) lbs
      have hl3 := k1 _ _ hl2
      refine ⟨p, D, _, _, rfl, rfl, hl3, hD, by rw [List.length_append]; exact Nat.le_trans (Nat.add_le_add (Nat.add_le_add nl (Nat.le_refl 1)) ly) (by decide), ?_⟩
      refine ⟨_, _, _, _, rfl, same_upd (k2.trans k1) np, ?_, ?_⟩
      · rw [upd_ne nps.symm]
        exact k1 _ _ hs2
      · rw [upd_same, ey]
        congr 2
        rw [List.take_add_one, hn]
        unfold linesOf
        rw [List.flatMap_append, List.map_append]
        show _ = _ ++ ([n].flatMap fun n => blockL n (tabOf ts n)).map lV
        simp [blockL, lV]
  · obtain ⟨y2, y3, y4, y5, rfl, k, hs, hl⟩ := hp
    rw [List.length_map, List.take_length] at hl
    have nl : (linesOf ts cs).length ≤ 27 := by
      refine Nat.le_trans (lines_count g fun m hm => ?_) (by omega)
      obtain ⟨_, _, _, h⟩ := kv_get hk (pcs.mem_iff.mp hm)
      exact h
    have lo := lines_ok g (cs := cs) fun m hm => by
      obtain ⟨_, _, _, h⟩ := kv_get hk (pcs.mem_iff.mp hm)
      exact h
    refine ⟨⟨_, rfl⟩, .ref p, rfl, _, p, (linesOf ts cs).map SX.S, rfl, rfl, .inl (SqL.of ?_), ?_, ?_⟩
    · rw [List.map_map]
      exact hl
    · have l3 : (Str.ofString "\n").length = 1 := by decide +kernel
      rw [SX.lens, List.length_map, l3]
      have := sum_le (n := 14) (l := (linesOf ts cs).map (·.length)) fun x hx => by
        obtain ⟨l, hl, rfl⟩ := List.mem_map.mp hx
        exact (lo l hl).1
      rw [List.length_map] at this
      omega
    · have e : (Str.ofString "\n") = SX.S [10] := by decide +kernel
      rw [e, SX.join_S]
      have := q G k
      unfold textL at this
      rw [← ecs] at this
      exact this

end LW

namespace LW
open PySem PySem.Spec PyProof.Rows L2 GL

def spLines (K : PySem.W.Frag) : Sp := fun vs H Q _ => ∃ (d : Addr) (ts : List (Str × Tab)), vs = [.ref d] ∧ TabsAt K H d ts ∧ GoodTs 8 ts ∧
  ∀ (p : Addr) H', Same H H' → H p = none → H' p = some (.lst ((linesOf ts (canon (ts.map (·.1)))).map lV)) → Q (.ref p) H'
abbrev s_law_table_lines : Stmt := topS 26
theorem sc_law_table_lines : FnScope ["tables", "found", "name", "row", "one"] ["tables"] (defScope s_law_table_lines) := ⟨rfl, rfl, rfl, by decide +kernel, rfl, by decide +kernel, by decide +kernel⟩
theorem ok_law_table_lines {P : Program} {w : World} {K : PySem.W.Frag} {mg : Str → Option Value} {base : Heap} (D : DefAt K mg "_law_table_lines" s_law_table_lines ["tables"]) (m_sorted : mg "sorted" = none) (m_str : mg "str" = none) :
    Cal P w K mg base 1 "_law_table_lines" (spLines K) := by
  refine cal_mk D sc_law_table_lines (fun vs H Q E h => ?_) (fun f cdv A outer s H vs Q E hG hr h => ?_)
  · obtain ⟨d, ts, rfl, _⟩ := h; rfl
  have nd := sc_law_table_lines.nd
  obtain ⟨d, ts, rfl, hT, g, q⟩ := h
  refine ⟨_, (pss_cons (ps_set (i := 1) nd rfl (.inl rfl) (pe_lst pa_nil))
    (pss_cons (ps_for PassesOwn.never rfl (pi_list (pe_callB (cr_sortNames rfl : CallR _ (.builtin "sorted") rSortNames) (by rfl) m_sorted (by decide +kernel) (pa_cons (pv 0) pa_nil)) : PI _ _ _ (iList K _)) (pg_name (i := 2) nd rfl (.inl rfl)) (pss_cons (ps_expr (pe_bm PySem.F.plainAttrs_list PySem.F.slot_list_append PySem.F.type_list_append mt_append (pv 1) (pa_cons (pe_op op_add_str (pe_op op_add_str (pe_op op_add_str pe_str (pv 2)) pe_str) (pe_callTy call_str_int (by rfl) m_str (by decide +kernel) (pa_cons (pe_ix (ix_tup : IxR _ (rIxT K)) (pe_dget (by exact Nat.lt_of_le_of_lt (Nat.add_le_add_left (by decide : 1 ≤ 64) _) hr.units) (pv 0) (pv 2) (fun _ _ => rfl)) pe_int (fun _ _ => rfl)) pa_nil))) pa_nil)))
    (pss_one (ps_expr (pe_bm PySem.F.plainAttrs_list PySem.F.slot_list_extend PySem.F.type_list_extend mt_extend (pv 1) (pa_cons (pe_lc (own := [("row", 3)]) (g := gName 3) (tt := tYes) (by rfl) nd (pi_tup (pe_ix (ix_tup : IxR _ (rIxT K)) (pe_dget (by exact Nat.lt_of_le_of_lt (Nat.add_le_add_left (by decide : 1 ≤ 64) _) hr.units) (pv 0) (pv 2) (fun _ _ => rfl)) pe_int (fun _ _ => rfl)) : PI _ _ _ (iTup K _)) (blkOk_by (own := [("row", 3)]) (N := ["tables", "found", "name", "row", "one"]) (sc := (defScope s_law_table_lines)) (by decide +kernel)) (fun _ _ _ _ _ => (pg_name (i := 3) nd rfl (.inl rfl))) (fun _ _ _ _ _ => pts_nil) (fun _ _ _ _ _ => (pe_m1 PySem.F.slot_str_join PySem.F.type_str_join (mt_joinU : MtR _ "str.join" (rJoinU K)) pe_str (pe_lc (own := [("one", 4)]) (g := gName 4) (tt := tYes) (by rfl) nd (pi_tup (pv 3) : PI _ _ _ (iTup K _)) (blkOk_by (own := [("one", 4)]) (N := ["tables", "found", "name", "row", "one"]) (sc := (relS _ (defScope s_law_table_lines))) (by decide +kernel)) (fun _ _ _ _ _ => (pg_name (i := 4) nd rfl (.inl rfl))) (fun _ _ _ _ _ => pts_nil) (fun _ _ _ _ _ => (pe_callTy call_str_int (by rfl) m_str (by decide +kernel) (pa_cons (pv 4) pa_nil))))))) pa_nil))))))
    (pss_one (ps_ret (pv 1))))), ?_⟩
  have gn : (ts.map (·.1)).Nodup := g.1
  have gm : ∀ k ∈ ts.map (·.1), k ∈ nm4 := fun k hk => by
    obtain ⟨q, hq, rfl⟩ := List.mem_map.mp hk
    exact (g.2.2 q hq).1
  have gl : (ts.map (·.1)).length ≤ 3 := by rw [List.length_map]; exact g.2.1
  obtain ⟨cs, ecs⟩ : ∃ cs, cs = canon (ts.map (·.1)) := ⟨_, rfl⟩
  have pcs := canon_perm gn gm
  rw [← ecs] at pcs
  have lcs : cs.length ≤ 3 := by rw [pcs.length_eq]; exact gl
  refine ⟨Nat.zero_le _, fun p np => ?_⟩
  have k0 := put_new np (.lst [])
  obtain ⟨kvs, hd, hk⟩ := hT
  refine ⟨.ref d, rfl, d, kvs, ts.map (·.1), rfl, k0 _ _ hd, ?_, gn, gm, by omega, fun sp nsp => ?_⟩
  · rw [hk.keys, List.map_map]
    rfl
  rw [← ecs]
  have k1 := k0.trans (put_new nsp (.lst (cs.map V.str)))
  have hsp : upd (upd H p (.lst [])) sp (.lst (cs.map V.str)) sp = some (.lst (cs.map V.str)) := upd_same
  have hp1 : upd (upd H p (.lst [])) sp (.lst (cs.map V.str)) p = some (.lst []) := put_new nsp (.lst (cs.map V.str)) _ _ upd_same
  have nps : p ≠ sp := fun z => by rw [← z, upd_same] at nsp; cases nsp
  have nspH : H sp = none := by
    cases e : H sp with
    | none => rfl
    | some o => rw [k0 _ _ e] at nsp; cases nsp
  refine ⟨sp, rfl, ⟨_, SqL.of hsp⟩, ?_⟩
  refine for_list (K := K) (a := sp) (xs := cs.map V.str) (fun i σ G => ∃ y2 y3 y4, σ = [some (.ref d), some (.ref p), y2, y3, y4] ∧ Same H G ∧ G sp = some (.lst (cs.map V.str)) ∧ G p = some (.lst ((linesOf ts (cs.take i)).map lV)))
    ⟨none, none, none, rfl, k1, hsp, hp1⟩ (fun i σ G _ hp => ?_) (fun i x σ G hx hp => ?_) (fun σ G hp => ?_)
  · obtain ⟨_, _, _, _, _, h, _⟩ := hp
    exact SqL.of h
  · obtain ⟨y2, y3, y4, rfl, k, hs, hl⟩ := hp
    rw [List.getElem?_map] at hx
    obtain ⟨n, hn, rfl⟩ := Option.map_eq_some_iff.mp hx
    have hnm : n ∈ ts.map (·.1) := pcs.mem_iff.mp (List.mem_of_getElem? hn)
    obtain ⟨v, hv, ⟨t, a, bs, rfl, tab, ebs⟩, hin⟩ := kv_get hk hnm
    obtain ⟨gn4, gt⟩ := g.2.2 _ hin
    have tab1 := tab.mono (TupK.same k)
    have g1 : 1 ≤ (tabOf ts n).1 := gt.1
    have g4 : (tabOf ts n).1 ≤ 4 := gt.2.1
    have hw := wI_ok (tabOf ts n).1 (small_cases ⟨by omega, by omega⟩)
    have l1 : (Str.ofString "table ").length = 6 := by decide +kernel
    have l2 := (nm_len n gn4).1
    have l3 : (Str.ofString " ").length = 1 := by decide +kernel
    have l4 : (iS (tabOf ts n).1).length ≤ 2 := by rw [TL.len_tl]; exact hw.2.2.2.1
    have nl : ((linesOf ts (cs.take i)).map lV).length ≤ 27 := by
      rw [List.length_map]
      refine Nat.le_trans (lines_count g fun m hm => ?_) (by rw [List.length_take]; omega)
      have : m ∈ ts.map (·.1) := pcs.mem_iff.mp (List.mem_of_mem_take hm)
      obtain ⟨_, _, _, h⟩ := kv_get hk this
      exact h
    have dg : DGet G d (.str n) (some (.ref t)) := by
      have := DGet.k (k := (.inr n)) (k _ _ hd)
      rw [hv] at this
      exact this
    refine ⟨.ref p, rfl, .inl ⟨rfl, _, SqL.of hl⟩, .str n, rfl, _, _, rfl, rfl, by rw [l1]; exact Nat.le_trans (Nat.add_le_add_left l2 6) (by decide), _, _, rfl, rfl, by rw [len_cat, l1, l3]; exact Nat.le_trans (Nat.add_le_add_right (Nat.add_le_add_left l2 6) 1) (by decide), ?_⟩
    refine ⟨.ref d, rfl, .str n, rfl, d, .ref t, rfl, dg, ?_⟩
    refine ⟨t, _, 0, .int (tabOf ts n).1, rfl, rfl, tab1.1, atI_nat (j := 0) rfl, _, rfl, hw.2.2.2.2, _, _, rfl, rfl, ?_, ?_⟩
    · show _ + (iS (tabOf ts n).1).length ≤ sizeLine
      rw [len_cat, len_cat, l1, l3]
      exact Nat.le_trans (show 6 + n.length + 1 + (iS (tabOf ts n).1).length ≤ 14 by omega) (by decide)
    rw [show Str.ofString "table " ++ n ++ Str.ofString " " ++ Str.ofString (toString (tabOf ts n).1) = SX.S (headL n (tabOf ts n).1) from head_str n _]
    refine ⟨p, _, _, rfl, rfl, hl, small1000 (by omega), ?_⟩
    have hl2 : upd G p (.lst ((linesOf ts (cs.take i)).map lV ++ [V.str (SX.S (headL n (tabOf ts n).1))])) p = some (.lst ((linesOf ts (cs.take i)).map lV ++ [V.str (SX.S (headL n (tabOf ts n).1))])) := upd_same
    have k2 := same_upd (o := .lst ((linesOf ts (cs.take i)).map lV ++ [V.str (SX.S (headL n (tabOf ts n).1))])) k np
    have hs2 : upd G p (.lst ((linesOf ts (cs.take i)).map lV ++ [V.str (SX.S (headL n (tabOf ts n).1))])) sp = some (.lst (cs.map V.str)) := by rw [upd_ne nps.symm]; exact hs
    have tab2 := tab.mono (TupK.same k2)
    generalize upd G p (.lst ((linesOf ts (cs.take i)).map lV ++ [V.str (SX.S (headL n (tabOf ts n).1))])) = G2 at *
    have lbs : bs.length ≤ 8 := by
      have := gt.2.2.2.1
      rw [← ebs, List.length_map] at this
      exact this
    have dg2 : DGet G2 d (.str n) (some (.ref t)) := by
      have := DGet.k (k := (.inr n)) (k2 _ _ hd)
      rw [hv] at this
      exact this
    refine ⟨.ref p, rfl, .inl ⟨rfl, _, SqL.of hl2⟩, .ref d, rfl, .str n, rfl, d, .ref t, rfl, dg2, ?_⟩
    refine ⟨t, _, 1, .ref a, rfl, rfl, tab2.1, atI_nat (j := 1) rfl, a, rfl, ⟨_, tab2.2.1⟩, fun D nD => ?_⟩
    refine lcg_tup (K := K) (Y := YS) (out := fun i => (bs[i]?).bind fun b => some (SX.S (rowL b.2))) (LcG.pure nD) (fun _ _ _ _ _ h => h) tab2.2.1 (by rw [List.length_map]; omega) (fun i x H1 hx k1 _ => ?_) (fun H1 acc ys k1 _ hD ea eb => ?_)
    · obtain ⟨u, hb, rfl, hm⟩ := get_fst hx
      intro Qe Qn hE hN
      obtain ⟨tb, et, hb1⟩ := (tab2.2.2 u hm).mono (TupK.same k1)
      have hR : RowOk u.2 := GoodT.rowOk gt u.2 (by show u.2 ∈ (tabOf ts n).2; rw [← ebs]; exact List.mem_map.mpr ⟨u, hm, rfl⟩)
      refine ⟨rfl, ⟨_, rfl⟩, u.1, rfl, tb, et, ⟨_, hb1⟩, fun D2 n2 => ?_⟩
      refine lcg_tup (K := K) (Y := YS) (out := fun i => (u.2[i]?).bind fun v => some (iS v)) (LcG.pure n2) (fun _ _ _ _ _ h => h) hb1 (by rw [List.length_map]; have := hR.2.1; omega) (fun i x H3 hx k3 _ => ?_) (fun H3 acc zs k3 _ hD2 ea2 eb2 => ?_)
      · rw [List.getElem?_map] at hx
        obtain ⟨v, hv2, rfl⟩ := Option.map_eq_some_iff.mp hx
        have hw2 := hR.w v (List.mem_of_getElem? hv2)
        intro Re Rn hE2 hN2
        exact ⟨rfl, .int v, rfl, v, rfl, hw2.2.2.2.2, hE2 _ H3 (iS v) (by simp [hv2]) (Same.refl _) trivial rfl⟩
      · rw [List.length_map, fm_all] at eb2
        have e2 := ys_all ea2
        subst e2
        have ey : zs = u.2.map iS := by
          rw [eb2]
          exact List.filterMap_eq_map ▸ rfl
        have eS : u.2.map iS = (u.2.map wI).map SX.S := by
          rw [List.map_map]
          exact List.map_congr_left fun v _ => (SX.S_tl _).symm
        refine ⟨Str.ofString " ", D2, zs, rfl, rfl, .inl (SqL.of hD2), ?_, ?_⟩
        · have h1 : (zs.map (·.length)).sum ≤ (zs.map (·.length)).length * 2 := by
            refine sum_le fun x hx => ?_
            rw [ey, List.map_map] at hx
            obtain ⟨v, hv, rfl⟩ := List.mem_map.mp hx
            have := (hR.w v hv).2.2.2.1
            show (iS v).length ≤ 2
            rw [TL.len_tl]
            exact this
          have h2 : zs.length ≤ 4 := by rw [ey, List.length_map]; exact hR.2.1
          rw [List.length_map] at h1
          rw [l3]
          omega
        · have e : Txt.join (Str.ofString " ") zs = SX.S (rowL u.2) := by
            rw [ey, eS]
            have : (Str.ofString " ") = SX.S [32] := by decide +kernel
            rw [this, SX.join_S]
            rfl
          rw [e]
          exact hE _ H3 _ (by simp [hb]) k3 trivial rfl
    · rw [List.length_map, fm_all] at eb
      have e2 := ys_all ea
      subst e2
      have ey : ys.map V.str = ((tabOf ts n).2.map rowL).map lV := by
        rw [eb, show bs.filterMap (fun b => some (SX.S (rowL b.2))) = bs.map (fun b => SX.S (rowL b.2)) from List.filterMap_eq_map ▸ rfl]
        have ebs' : bs.map (·.2) = (tabOf ts n).2 := ebs
        rw [← ebs', List.map_map, List.map_map, List.map_map]
        rfl
      have ly : (ys.map V.str).length ≤ 8 := by
        rw [eb, List.length_map]
        exact Nat.le_trans (List.length_filterMap_le _ _) lbs
      have hl3 := k1 _ _ hl2
      refine ⟨p, D, _, _, rfl, rfl, hl3, hD, by rw [List.length_append]; exact Nat.le_trans (Nat.add_le_add (Nat.add_le_add nl (Nat.le_refl 1)) ly) (by decide), ?_⟩
      refine ⟨_, _, _, rfl, same_upd (k2.trans k1) np, ?_, ?_⟩
      · rw [upd_ne nps.symm]
        exact k1 _ _ hs2
      · rw [upd_same, ey]
        congr 2
        rw [List.take_add_one, hn]
        unfold linesOf
        rw [List.flatMap_append, List.map_append]
        show _ = _ ++ ([n].flatMap fun n => blockL n (tabOf ts n)).map lV
        simp [blockL, lV]
  · obtain ⟨y2, y3, y4, rfl, k, hs, hl⟩ := hp
    rw [List.length_map, List.take_length] at hl
    have := q p G k np
    rw [← ecs] at this
    exact ⟨_, rfl, this hl⟩

end LW

namespace LW
open PySem PySem.Spec PyProof.Rows L2 GL

def spWords (K : PySem.W.Frag) : Sp := fun vs H Q _ => ∃ (l : List Nat), vs = [.str (SX.S l)] ∧ l.length ≤ 10000 ∧ (TW.cut 32 l).length ≤ 1000 ∧
  ∀ (p : Addr) H', Same H H' → H p = none → H' p = some (.lst ((TW.words l).map lV)) → Q (.ref p) H'
theorem S_ne_empty (w : List Nat) : (decide (V.str (SX.S w) = V.str (Str.ofString ""))) = decide (w = []) := by
  by_cases h : w = []
  · subst h
    have : V.str (SX.S []) = V.str (Str.ofString "") := by decide +kernel
    simp [this]
  · have : ¬ V.str (SX.S w) = V.str (Str.ofString "") := fun e => h (by
      have e1 := V.str.inj e
      have e2 : Str.ofString "" = SX.S [] := by decide +kernel
      rw [e2] at e1
      exact SX.S_inj e1)
    simp [this, h]
def YL (H : Hp) (v : V) (b : List Nat) : Prop := v = lV b
theorem yl_all {H : Hp} : ∀ {acc : List V} {bs : List (List Nat)}, PySem.W.EachIs (YL H) acc bs → acc = bs.map lV
  | _, _, .nil => rfl
  | _, _, .cons h t => by rw [List.map_cons, yl_all t, ← h]
abbrev swords_of : Stmt := topS 13
theorem scwords_of : FnScope ["line", "word"] ["line"] (defScope swords_of) := ⟨rfl, rfl, rfl, by decide +kernel, rfl, by decide +kernel, by decide +kernel⟩
theorem okwords_of {P : Program} {w : World} {K : PySem.W.Frag} {mg : Str → Option Value} {base : Heap} (D : DefAt K mg "words_of" swords_of ["line"]) :
    Cal P w K mg base 1 "words_of" (spWords K) := by
  refine cal_mk D scwords_of (fun vs H Q E h => ?_) (fun f cdv A outer s H vs Q E hG hr h => ?_)
  · obtain ⟨l, rfl, _⟩ := h; rfl
  have nd := scwords_of.nd
  obtain ⟨l, rfl, hl, hc, q⟩ := h
  refine ⟨_, (pss_one (ps_ret (pe_lc (own := [("word", 1)]) (g := gName 1) (by rfl) nd (pi_list (pe_split (pv 0) pe_str) : PI _ _ _ (iList K _)) (blkOk_by (own := [("word", 1)]) (N := ["line", "word"]) (sc := (defScope swords_of)) (by decide +kernel)) (fun _ _ _ _ _ => (pg_name (i := 1) nd rfl (.inl rfl))) (fun _ _ _ _ _ => (pts_one (pt_cmpR op_ne (pv 1) pe_str (nomark _)))) (fun _ _ _ _ _ => (pv 1))))), ?_⟩
  refine ⟨.str (SX.S l), rfl, ⟨_, rfl⟩, SX.S l, Str.ofString " ", rfl, rfl, by decide +kernel, ?_, fun p np => ?_⟩
  · rw [SX.S_len]
    exact Nat.le_trans (Nat.add_le_add_right hl 2) (by decide)
  have e1 : (Txt.split (SX.S l) (Str.ofString " ")).map V.str = (TW.cut 32 l).map lV := by
    have e : (Str.ofString " ") = SX.S [32] := by decide +kernel
    rw [e, SX.split_S (by simp) (by decide), List.map_map]
    rfl
  have hp : upd H p (.lst ((Txt.split (SX.S l) (Str.ofString " ")).map V.str)) p = some (.lst ((TW.cut 32 l).map lV)) := by rw [upd_same, e1]
  have k0 := put_new np (.lst ((Txt.split (SX.S l) (Str.ofString " ")).map V.str))
  generalize upd H p (.lst ((Txt.split (SX.S l) (Str.ofString " ")).map V.str)) = H0 at *
  refine ⟨p, rfl, ⟨_, SqL.of hp⟩, fun D nD => ?_⟩
  refine lcg_list (K := K) (Y := YL) (out := fun i => ((TW.cut 32 l)[i]?).bind fun w => if decide (w ≠ []) = true then some w else none) (LcG.pure nD) (fun _ _ _ _ _ h => h) (fun H3 k3 => SqL.of (k3 _ _ hp)) (by rw [List.length_map]; exact hc) (fun i x H1 hx k1 _ => ?_) (fun H1 acc ws k1 _ hD ea eb => ?_)
  · rw [List.getElem?_map] at hx
    obtain ⟨w, hw, rfl⟩ := Option.map_eq_some_iff.mp hx
    intro Qe Qn hE hN
    refine ⟨rfl, lV w, rfl, rfl, _, rfl, ?_⟩
    rw [show decide (lV w = V.str (Str.ofString "")) = decide (w = []) from S_ne_empty w]
    refine ite2 (fun e => ?_) (fun e => ?_)
    · refine ⟨lV w, rfl, hE _ H1 w ?_ (Same.refl _) trivial rfl⟩
      have : w ≠ [] := fun z => by simp [z] at e
      simp [hw, this]
    · refine hN H1 ?_ (Same.refl _) trivial
      have : w = [] := Classical.byContradiction fun z => e (by simp [z])
      simp [hw, this]
  · rw [List.length_map, fm_all, fm_if] at eb
    have e2 := yl_all ea
    subst e2
    have nDH : H D = none := by
      cases e : H D with
      | none => rfl
      | some o => rw [k0 _ _ e] at nD; cases nD
    refine q D H1 (k0.trans k1) nDH ?_
    rw [hD, eb]
    rfl

end LW

namespace LW
open PySem PySem.Spec PyProof.Rows L2 GL

def smalls : List Int := [-1, 0, 1, 2, 3, 4, 5, 6, 7, 8, 9, 10, 11]
def nmW : List Str := ["table", "r", "s", "r1", "pairs"]
def WD : List Str := nmW ++ smalls.map iS
def intOf (x : Str) : Option Int := smalls.find? fun v => decide (iS v = x)
theorem wd_facts : ∀ x ∈ WD, (Txt.removeprefix x (Str.ofString "-")).length ≤ 4300 ∧ x.length ≤ 600 ∧ (Txt.isascii (Txt.removeprefix x (Str.ofString "-")) && Txt.isdigit (Txt.removeprefix x (Str.ofString "-"))) = (intOf x).isSome ∧
    ∀ n ∈ smalls, intOf x = some n → PySem.intText? x = some n ∧ iS n = x := by decide +kernel
theorem intOf_mem {x : Str} {n : Int} (h : intOf x = some n) : n ∈ smalls ∧ iS n = x := by
  refine ⟨List.mem_of_find?_eq_some h, ?_⟩
  have := List.find?_some h
  exact of_decide_eq_true this
def spRI : Sp := fun vs H Q _ => ∃ (x : Str), vs = [.str x] ∧ x ∈ WD ∧ Q (oV (intOf x)) H
abbrev sread_integer : Stmt := topS 14
theorem scread_integer : FnScope ["word", "digits", "number"] ["word"] (defScope sread_integer) := ⟨rfl, rfl, rfl, by decide +kernel, rfl, by decide +kernel, by decide +kernel⟩
theorem okread_integer {P : Program} {w : World} {K : PySem.W.Frag} {mg : Str → Option Value} {base : Heap} (D : DefAt K mg "read_integer" sread_integer ["word"]) (m_int : mg "int" = none) (m_len : mg "len" = none) (m_str : mg "str" = none) (g_MOST_DIGITS : ∃ u, mg "MOST_DIGITS" = some u ∧ RelV (V.int 4300) u) :
    Cal P w K mg base 1 "read_integer" spRI := by
  refine cal_mk D scread_integer (fun vs H Q E h => ?_) (fun f cdv A outer s H vs Q E hG hr h => ?_)
  · obtain ⟨x, rfl, _⟩ := h; rfl
  have nd := scread_integer.nd
  obtain ⟨x, rfl, hx, q⟩ := h
  refine ⟨_, (pss_cons (ps_set (i := 1) nd rfl (.inl rfl) (pe_bm PySem.F.plainAttrs_str PySem.F.slot_str_removeprefix PySem.F.type_str_removeprefix mt_removeprefix (pv 0) (pa_cons pe_str pa_nil)))
    (pss_cons (ps_if (PW.pt (pw_or (pt_cmpR op_gt (pe_callB call_len_str (by rfl) m_len PySem.boot_len (pa_cons (pv 1) pa_nil)) (C8.pe_gc (by rfl) g_MOST_DIGITS) (nomark _)) (pw_or (pt_not (pt_val (pe_bm0 PySem.F.plainAttrs_str PySem.F.slot_str_isascii PySem.F.type_str_isascii mt_isascii (pv 1)))) (pw_or1 (pt_not (pt_val (pe_bm0 PySem.F.plainAttrs_str PySem.F.slot_str_isdigit PySem.F.type_str_isdigit mt_isdigit (pv 1)))))))) (pss_one (ps_ret pe_non)) pss_nil)
    (pss_cons (ps_set (i := 2) nd rfl (.inl rfl) (pe_callTy call_int_str (by rfl) m_int (by decide +kernel) (pa_cons (pv 0) pa_nil)))
    (pss_one (ps_ret (pe_ifExp (pt_cmpR op_eq (pe_callTy call_str_int (by rfl) m_str (by decide +kernel) (pa_cons (pv 2) pa_nil)) (pv 0) (nomark _)) (pv 2) pe_non)))))), ?_⟩
  obtain ⟨f1, f2, f3, f4⟩ := wd_facts x hx
  refine ⟨.str x, rfl, rfl, x, _, rfl, rfl, Nat.le_trans f2 (by decide), ?_⟩
  generalize Txt.removeprefix x (Str.ofString "-") = y at *
  refine ⟨.str y, rfl, y, rfl, Nat.le_trans f1 (by decide), _, _, rfl, rfl, _, rfl, ?_⟩
  rw [show decide ((4300 : Int) < (y.length : Int)) = false from decide_eq_false (by omega)]
  refine ite2 (fun e => absurd e (by decide)) (fun _ => ?_)
  refine ⟨.str y, rfl, rfl, y, rfl, rfl, trivial, _, rfl, ?_⟩
  cases h : intOf x with
  | none =>
    rw [h] at f3 q
    cases ha : Txt.isascii y with
    | false =>
      exact q
    | true =>
      rw [ha, Bool.true_and] at f3
      refine ⟨.str y, rfl, rfl, y, rfl, rfl, trivial, _, rfl, ?_⟩
      rw [f3]
      exact q
  | some n =>
    rw [h] at f3 q
    rw [Option.isSome_some, Bool.and_eq_true] at f3
    obtain ⟨nm, en⟩ := intOf_mem h
    obtain ⟨g1, g2⟩ := f4 n nm h
    rw [f3.1]
    refine ⟨.str y, rfl, rfl, y, rfl, rfl, trivial, _, rfl, ?_⟩
    rw [f3.2]
    have hw := wI_ok n nm
    refine ⟨.str x, rfl, x, n, rfl, g1, Nat.le_trans f2 (by decide), ?_⟩
    refine ⟨.int n, rfl, n, rfl, hw.2.2.2.2, .str x, rfl, rfl, _, rfl, ?_⟩
    show if decide (V.str (iS n) = V.str x) = true then _ else _
    rw [g2, decide_eq_true rfl]
    exact ⟨.int n, rfl, q⟩

end LW

namespace LW
open PySem PySem.Spec PyProof.Rows L2 GL

/-- a whole number or none -/
def oD : Option Int → PyData
  | none => .none
  | some i => .int i
theorem oD_dp {K : PySem.W.Frag} {H : Hp} : ∀ o : Option Int, Dp K H (oV o) (oD o)
  | none => .non
  | some i => .int i
/-- a line's words read as a row -/
def rowOf (ws : List Str) : Option (List Int) := if ws = [] then none else ws.mapM intOf
def spRR (K : PySem.W.Frag) : Sp := fun vs H Q _ => ∃ (p : Addr) (ws : List Str), vs = [.ref p] ∧ H p = some (.lst (ws.map V.str)) ∧ (∀ w ∈ ws, w ∈ WD) ∧ ws.length ≤ 100 ∧
  (match rowOf ws with | none => ∀ H', Same H H' → Q .non H' | some r => ∀ (t : Addr) H', Same H H' → H' t = some (.tup (r.map V.int)) → Q (.ref t) H')
theorem dp_opts {K : PySem.W.Frag} {H : Hp} : ∀ os : List (Option Int), DpAll K H (os.map oV) (os.map oD)
  | [] => .nil
  | o :: os => .cons (oD_dp o) (dp_opts os)
theorem lay_opts : ∀ os : List (Option Int), PyData.canLayAll0 (os.map oD) = true
  | [] => by simp [PyData.canLayAll0]
  | o :: os => by
    rw [List.map_cons, PyData.canLayAll0, lay_opts os]
    cases o <;> simp [oD, PyData.canLay0]
theorem depth_opts : ∀ os : List (Option Int), PyData.depthAll (os.map oD) = 0
  | [] => by simp [PyData.depthAll]
  | o :: os => by
    rw [List.map_cons, PyData.depthAll, depth_opts os]
    cases o <;> simp [oD, PyData.depth]
theorem shaped_opts (os : List (Option Int)) : SeqAt.shaped (.tuple (os.map oD)) = true := by
  unfold SeqAt.shaped
  rw [PyData.canLay0, lay_opts, PyData.depth, depth_opts]
  rfl
theorem eqv_opts (os : List (Option Int)) : PyData.eqv (.tuple (os.map oD)) (.tuple []) = decide (os = []) := by
  rw [PyData.eqv]
  cases os <;> simp [PyData.eqvAll]
theorem any_none : ∀ os : List (Option Int), ((os.map oD).any fun z => PyData.eqv z .none) = decide (none ∈ os)
  | [] => rfl
  | o :: os => by
    rw [List.map_cons, List.any_cons, any_none os]
    cases o <;> simp [oD, PyData.eqv]
theorem mapM_none : ∀ {ws : List Str}, none ∈ ws.map intOf → ws.mapM intOf = none
  | [], h => by cases h
  | w :: ws, h => by
    rw [List.mapM_cons]
    cases e : intOf w with
    | none => rfl
    | some n =>
      rw [List.map_cons, e] at h
      have := mapM_none ((List.mem_cons.mp h).resolve_left (by simp))
      show (ws.mapM intOf).bind _ = _
      rw [this]
      rfl
theorem mapM_some : ∀ {ws : List Str}, none ∉ ws.map intOf → ∃ r, ws.mapM intOf = some r ∧ ws.map intOf = r.map some
  | [], _ => ⟨[], rfl, rfl⟩
  | w :: ws, h => by
    rw [List.mapM_cons]
    rw [List.map_cons, List.mem_cons, not_or] at h
    obtain ⟨r, e1, e2⟩ := mapM_some h.2
    cases e : intOf w with
    | none => exact absurd e.symm h.1
    | some n =>
      refine ⟨n :: r, ?_, by rw [List.map_cons, List.map_cons, e, e2]⟩
      show (ws.mapM intOf).bind _ = _
      rw [e1]
      rfl
def YO (H : Hp) (v : V) (b : Option Int) : Prop := v = oV b
theorem yo_all {H : Hp} : ∀ {acc : List V} {bs : List (Option Int)}, PySem.W.EachIs (YO H) acc bs → acc = bs.map oV
  | _, _, .nil => rfl
  | _, _, .cons h t => by rw [List.map_cons, yo_all t, ← h]
abbrev sread_row : Stmt := topS 15
theorem scread_row : FnScope ["words", "row", "word"] ["words"] (defScope sread_row) := ⟨rfl, rfl, rfl, by decide +kernel, rfl, by decide +kernel, by decide +kernel⟩
theorem okread_row {P : Program} {w : World} {K : PySem.W.Frag} {mg : Str → Option Value} {base : Heap} (D : DefAt K mg "read_row" sread_row ["words"]) (c_read_integer : Cal P w K mg base 1 "read_integer" spRI) (m_tuple : mg "tuple" = none) :
    Cal P w K mg base 2 "read_row" (spRR K) := by
  refine cal_mk D scread_row (fun vs H Q E h => ?_) (fun f cdv A outer s H vs Q E hG hr h => ?_)
  · obtain ⟨p, ws, rfl, _⟩ := h; rfl
  have nd := scread_row.nd
  obtain ⟨p, ws, rfl, hp, hW, hl, q⟩ := h
  refine ⟨_, (pss_cons (ps_set (i := 1) nd rfl (.inl rfl) (pe_callTy (call_tuple_of) (by rfl) m_tuple (by decide +kernel) (pa_cons (pe_lc (own := [("word", 2)]) (g := gName 2) (tt := tYes) (by rfl) nd (pi_list (pv 0) : PI _ _ _ (iList K _)) (blkOk_by (own := [("word", 2)]) (N := ["words", "row", "word"]) (sc := (defScope sread_row)) (by decide +kernel)) (fun _ _ _ _ _ => (pg_name (i := 2) nd rfl (.inl rfl))) (fun _ _ _ _ _ => pts_nil) (fun _ _ _ _ _ => (pe_cg c_read_integer (by exact hG) (by exact hr) (by decide) (by rfl) (pa_cons (pv 2) pa_nil)))) pa_nil)))
    (pss_cons (ps_if (PW.pt (pw_or (pt_cmpR (op_eqD (by exact hr.units) : OpR _ (compareOp .Eq) (rEqD K)) (pv 1) (pe_tup pa_nil) (nomark _)) (pw_or1 (pt_cmpR (op_inTD (by exact units65 hr) : OpR _ (compareOp .In) (rInT K)) pe_non (pv 1) (by rfl))))) (pss_one (ps_ret pe_non)) pss_nil)
    (pss_one (ps_ret (pv 1))))), ?_⟩
  refine ⟨.ref p, rfl, p, rfl, ⟨_, SqL.of hp⟩, fun D nD => ?_⟩
  refine lcg_list (K := K) (Y := YO) (out := fun i => (ws[i]?).bind fun w => some (intOf w)) (LcG.pure nD) (fun _ _ _ _ _ h => h) (fun H3 k3 => SqL.of (k3 _ _ hp)) (by rw [List.length_map]; omega) (fun i x H1 hx k1 _ => ?_) (fun H1 acc os k1 _ hD ea eb => ?_)
  · rw [List.getElem?_map] at hx
    obtain ⟨w, hw, rfl⟩ := Option.map_eq_some_iff.mp hx
    intro Qe Qn hE hN
    exact ⟨rfl, .str w, rfl, w, rfl, hW w (List.mem_of_getElem? hw), hE _ H1 (intOf w) (by simp [hw]) (Same.refl _) trivial rfl⟩
  · rw [List.length_map, fm_all] at eb
    have e2 := yo_all ea
    subst e2
    have eo : os = ws.map intOf := by
      rw [eb]
      exact List.filterMap_eq_map ▸ rfl
    refine ⟨D, _, rfl, .inl ⟨SqL.of hD, fun t nt => ?_⟩⟩
    have k2 := put_new nt (.tup (os.map oV))
    have s2 : upd H1 t (.tup (os.map oV)) t = some (.tup (os.map oV)) := upd_same
    generalize upd H1 t (.tup (os.map oV)) = H2 at *
    refine ⟨.ref t, rfl, Nat.zero_le _, fun p0 n0 => ?_⟩
    have k0 := put_new n0 (.tup [])
    have s3 := k0 _ _ s2
    refine ⟨.tuple (os.map oD), .tuple [], .tup (SqT.of s3) (dp_opts os), .tup (SqT.of upd_same) .nil, shaped_opts os, shaped_opts [], ?_⟩
    rw [eqv_opts]
    have kk := (k1.trans k2).trans k0
    generalize upd H2 p0 (.tup []) = H3 at *
    refine ⟨_, rfl, ite2 (fun e => ?_) (fun e => ?_)⟩
    · have : ws = [] := List.map_eq_nil_iff.mp (eo ▸ of_decide_eq_true e)
      rw [this] at q
      exact q H3 kk
    · have nw : ws ≠ [] := fun z => e (by rw [eo, z]; rfl)
      have er : rowOf ws = ws.mapM intOf := if_neg nw
      refine ⟨.ref t, rfl, .none, os.map oD, .non, .tup (SqT.of s3) (dp_opts os), rfl, shaped_opts os, ?_⟩
      rw [any_none]
      refine ⟨_, rfl, ite2 (fun e2 => ?_) (fun e2 => ?_)⟩
      · have : ws.mapM intOf = none := mapM_none (eo ▸ of_decide_eq_true e2)
        rw [er, this] at q
        exact q H3 kk
      · obtain ⟨r, h1, h2⟩ := mapM_some (ws := ws) (by rw [← eo]; exact fun z => e2 (decide_eq_true z))
        rw [er, h1] at q
        refine ⟨.ref t, rfl, q t H3 kk ?_⟩
        rw [eo, h2, List.map_map] at s3
        exact s3

end LW

namespace LW
open PySem PySem.Spec PyProof.Rows L2 GL

def lettersS : Str := "abcdefghijklmnopqrstuvwxyz"
def signsS : Str := "abcdefghijklmnopqrstuvwxyz0123456789"
theorem nm_facts : ∀ n ∈ nm4, 1 ≤ n.length ∧ n.length ≤ 20 ∧ n.cps.size ≤ 20 ∧ (∀ c ∈ n.cps.toList, c ∈ signsS.cps.toList) ∧ (n.cps.toList.head?.map fun c => decide (c ∈ lettersS.cps.toList)) = some true := by decide +kernel
def YB (H : Hp) (v : V) (b : Bool) : Prop := v = .bl b
theorem yb_all {H : Hp} : ∀ {acc : List V} {bs : List Bool}, PySem.W.EachIs (YB H) acc bs → acc = bs.map V.bl
  | _, _, .nil => rfl
  | _, _, .cons h t => by rw [List.map_cons, yb_all t, ← h]
def spNm : Sp := fun vs H Q _ => ∃ (n : Str), vs = [.str n] ∧ n ∈ nm4 ∧ ∀ H', Same H H' → Q (.bl true) H'
abbrev sis_name : Stmt := topS 8
theorem scis_name : FnScope ["thing", "sign"] ["thing"] (defScope sis_name) := ⟨rfl, rfl, rfl, by decide +kernel, rfl, by decide +kernel, by decide +kernel⟩
theorem okis_name {P : Program} {w : World} {K : PySem.W.Frag} {mg : Str → Option Value} {base : Heap} (D : DefAt K mg "is_name" sis_name ["thing"]) (m_all : mg "all" = none) (m_isinstance : mg "isinstance" = none) (m_len : mg "len" = none) (m_str : mg "str" = none) (g_LETTERS : ∃ u, mg "LETTERS" = some u ∧ RelV (V.str lettersS) u) (g_MOST_NAME_SIGNS : ∃ u, mg "MOST_NAME_SIGNS" = some u ∧ RelV (V.int 20) u) (g_NAME_SIGNS : ∃ u, mg "NAME_SIGNS" = some u ∧ RelV (V.str signsS) u) :
    Cal P w K mg base 1 "is_name" spNm := by
  refine cal_mk D scis_name (fun vs H Q E h => ?_) (fun f cdv A outer s H vs Q E hG hr h => ?_)
  · obtain ⟨n, rfl, _⟩ := h; rfl
  have nd := scis_name.nd
  obtain ⟨n, rfl, hn, q⟩ := h
  refine ⟨_, (pss_cons (ps_if (PW.pt (pw_or (pt_not (pt_val (pe_callB (call_isi : CallR _ (.builtin "isinstance") (rIsi K)) (by rfl) m_isinstance (by decide +kernel) (pa_cons (pv 0) (pa_cons (pe_bltn (v := .ty "str") (u := .type "str") (by rfl) m_str (by decide +kernel) rfl) pa_nil))))) (pw_or1 (pt_not (pt_chain op_le op_le pe_int (pe_callB call_len_str (by rfl) m_len PySem.boot_len (pa_cons (pv 0) pa_nil)) (C8.pe_gc (by rfl) g_MOST_NAME_SIGNS)))))) (pss_one (ps_ret pe_bl)) pss_nil)
    (pss_one (ps_ret (pe_and (pe_cmpR op_in_sign (pe_ix ix_str (pv 0) pe_int (fun _ _ => rfl)) (C8.pe_gc (by rfl) g_LETTERS) (by rfl)) (pe_one (pe_callB (cr_all rfl) (by rfl) m_all (by decide +kernel) (pa_cons (pe_lc (own := [("sign", 1)]) (g := gName 1) (tt := tYes) (by rfl) nd (pi_str (pv 0)) (blkOk_by (own := [("sign", 1)]) (N := ["thing", "sign"]) (sc := (defScope sis_name)) (by decide +kernel)) (fun _ _ _ _ _ => (pg_name (i := 1) nd rfl (.inl rfl))) (fun _ _ _ _ _ => pts_nil) (fun _ _ _ _ _ => (pe_cmpR op_in_sign (pv 1) (C8.pe_gc (by rfl) g_NAME_SIGNS) (by rfl)))) pa_nil))))))), ?_⟩
  obtain ⟨f1, f2, f3, f4, f5⟩ := nm_facts n hn
  refine ⟨.str n, rfl, .str n, .ty "str", .type "str", .type "str", true, rfl, .ty _, .base (.str n), kit_ty (by decide +kernel), _, rfl, ?_⟩
  refine ⟨.str n, rfl, n, rfl, Nat.le_trans f2 (by decide), _, _, rfl, rfl, _, rfl, ?_⟩
  rw [show decide ((1 : Int) ≤ (n.length : Int)) = true from decide_eq_true (by omega)]
  refine ⟨_, _, rfl, rfl, _, rfl, ?_⟩
  rw [show decide ((n.length : Int) ≤ (20 : Int)) = true from decide_eq_true (by omega)]
  obtain ⟨c, hc, hcl⟩ : ∃ c, n.cps.toList[0]? = some c ∧ c ∈ lettersS.cps.toList := by
    cases e : n.cps.toList with
    | nil => rw [e] at f5; cases f5
    | cons c r =>
      rw [e] at f5
      exact ⟨c, rfl, of_decide_eq_true (Option.some.inj f5)⟩
  refine ⟨.str n, rfl, n, 0, c, rfl, rfl, Nat.le_trans f2 (by decide), atI_nat (j := 0) hc, c, lettersS, rfl, rfl, _, rfl, ?_⟩
  rw [decide_eq_true hcl]
  refine ⟨.str n, rfl, n, rfl, fun D nD => ?_⟩
  refine lcg_str (z := n) (Y := YB) (out := fun i => (n.cps.toList[i]?).bind fun _ => some true) (LcG.pure nD) (fun _ _ _ _ _ h => h) (by omega) (fun i c H1 hx k1 _ => ?_) (fun H1 acc js k1 _ hD ea eb => ?_)
  · have hx' : n.cps.toList[i]? = some c := by rw [Array.getElem?_toList]; exact hx
    intro Qe Qn hE hN
    refine ⟨rfl, .str ⟨#[c]⟩, rfl, c, signsS, rfl, rfl, ?_⟩
    rw [decide_eq_true (f4 c (List.mem_of_getElem? hx'))]
    exact hE _ H1 true (by simp [hx']) (Same.refl _) trivial rfl
  · have e2 := yb_all ea
    subst e2
    refine ⟨D, js, rfl, SqL.of hD, ?_⟩
    have : js.all id = true := by
      rw [eb]
      refine List.all_eq_true.mpr fun b hb => ?_
      obtain ⟨i, _, e⟩ := List.mem_filterMap.mp hb
      cases e3 : n.cps.toList[i]? with
      | none => rw [e3] at e; cases e
      | some c => rw [e3] at e; cases e; rfl
    rw [this]
    exact q H1 k1

end LW

namespace LW
open PySem PySem.Spec PyProof.Rows L2 GL

/-- a line's words read as a head -/
inductive HeadOf : List Str → Option (Str × Int) → Prop
  | nil : HeadOf [] none
  | head {n : Str} {m : Int} : n ∈ nm4 → 1 ≤ m → m ≤ 4 → HeadOf [Str.ofString "table", n, iS m] (some (n, m))
  | row {r : List Int} : RowOk r → HeadOf (r.map iS) none
def spRH (K : PySem.W.Frag) : Sp := fun vs H Q _ => ∃ (p : Addr) (ws : List Str) (o : Option (Str × Int)), vs = [.ref p] ∧ H p = some (.lst (ws.map V.str)) ∧ HeadOf ws o ∧
  (match o with | none => ∀ H', Same H H' → Q .non H' | some q => ∀ (t : Addr) H', Same H H' → H' t = some (.tup [.str q.1, .int q.2]) → Q (.ref t) H')
theorem iS_ne : ∀ v ∈ smalls, decide (V.str (iS v) = V.str (Str.ofString "table")) = false := by decide +kernel
theorem iS_wd : ∀ v ∈ smalls, iS v ∈ WD ∧ intOf (iS v) = some v := by decide +kernel
abbrev s_read_head : Stmt := topS 17
theorem sc_read_head : FnScope ["words", "many"] ["words"] (defScope s_read_head) := ⟨rfl, rfl, rfl, by decide +kernel, rfl, by decide +kernel, by decide +kernel⟩
theorem ok_read_head {P : Program} {w : World} {K : PySem.W.Frag} {mg : Str → Option Value} {base : Heap} (D : DefAt K mg "_read_head" s_read_head ["words"]) (c_is_name : Cal P w K mg base 1 "is_name" spNm) (c_read_integer : Cal P w K mg base 1 "read_integer" spRI) (m_len : mg "len" = none) :
    Cal P w K mg base 2 "_read_head" (spRH K) := by
  refine cal_mk D sc_read_head (fun vs H Q E h => ?_) (fun f cdv A outer s H vs Q E hG hr h => ?_)
  · obtain ⟨p, ws, o, rfl, _⟩ := h; rfl
  have nd := sc_read_head.nd
  obtain ⟨p, ws, o, rfl, hp, ho, q⟩ := h
  refine ⟨_, (pss_cons (ps_if (PW.pt (pw_or (pt_cmpR op_ne (pe_callB (call_len2 : CallR _ (.builtin "len") (rLen2 K)) (by rfl) m_len PySem.boot_len (pa_cons (pv 0) pa_nil)) pe_int (nomark _)) (pw_or (pt_cmpR op_ne (pe_ix (ix_list : IxR _ (rIxL K)) (pv 0) pe_int (fun _ _ => rfl)) pe_str (nomark _)) (pw_or1 (pt_not (pt_val (pe_cg c_is_name (by exact hG) (by exact hr) (by decide) (by rfl) (pa_cons (pe_ix (ix_list : IxR _ (rIxL K)) (pv 0) pe_int (fun _ _ => rfl)) pa_nil)))))))) (pss_one (ps_ret pe_non)) pss_nil)
    (pss_cons (ps_set (i := 1) nd rfl (.inl rfl) (pe_cg c_read_integer (by exact hG) (by exact hr) (by decide) (by rfl) (pa_cons (pe_ix (ix_list : IxR _ (rIxL K)) (pv 0) pe_int (fun _ _ => rfl)) pa_nil)))
    (pss_cons (ps_if (PW.pt (pw_or (pt_cmpR op_isN (pv 1) pe_non (nomark _)) (pw_or1 (pt_cmpR op_lt (pv 1) pe_int (nomark _))))) (pss_one (ps_ret pe_non)) pss_nil)
    (pss_one (ps_ret (pe_tup (pa_cons (pe_ix (ix_list : IxR _ (rIxL K)) (pv 0) pe_int (fun _ _ => rfl)) (pa_cons (pv 1) pa_nil)))))))), ?_⟩
  have len : (ws.map V.str).length = ws.length := List.length_map ..
  refine ⟨.ref p, rfl, p, _, rfl, .inl (SqL.of hp), ?_⟩
  rw [len]
  cases ho with
  | nil =>
    exact ⟨rfl, _, rfl, q H (Same.refl _)⟩
  | @head n m hn h1 h4 =>
    refine ⟨rfl, _, rfl, ?_⟩
    refine ⟨.ref p, rfl, p, _, 0, .str (Str.ofString "table"), rfl, rfl, SqL.of hp, atI_nat (j := 0) rfl, rfl, _, rfl, ?_⟩
    refine ⟨.ref p, rfl, p, _, 1, .str n, rfl, rfl, SqL.of hp, atI_nat (j := 1) rfl, n, rfl, hn, fun H1 k1 => ⟨_, rfl, ?_⟩⟩
    have hp1 := k1 _ _ hp
    obtain ⟨w1, w2⟩ := iS_wd m (small_cases ⟨by omega, by omega⟩)
    refine ⟨.ref p, rfl, p, _, 2, .str (iS m), rfl, rfl, SqL.of hp1, atI_nat (j := 2) rfl, iS m, rfl, w1, ?_⟩
    rw [w2]
    refine ⟨.int m, rfl, rfl, _, rfl, .int m, rfl, m, 1, rfl, rfl, _, rfl, ?_⟩
    rw [show decide (m < 1) = false from decide_eq_false (by omega)]
    exact ⟨.ref p, rfl, p, _, 1, .str n, rfl, rfl, SqL.of hp1, atI_nat (j := 1) rfl, .int m, rfl, (by show 2 ≤ sizeLine; decide), fun t nt => q t _ (k1.trans (put_new nt _)) upd_same⟩
  | @row r hr =>
    refine ⟨rfl, _, rfl, ?_⟩
    by_cases h3 : (r.map iS).length = 3
    · rw [h3]
      refine ⟨.ref p, rfl, p, _, 0, .str (iS (r.head hr.1)), rfl, rfl, SqL.of hp, atI_nat (j := 0) ?_, rfl, _, rfl, ?_⟩
      · cases r with
        | nil => exact absurd rfl hr.1
        | cons v r => rfl
      · rw [iS_ne _ (small_cases (hr.2.2 _ (List.head_mem hr.1)))]
        exact q H (Same.refl _)
    · rw [show decide (V.int ((r.map iS).length : Nat) = V.int 3) = false from decide_eq_false fun e => h3 (by have := V.int.inj e; omega)]
      exact q H (Same.refl _)

end LW

namespace LW
open PySem PySem.Spec PyProof.Rows L2 GL

/-- what a line says -/
inductive Cl | blank | head (n : Str) (m : Int) | row (r : List Int)
def clS : Cl → List Str
  | .blank => []
  | .head n m => [Str.ofString "table", n, iS m]
  | .row r => r.map iS
def clHead : Cl → Option (Str × Int)
  | .head n m => some (n, m)
  | _ => none
def clRow : Cl → Option (List Int)
  | .row r => some r
  | _ => none
def clW (c : Cl) : List (List Nat) := (clS c).map TL.tl
theorem clW_lV (c : Cl) : (clW c).map lV = (clS c).map V.str := by
  unfold clW
  rw [List.map_map]
  exact List.map_congr_left fun x _ => congrArg V.str (SX.S_tl x)
abbrev Blk := Str × Int × List (List Int)
/-- one line more -/
inductive Step : List Blk → Cl → List Blk → Prop
  | blank (B : List Blk) : Step B .blank B
  | head {B : List Blk} {n : Str} {m : Int} : n ∈ nm4 → 1 ≤ m → m ≤ 4 → n ∉ B.map (·.1) → Step B (.head n m) (B ++ [(n, m, [])])
  | row {B : List Blk} {n : Str} {m : Int} {rs : List (List Int)} {r : List Int} : RowOk r → r.length = m.toNat → 1 ≤ m → r ∉ rs → Step (B ++ [(n, m, rs)]) (.row r) (B ++ [(n, m, rs ++ [r])])
inductive Steps : List Blk → List Cl → List Blk → Prop
  | nil (B : List Blk) : Steps B [] B
  | cons {B B1 B2 : List Blk} {c : Cl} {cs : List Cl} : Step B c B1 → Steps B1 cs B2 → Steps B (c :: cs) B2
theorem Step.names {B B' : List Blk} {c : Cl} (s : Step B c B') (h : (B.map (·.1)).Nodup) : (B'.map (·.1)).Nodup := by
  cases s with
  | blank => exact h
  | head a b c d =>
    rw [List.map_append, List.nodup_append]
    refine ⟨h, by simp, fun x hx y hy e => ?_⟩
    rw [List.map_singleton, List.mem_singleton] at hy
    have hy' : y = _ := hy
    subst hy'
    exact d (e ▸ hx)
  | row a b c d =>
    rw [List.map_append] at h ⊢
    exact h
/-- good blocks -/
def GoodB (B : List Blk) : Prop := (B.map (·.1)).Nodup ∧ ∀ b ∈ B, b.1 ∈ nm4 ∧ (∀ r ∈ b.2.2, r ≠ []) ∧ b.2.2.length ≤ 900
def rowK (r : List Int) : List Key × V := (r.map Sum.inl, .bl true)
/-- the two dicts -/
structure RdAt (H : Hp) (W R : Addr) (BA : List (Addr × Blk)) : Prop where
  w : H W = some (.dK (BA.map fun b => (.inr b.2.1, .int b.2.2.1)))
  r : H R = some (.dK (BA.map fun b => (.inr b.2.1, .ref b.1)))
  d : ∀ b ∈ BA, H b.1 = some (.dT (b.2.2.2.map rowK))
  na : (BA.map (·.1)).Nodup
  nn : (BA.map (·.2.1)).Nodup
  ne : W ≠ R
theorem clS_head {c : Cl} {B B' : List Blk} (s : Step B c B') : HeadOf (clS c) (clHead c) := by
  cases s with
  | blank => exact .nil
  | head a b c d => exact .head a b c
  | row a b c d => exact .row a
theorem int_table : intOf (Str.ofString "table") = none := by decide +kernel
theorem mapM_row : ∀ {r : List Int}, (∀ v ∈ r, v ∈ smalls) → (r.map iS).mapM intOf = some r
  | [], _ => rfl
  | v :: r, h => by
    rw [List.map_cons, List.mapM_cons, (iS_wd v (h v List.mem_cons_self)).2]
    show ((r.map iS).mapM intOf).bind _ = _
    rw [mapM_row fun x hx => h x (List.mem_cons_of_mem _ hx)]
    rfl
theorem row_of {c : Cl} {B B' : List Blk} (s : Step B c B') : rowOf (clS c) = clRow c := by
  cases s with
  | blank => rfl
  | head a b c d =>
    unfold rowOf
    rw [if_neg (by simp [clS])]
    exact mapM_none (by show none ∈ intOf (Str.ofString "table") :: _; rw [int_table]; exact List.mem_cons_self)
  | row a b c d =>
    unfold rowOf
    rw [if_neg (show ¬ clS (Cl.row _) = [] from fun z => a.1 (List.map_eq_nil_iff.mp z))]
    exact mapM_row fun v hv => small_cases (a.2.2 v hv)
theorem clS_wd {c : Cl} {B B' : List Blk} (s : Step B c B') : (∀ w ∈ clS c, w ∈ WD) ∧ (clS c).length ≤ 4 := by
  cases s with
  | blank => exact ⟨fun w h => (nomatch h), Nat.zero_le _⟩
  | @head B n m a b c d =>
    refine ⟨fun w hw => ?_, by show 3 ≤ 4; decide⟩
    simp only [clS, List.mem_cons, List.not_mem_nil, or_false] at hw
    rcases hw with rfl | rfl | rfl
    · decide +kernel
    · have : ∀ x ∈ nm4, x ∈ WD := by decide +kernel
      exact this _ a
    · exact (iS_wd m (small_cases ⟨by omega, by omega⟩)).1
  | @row B n m rs r a b c d =>
    refine ⟨fun w hw => ?_, by show (r.map iS).length ≤ 4; rw [List.length_map]; exact a.2.1⟩
    obtain ⟨v, hv, rfl⟩ := List.mem_map.mp hw
    exact (iS_wd v (small_cases (a.2.2 v hv))).1
theorem RdAt.same {H H' : Hp} {W R : Addr} {BA : List (Addr × Blk)} (h : RdAt H W R BA) (k : Same H H') : RdAt H' W R BA :=
  ⟨k _ _ h.w, k _ _ h.r, fun b hb => k _ _ (h.d b hb), h.na, h.nn, h.ne⟩
theorem valV_none {κ : Type} [DecidableEq κ] : ∀ {kvs : List (κ × V)} {k : κ}, k ∉ kvs.map (·.1) → valV kvs k = none
  | [], _, _ => rfl
  | p :: kvs, k, h => by
    rw [List.map_cons, List.mem_cons, not_or] at h
    obtain ⟨a, v⟩ := p
    rw [valV_neg fun e => h.1 e.symm]
    exact valV_none h.2
theorem RdAt.noName {H : Hp} {W R : Addr} {BA : List (Addr × Blk)} (h : RdAt H W R BA) {n : Str} (hn : n ∉ BA.map (·.2.1)) : DGet H W (.str n) none := by
  have := DGet.k (k := (.inr n)) h.w
  rw [valV_none] at this
  · exact this
  · rw [List.map_map]
    intro z
    obtain ⟨b, hb, e⟩ := List.mem_map.mp z
    exact hn (List.mem_map.mpr ⟨b, hb, Sum.inr.inj e⟩)
theorem nodup_names {BA : List (Addr × Blk)} (h : (BA.map (·.2.1)).Nodup) {γ : Type} (f : Addr × Blk → V) : ((BA.map fun b => ((.inr b.2.1 : Key), f b)).map (·.1)).Nodup := by
  rw [List.map_map]
  have := nodup_inr h
  rw [List.map_map] at this
  exact this
theorem RdAt.getW {H : Hp} {W R : Addr} {BA : List (Addr × Blk)} (h : RdAt H W R BA) {b : Addr × Blk} (hb : b ∈ BA) : DGet H W (.str b.2.1) (some (.int b.2.2.1)) := by
  have := DGet.k (k := (.inr b.2.1)) h.w
  rw [val_nodup (nodup_names (γ := Unit) h.nn fun b => .int b.2.2.1) _ (List.mem_map.mpr ⟨b, hb, rfl⟩)] at this
  exact this
theorem RdAt.getR {H : Hp} {W R : Addr} {BA : List (Addr × Blk)} (h : RdAt H W R BA) {b : Addr × Blk} (hb : b ∈ BA) : DGet H R (.str b.2.1) (some (.ref b.1)) := by
  have := DGet.k (k := (.inr b.2.1)) h.r
  rw [val_nodup (nodup_names (γ := Unit) h.nn fun b => .ref b.1) _ (List.mem_map.mpr ⟨b, hb, rfl⟩)] at this
  exact this
theorem RdAt.neD {H : Hp} {W R : Addr} {BA : List (Addr × Blk)} (h : RdAt H W R BA) {b : Addr × Blk} (hb : b ∈ BA) : b.1 ≠ W ∧ b.1 ≠ R :=
  ⟨ne_of (h.d b hb) h.w (by intro z; cases z), ne_of (h.d b hb) h.r (by intro z; cases z)⟩
/-- a block more -/
theorem RdAt.add {H : Hp} {W R d : Addr} {BA : List (Addr × Blk)} {n : Str} {m : Int} (h : RdAt H W R BA) (hn : n ∉ BA.map (·.2.1))
    (nd : upd H W (.dK (putK (BA.map fun b => (.inr b.2.1, .int b.2.2.1)) (.inr n) (.int m))) d = none) :
    RdAt (upd (upd (upd H W (.dK (putK (BA.map fun b => (.inr b.2.1, .int b.2.2.1)) (.inr n) (.int m)))) d (.dT [])) R (.dK (putK (BA.map fun b => (.inr b.2.1, .ref b.1)) (.inr n) (.ref d)))) W R (BA ++ [(d, n, m, [])]) := by
  have dW : d ≠ W := fun z => by rw [z, upd_same] at nd; cases nd
  have ndH : H d = none := by rw [upd_ne dW] at nd; exact nd
  have dR : d ≠ R := fun z => by rw [z, h.r] at ndH; cases ndH
  have no : ∀ f : Addr × Blk → V, ((.inr n : Key)) ∉ (BA.map fun b => ((.inr b.2.1 : Key), f b)).map (·.1) := fun f z => by
    rw [List.map_map] at z
    obtain ⟨b, hb, e⟩ := List.mem_map.mp z
    exact hn (List.mem_map.mpr ⟨b, hb, Sum.inr.inj e⟩)
  refine ⟨?_, ?_, fun b hb => ?_, ?_, ?_, h.ne⟩
  · rw [upd_ne h.ne, upd_ne dW.symm, upd_same, putK_new (no _), List.map_append]
    rfl
  · rw [upd_same, putK_new (no _), List.map_append]
    rfl
  · rcases List.mem_append.mp hb with hb | hb
    · obtain ⟨a1, a2⟩ := h.neD hb
      have a3 : b.1 ≠ d := fun z => by have := h.d b hb; rw [z, ndH] at this; cases this
      rw [upd_ne a2, upd_ne a3, upd_ne a1]
      exact h.d b hb
    · rw [List.mem_singleton.mp hb]
      rw [upd_ne dR, upd_same]
      rfl
  · rw [List.map_append, List.nodup_append]
    refine ⟨h.na, by simp, fun x hx y hy e => ?_⟩
    have hy' : y = d := by simpa using hy
    subst hy'
    obtain ⟨b, hb, eb⟩ := List.mem_map.mp hx
    have := h.d b hb
    rw [eb, e, ndH] at this
    cases this
  · rw [List.map_append, List.nodup_append]
    refine ⟨h.nn, by simp, fun x hx y hy e => ?_⟩
    have hy' : y = n := by simpa using hy
    subst hy'
    exact hn (e ▸ hx)
/-- a row more -/
theorem RdAt.more {H : Hp} {W R : Addr} {pre : List (Addr × Blk)} {d : Addr} {n : Str} {m : Int} {rs : List (List Int)} {r : List Int} (h : RdAt H W R (pre ++ [(d, n, m, rs)])) (hr : r ∉ rs) :
    RdAt (upd H d (.dT (putK (rs.map rowK) (r.map Sum.inl) (.bl true)))) W R (pre ++ [(d, n, m, rs ++ [r])]) := by
  have last : (d, n, m, rs) ∈ pre ++ [(d, n, m, rs)] := by simp
  obtain ⟨a1, a2⟩ := h.neD last
  have na := h.na
  have no : (r.map Sum.inl : List Key) ∉ (rs.map rowK).map (·.1) := fun z => by
    rw [List.map_map] at z
    obtain ⟨x, hx, e⟩ := List.mem_map.mp z
    have : x = r := List.map_inj_right (fun _ _ e => Sum.inl.inj e) |>.mp e
    exact hr (this ▸ hx)
  have ep : putK (rs.map rowK) (r.map Sum.inl) (.bl true) = (rs ++ [r]).map rowK := by
    unfold putK
    rw [if_neg, List.map_append]
    · rfl
    · intro z
      obtain ⟨p, hp, e⟩ := List.any_eq_true.mp z
      exact no (List.mem_map.mpr ⟨p, hp, of_decide_eq_true e⟩)
  refine ⟨?_, ?_, fun b hb => ?_, ?_, ?_, h.ne⟩
  · rw [upd_ne (Ne.symm a1), h.w, List.map_append, List.map_append]
    rfl
  · rw [upd_ne (Ne.symm a2), h.r, List.map_append, List.map_append]
    rfl
  · rcases List.mem_append.mp hb with hb | hb
    · have : b.1 ≠ d := fun z => by
        rw [List.map_append, List.nodup_append] at na
        exact na.2.2 b.1 (List.mem_map.mpr ⟨b, hb, rfl⟩) d (by simp) z
      rw [upd_ne this]
      exact h.d b (List.mem_append_left _ hb)
    · rw [List.mem_singleton.mp hb]
      show upd H d _ d = _
      rw [upd_same, ep]
  · rw [List.map_append] at na ⊢
    exact na
  · have nn := h.nn
    rw [List.map_append] at nn ⊢
    exact nn
theorem noRow {rs : List (List Int)} {r : List Int} (hr : r ∉ rs) : valV (rs.map rowK) (r.map Sum.inl) = none := by
  refine valV_none fun z => ?_
  rw [List.map_map] at z
  obtain ⟨x, hx, e⟩ := List.mem_map.mp z
  have : x = r := List.map_inj_right (fun _ _ e => Sum.inl.inj e) |>.mp e
  exact hr (this ▸ hx)
theorem tk_dk {D : Addr} {H : Hp} {kvs : List (Key × V)} {o : HO} (h : H D = some (.dK kvs)) : TupK H (upd H D o) := fun K t ys g => by
  rcases g with (g | ⟨u, g⟩) | g
  · exact .inl (.inl (by rw [upd_ne (ne_of g h (by intro z; cases z))]; exact g))
  · exact .inl (.inr ⟨u, by rw [upd_ne (ne_of g h (by intro z; cases z))]; exact g⟩)
  · exact .inr g
def spRT (K : PySem.W.Frag) : Sp := fun vs H Q _ => ∃ (T : List Nat) (cls : List Cl) (B : List Blk), vs = [.str (SX.S T)] ∧ T.length ≤ 100000 ∧ (TW.cut 10 T).length ≤ 900 ∧
  (∀ l ∈ TW.cut 10 T, l.length ≤ 800) ∧ (TW.cut 10 T).map TW.words = cls.map clW ∧ Steps [] cls B ∧
  ∀ (d : Addr) (ts : List (Str × Tab)) H', Same H H' → H d = none → TabsAt K H' d ts → ts.map (·.1) = canon (B.map (·.1)) →
    (∀ q ∈ ts, ∃ rs, (q.1, q.2.1, rs) ∈ B ∧ q.2.2.Perm rs ∧ q.2.2.Pairwise (· ≤ ·)) → Q (.ref d) H'
end LW

namespace LW
open PySem PySem.Spec PyProof.Rows L2 GL
abbrev sread_tables : Stmt := topS 16
theorem scread_tables : FnScope ["text", "widths", "rows", "name", "index", "line", "words", "head", "row", "told", "many"] ["text"] (defScope sread_tables) := ⟨rfl, rfl, rfl, by decide +kernel, rfl, by decide +kernel, by decide +kernel⟩
theorem okread_tables {P : Program} {w : World} {K : PySem.W.Frag} {mg : Str → Option Value} {base : Heap} (D : DefAt K mg "read_tables" sread_tables ["text"]) (c__read_head : Cal P w K mg base 2 "_read_head" (spRH K)) (c_read_row : Cal P w K mg base 2 "read_row" (spRR K)) (c_words_of : Cal P w K mg base 1 "words_of" (spWords K)) (m_enumerate : mg "enumerate" = none) (m_isinstance : mg "isinstance" = none) (m_len : mg "len" = none) (m_sorted : mg "sorted" = none) (m_str : mg "str" = none) (m_tuple : mg "tuple" = none) :
    Cal P w K mg base 3 "read_tables" (spRT K) := by
  refine cal_mk D scread_tables (fun vs H Q E h => ?_) (fun f cdv A outer s H vs Q E hG hr h => ?_)
  · obtain ⟨T, cls, B, rfl, _⟩ := h; rfl
  have nd := scread_tables.nd
  obtain ⟨T, cls, B, rfl, hT, hc, hl, hw, hs, q⟩ := h
  refine ⟨_, (pss_cons (ps_if (pt_not (pt_val (pe_callB (call_isi : CallR _ (.builtin "isinstance") (rIsi K)) (by rfl) m_isinstance (by decide +kernel) (pa_cons (pv 0) (pa_cons (pe_bltn (v := .ty "str") (u := .type "str") (by rfl) m_str (by decide +kernel) rfl) pa_nil))))) (pss_one ps_never) pss_nil)
    (pss_cons (ps_set (i := 1) nd rfl (.inr rfl) pe_dnewK)
    (pss_cons (ps_set (i := 2) nd rfl (.inr rfl) pe_dnewK)
    (pss_cons (ps_set (i := 3) nd rfl (.inl rfl) pe_non)
    (pss_cons (ps_for PassesOwn.never rfl (pi_enum (by rfl) m_enumerate (pa_cons (pe_split (pv 0) pe_str) pa_nil)) (pg_tup rfl (pgs_cons (pg_name (i := 4) nd rfl (.inl rfl)) (pgs_cons (pg_name (i := 5) nd rfl (.inl rfl)) pgs_nil))) (pss_cons (ps_set (i := 6) nd rfl (.inl rfl) (pe_cg c_words_of (by exact hG) (by exact hr) (by decide) (by rfl) (pa_cons (pv 5) pa_nil)))
    (pss_cons (ps_set (i := 7) nd rfl (.inl rfl) (pe_cg c__read_head (by exact hG) (by exact hr) (by decide) (by rfl) (pa_cons (pv 6) pa_nil)))
    (pss_cons (ps_set (i := 8) nd rfl (.inl rfl) (pe_cg c_read_row (by exact hG) (by exact hr) (by decide) (by rfl) (pa_cons (pv 6) pa_nil)))
    (pss_one (ps_if (PW.pt (pw_and (pt_cmpR op_notN (pv 7) pe_non (nomark _)) (pw_and1 (pt_cmp (pc_dnotin (by exact Nat.lt_of_le_of_lt (Nat.add_le_add_left (by decide : 1 ≤ 64) _) hr.units) (pe_ix (ix_tup : IxR _ (rIxT K)) (pv 7) pe_int (fun _ _ => rfl)) (pv 1)))))) (pss_cons (ps_asg (pv 7) (pg_tup rfl (pgs_cons (pg_name (i := 3) nd rfl (.inl rfl)) (pgs_cons (pg_name (i := 10) nd rfl (.inl rfl)) pgs_nil))))
    (pss_cons (ps_dput (by exact Nat.lt_of_le_of_lt (Nat.add_le_add_left (by decide : 1 ≤ 64) _) hr.units) (pv 1) (pv 3) (pv 10) (by rfl))
    (pss_one (ps_dput (by exact Nat.lt_of_le_of_lt (Nat.add_le_add_left (by decide : 1 ≤ 64) _) hr.units) (pv 2) (pv 3) pe_dnewT (by rfl))))) (pss_one (ps_if (PW.pt (pw_and (pt_cmpR op_notN (pv 8) pe_non (nomark _)) (pw_and (pt_cmpR op_notN (pv 3) pe_non (nomark _)) (pw_and (pt_cmpR op_eq (pe_callB (call_len2 : CallR _ (.builtin "len") (rLen2 K)) (by rfl) m_len PySem.boot_len (pa_cons (pv 8) pa_nil)) (pe_dget (by exact Nat.lt_of_le_of_lt (Nat.add_le_add_left (by decide : 1 ≤ 64) _) hr.units) (pv 1) (pv 3) (fun _ _ => rfl)) (nomark _)) (pw_and1 (pt_cmp (pc_dnotin (by exact Nat.lt_of_le_of_lt (Nat.add_le_add_left (by decide : 1 ≤ 64) _) hr.units) (pv 8) (pe_dget (by exact Nat.lt_of_le_of_lt (Nat.add_le_add_left (by decide : 1 ≤ 64) _) hr.units) (pv 2) (pv 3) (fun _ _ => rfl))))))))) (pss_one (ps_dput (by exact Nat.lt_of_le_of_lt (Nat.add_le_add_left (by decide : 1 ≤ 64) _) hr.units) (pe_dget (by exact Nat.lt_of_le_of_lt (Nat.add_le_add_left (by decide : 1 ≤ 64) _) hr.units) (pv 2) (pv 3) (fun _ _ => rfl)) (pv 8) pe_bl (by rfl))) (pss_one (ps_if (pt_cmpR (op_neD (by exact hr.units) : OpR _ (compareOp .NotEq) (rNeD K)) (pv 6) (pe_lst pa_nil) (nomark _)) (pss_one ps_never) pss_nil))))))))))
    (pss_one (ps_ret (pe_dc (own := [("told", 9)]) (g := gName 9) (tt := tYes) (by rfl) nd (pi_list (pe_callB (cr_sortNames rfl : CallR _ (.builtin "sorted") rSortNames) (by rfl) m_sorted (by decide +kernel) (pa_cons (pv 1) pa_nil)) : PI _ _ _ (iList K _)) (blkOk_by (own := [("told", 9)]) (N := ["text", "widths", "rows", "name", "index", "line", "words", "head", "row", "told", "many"]) (sc := (defScope sread_tables)) (by decide +kernel)) (fun _ _ _ _ _ => (pg_name (i := 9) nd rfl (.inl rfl))) (fun _ _ _ _ _ => pts_nil) (fun _ _ _ _ _ => (pv 9)) (fun _ _ _ _ _ => (pe_tup (pa_cons (pe_dget (by exact Nat.lt_of_le_of_lt (Nat.add_le_add_left (by decide : 1 ≤ 64) _) hr.units) (pv 1) (pv 9) (fun _ _ => rfl)) (pa_cons (pe_callTy (call_tup2 : CallR _ (.type "tuple") (rTupOf K)) (by rfl) m_tuple (by decide +kernel) (pa_cons (pe_callB (cr_sortDT rfl (by exact hr.units) : CallR _ (.builtin "sorted") (rSortDT K)) (by rfl) m_sorted (by decide +kernel) (pa_cons (pe_dget (by exact Nat.lt_of_le_of_lt (Nat.add_le_add_left (by decide : 1 ≤ 64) _) hr.units) (pv 2) (pv 9) (fun _ _ => rfl)) pa_nil)) pa_nil)) pa_nil)))))))))))), ?_⟩
  refine ⟨.str (SX.S T), rfl, .str (SX.S T), .ty "str", .type "str", .type "str", true, rfl, .ty _, .base (.str _), kit_ty (by decide +kernel), _, rfl, ?_⟩
  refine fun W nW => fun R nR => ?_
  have k0 := (put_new nW (.dK [])).trans (put_new nR (.dK []))
  have rd0 : RdAt (upd (upd H W (.dK [])) R (.dK [])) W R [] := by
    have ne : W ≠ R := fun z => by rw [← z, upd_same] at nR; cases nR
    exact ⟨by rw [upd_ne ne, upd_same]; rfl, upd_same, fun b hb => (nomatch hb), List.nodup_nil, List.nodup_nil, ne⟩
  generalize upd (upd H W (.dK [])) R (.dK []) = H2 at *
  refine ⟨.str (SX.S T), rfl, ⟨_, rfl⟩, SX.S T, Str.ofString "\n", rfl, rfl, by decide +kernel, ?_, fun L nL => ?_⟩
  · rw [SX.S_len]
    exact Nat.le_trans (Nat.add_le_add_right hT 2) (by decide)
  have e1 : (Txt.split (SX.S T) (Str.ofString "\n")).map V.str = (TW.cut 10 T).map lV := by
    have e : (Str.ofString "\n") = SX.S [10] := by decide +kernel
    rw [e, SX.split_S (by simp) (by decide), List.map_map]
    rfl
  rw [e1]
  have k1 := k0.trans (put_new nL (.lst ((TW.cut 10 T).map lV)))
  have rd1 := rd0.same (put_new nL (.lst ((TW.cut 10 T).map lV)))
  have hL : upd H2 L (.lst ((TW.cut 10 T).map lV)) L = some (.lst ((TW.cut 10 T).map lV)) := upd_same
  have nLH : H L = none := by
    cases e : H L with
    | none => rfl
    | some o => rw [k0 _ _ e] at nL; cases nL
  have nWH : H W = none := nW
  have nRH : H R = none := by
    cases e : H R with
    | none => rfl
    | some o => rw [put_new nW (.dK []) _ _ e] at nR; cases nR
  generalize upd H2 L (.lst ((TW.cut 10 T).map lV)) = H3 at *
  obtain ⟨lines, el⟩ : ∃ lines, lines = TW.cut 10 T := ⟨_, rfl⟩
  rw [← el] at hc hl hw hL
  refine ⟨L, _, rfl, SqL.of hL, ?_⟩
  have lcs : lines.length = cls.length := by have := congrArg List.length hw; rw [List.length_map, List.length_map] at this; exact this
  refine for_it (walk_enum (K := K) (a := L) (xs := lines.map lV)) (fun i σ G => ∃ (nm y4 y5 y6 y7 y8 y9 y10 : Option V) (BA : List (Addr × Blk)),
      σ = [some (.str (SX.S T)), some (.ref W), some (.ref R), nm, y4, y5, y6, y7, y8, y9, y10] ∧ Same H G ∧ G L = some (.lst (lines.map lV)) ∧ RdAt G W R BA ∧ (∀ b ∈ BA, H b.1 = none) ∧
      Steps (BA.map (·.2)) (cls.drop i) B ∧ ((nm = some .non ∧ BA = []) ∨ ∃ pre last, BA = pre ++ [last] ∧ nm = some (.str last.2.1)) ∧
      (∀ b ∈ BA, b.2.1 ∈ nm4 ∧ (∀ r ∈ b.2.2.2, r ≠ []) ∧ b.2.2.2.length ≤ i) ∧ BA.length ≤ i)
    ⟨some .non, none, none, none, none, none, none, none, [], rfl, k1, hL, rd1, fun b hb => (nomatch hb), hs, .inl ⟨rfl, rfl⟩, fun b hb => (nomatch hb), Nat.zero_le _⟩ (fun i σ G _ hp => ?_) (fun i x σ G G' hi hp hy => ?_) (fun σ G hp => ?_)
  · obtain ⟨_, _, _, _, _, _, _, _, _, _, _, h, _⟩ := hp
    exact SqL.of h
  · obtain ⟨nm, y4, y5, y6, y7, y8, y9, y10, BA, rfl, k, hL, rd, fr, st, hnm, bnd, lb⟩ := hp
    obtain ⟨t0, x0, x1, rfl, nt, rfl, ex0, ex1⟩ := hy
    rw [List.length_map] at hi
    have hic : i < cls.length := by omega
    cases ex0
    have ex1' : (lines.map lV)[i]? = some x1 := ex1
    rw [List.getElem?_map, List.getElem?_eq_getElem hi] at ex1'
    cases ex1'
    have hln : lines[i] ∈ lines := List.getElem_mem _
    have hwi : TW.words lines[i] = clW cls[i] := by
      have := congrArg (fun l => l[i]?) hw
      simp only [List.getElem?_map, List.getElem?_eq_getElem hi, List.getElem?_eq_getElem hic, Option.map_some] at this
      exact Option.some.inj this
    rw [List.drop_eq_getElem_cons hic] at st
    generalize cls[i] = c at st hwi
    have kt := put_new nt (.tup [.int (i : Nat), lV lines[i]])
    refine ⟨t0, _, rfl, SqT.of upd_same, rfl, .int (i : Nat), [lV lines[i]], rfl, lV lines[i], [], rfl, rfl, ?_⟩
    have k2 := k.trans kt
    have hL2 := kt _ _ hL
    have rd2 := rd.same kt
    generalize upd G t0 (.tup [.int (i : Nat), lV lines[i]]) = G2 at *
    refine ⟨lV lines[i], rfl, lines[i], rfl, Nat.le_trans (hl _ hln) (by decide), ?_, fun pw G3 k3 npw hpw => ?_⟩
    · have := TW.cut_len 32 lines[i]
      have := hl _ hln
      omega
    rw [hwi, clW_lV] at hpw
    obtain ⟨B1, s1, s2⟩ : ∃ B1, Step (BA.map (·.2)) c B1 ∧ Steps B1 (cls.drop (i + 1)) B := by
      cases st with
      | cons a b => exact ⟨_, a, b⟩
    have rof := row_of s1
    have wdf := clS_wd s1
    refine ⟨.ref pw, rfl, pw, clS c, clHead c, rfl, hpw, clS_head s1, ?_⟩
    have no : ∀ (p q : Prop) [Decidable p], ¬ p → q → (if p then False else q) := fun p q _ h x => by rw [if_neg h]; exact x
    generalize eB : BA.map (·.2) = B0 at s1
    cases s1 with
    | blank =>
      refine fun G4 k4 => ?_
      refine ⟨.ref pw, rfl, pw, clS .blank, rfl, k4 _ _ hpw, wdf.1, Nat.le_trans wdf.2 (by decide), ?_⟩
      rw [rof]
      refine fun G5 k5 => ?_
      have kk := k3.trans (k4.trans k5)
      refine ⟨.non, rfl, rfl, _, rfl, ite2 (fun e => absurd e (by decide)) (fun _ => ite2 (fun e => absurd e (by decide)) (fun _ => ?_))⟩
      refine ⟨.non, rfl, rfl, _, rfl, ite2 (fun e => absurd e (by decide)) (fun _ => ite2 (fun e => absurd e (by decide)) (fun _ => ?_))⟩
      refine ⟨.ref pw, rfl, Nat.zero_le _, fun l nl => ?_⟩
      have kl := put_new nl (.lst [])
      have hpw5 : G5 pw = some (.lst []) := (k4.trans k5) _ _ hpw
      refine ⟨.list [], .list [], .lst (SqL.of (kl _ _ hpw5)) .nil, .lst (SqL.of upd_same) .nil, shaped_lints [], shaped_lints [], _, rfl, ?_⟩
      rw [show (!PyData.eqv (.list []) (.list [])) = false from by simp [PyData.eqv, PyData.eqvAll]]
      refine ite2 (fun e => absurd e (by decide)) (fun _ => ?_)
      have ka := kk.trans kl
      exact ⟨_, _, _, _, _, _, _, _, BA, rfl, k2.trans ka, ka _ _ hL2, rd2.same ka, fr, by rw [eB]; exact s2, hnm, fun b hb => ⟨(bnd b hb).1, (bnd b hb).2.1, Nat.le_succ_of_le (bnd b hb).2.2⟩, Nat.le_succ_of_le lb⟩
    | @head _ n m hn h1 h4 hnew =>
      refine fun t2 G4 k4 ht2 => ?_
      refine ⟨.ref pw, rfl, pw, clS (.head n m), rfl, k4 _ _ hpw, wdf.1, Nat.le_trans wdf.2 (by decide), ?_⟩
      rw [rof]
      refine fun G5 k5 => ?_
      have kk := k3.trans (k4.trans k5)
      have ht5 := k5 _ _ ht2
      have rd5 := rd2.same kk
      have hnew' : n ∉ BA.map (·.2.1) := by
        have : BA.map (·.2.1) = B0.map (·.1) := by rw [← eB, List.map_map]; rfl
        rw [this]
        exact hnew
      refine ⟨.ref t2, rfl, rfl, _, rfl, ite2 (fun _ => ?_) (fun e => absurd rfl e)⟩
      refine ⟨.ref t2, rfl, t2, _, 0, .str n, rfl, rfl, SqT.of ht5, atI_nat (j := 0) rfl, .ref W, rfl, W, none, rfl, rd5.noName hnew', _, rfl, ite2 (fun _ => ?_) (fun e => absurd rfl e)⟩
      refine ⟨.ref t2, rfl, t2, _, rfl, SqT.of ht5, rfl, .str n, [.int m], rfl, .int m, [], rfl, rfl, ?_⟩
      have lBA : BA.length < sizeLine := small1000 (Nat.le_trans lb (by omega))
      refine ⟨.int m, rfl, .ref W, rfl, .str n, rfl, W, _, rfl, DPut.k (k := (.inr n)) rd5.w (by rw [List.length_map]; exact lBA), ?_⟩
      refine fun d nd => ?_
      have rdA := rd5.add (m := m) hnew' nd
      have dW : d ≠ W := fun z => by rw [z, upd_same] at nd; cases nd
      have dH : H d = none := by
        cases e : H d with
        | none => rfl
        | some o =>
          rw [upd_ne dW] at nd
          rw [(k2.trans kk) _ _ e] at nd
          cases nd
      have dR : d ≠ R := fun z => by rw [z, upd_ne rd5.ne.symm, rd5.r] at nd; cases nd
      have hR3 : upd (upd G5 W (.dK (putK (BA.map fun b => (.inr b.2.1, .int b.2.2.1)) (.inr n) (.int m)))) d (.dT []) R = some (.dK (BA.map fun b => (.inr b.2.1, .ref b.1))) := by
        rw [upd_ne dR.symm, upd_ne rd5.ne.symm]
        exact rd5.r
      refine ⟨.ref R, rfl, .str n, rfl, R, _, rfl, DPut.k (k := (.inr n)) hR3 (by rw [List.length_map]; exact lBA), ?_⟩
      have hL5 := kk _ _ hL2
      have nLW : L ≠ W := ne_of hL5 rd5.w (by intro z; cases z)
      have nLR : L ≠ R := ne_of hL5 rd5.r (by intro z; cases z)
      have nLd : L ≠ d := fun z => by rw [← z, upd_ne nLW, hL5] at nd; cases nd
      refine ⟨_, _, _, _, _, _, _, _, BA ++ [(d, n, m, [])], rfl, same_upd (same_upd (same_upd (k2.trans kk) nWH) dH) nRH, ?_, rdA, ?_, ?_, .inr ⟨BA, _, rfl, rfl⟩, ?_, ?_⟩
      · rw [upd_ne nLR, upd_ne nLd, upd_ne nLW]
        exact hL5
      · intro b hb
        rcases List.mem_append.mp hb with hb | hb
        · exact fr b hb
        · rw [List.mem_singleton.mp hb]
          exact dH
      · rw [List.map_append, eB]
        exact s2
      · intro b hb
        rcases List.mem_append.mp hb with hb | hb
        · exact ⟨(bnd b hb).1, (bnd b hb).2.1, Nat.le_succ_of_le (bnd b hb).2.2⟩
        · rw [List.mem_singleton.mp hb]
          exact ⟨hn, fun r hr => (nomatch hr), Nat.zero_le _⟩
      · rw [List.length_append]
        exact Nat.succ_le_succ lb
    | @row B4 n m rs r hR hlen hm hnew =>
      refine fun G4 k4 => ?_
      refine ⟨.ref pw, rfl, pw, clS (.row r), rfl, k4 _ _ hpw, wdf.1, Nat.le_trans wdf.2 (by decide), ?_⟩
      rw [rof]
      refine fun tr G5 k5 htr => ?_
      have kk := k3.trans (k4.trans k5)
      obtain ⟨pre, d, epre, ebl⟩ : ∃ (pre : List (Addr × Blk)) (d : Addr), BA = pre ++ [(d, n, m, rs)] ∧ pre.map (·.2) = B4 := by
        have hne : BA ≠ [] := fun z => by rw [z] at eB; simp at eB
        refine ⟨BA.dropLast, (BA.getLast hne).1, ?_, ?_⟩
        · have e2 := congrArg List.getLast? eB
          rw [List.getLast?_map, List.getLast?_eq_getLast hne] at e2
          simp at e2
          conv => lhs; rw [← List.dropLast_concat_getLast hne]
          rw [show BA.getLast hne = ((BA.getLast hne).1, n, m, rs) from Prod.ext rfl e2]
        · have e2 := congrArg List.dropLast eB
          rw [← List.map_dropLast, List.dropLast_concat] at e2
          exact e2
      subst epre
      have rd5 := rd2.same kk
      have lst : (d, n, m, rs) ∈ pre ++ [(d, n, m, rs)] := by simp
      have enm : nm = some (.str n) := by
        rcases hnm with ⟨_, z⟩ | ⟨pre2, last, e, z⟩
        · simp at z
        · have := List.append_inj_right' e rfl
          cases this
          exact z
      subst enm
      refine ⟨.non, rfl, rfl, _, rfl, ite2 (fun e => absurd e (by decide)) (fun _ => ite2 (fun e => absurd e (by decide)) (fun _ => ?_))⟩
      refine ⟨.ref tr, rfl, rfl, _, rfl, ite2 (fun _ => ?_) (fun e => absurd rfl e)⟩
      refine ⟨.str n, rfl, rfl, _, rfl, ite2 (fun _ => ?_) (fun e => absurd rfl e)⟩
      refine ⟨.ref tr, rfl, tr, _, rfl, .inr (SqT.of htr), .ref W, rfl, .str n, rfl, W, .int m, rfl, rd5.getW lst, rfl, _, rfl, ?_⟩
      rw [show decide (V.int ((r.map V.int).length : Nat) = V.int m) = true from decide_eq_true (by rw [List.length_map, hlen]; congr 1; omega)]
      refine ite2 (fun _ => ?_) (fun e => absurd rfl e)
      have hd5 := rd5.d _ lst
      have etr : (r.map V.int) = (r.map (Sum.inl : Int → Key)).map kV := by rw [List.map_map]; rfl
      have htr' : G5 tr = some (.tup ((r.map (Sum.inl : Int → Key)).map kV)) := by rw [← etr]; exact htr
      have dg := DGet.t hd5 htr'
      rw [show valV (rs.map rowK) (r.map Sum.inl) = none from noRow hnew] at dg
      refine ⟨.ref tr, rfl, .ref R, rfl, .str n, rfl, R, .ref d, rfl, rd5.getR lst, d, none, rfl, dg, _, rfl, ite2 (fun _ => ?_) (fun e => absurd rfl e)⟩
      have bl := bnd _ lst
      refine ⟨.ref R, rfl, .str n, rfl, R, .ref d, rfl, rd5.getR lst, .ref tr, rfl, d, _, rfl, DPut.t hd5 htr' (by rw [List.length_map]; exact small1000 (Nat.le_trans bl.2.2 (by omega))), ?_⟩
      have hL5 := kk _ _ hL2
      have nLd : L ≠ d := ne_of hL5 hd5 (by intro z; cases z)
      refine ⟨_, _, _, _, _, _, _, _, pre ++ [(d, n, m, rs ++ [r])], rfl, same_upd (k2.trans kk) (fr _ lst), ?_, rd5.more hnew, ?_, ?_, .inr ⟨pre, _, rfl, rfl⟩, ?_, ?_⟩
      · rw [upd_ne nLd]
        exact hL5
      · intro b hb
        rcases List.mem_append.mp hb with hb | hb
        · exact fr b (List.mem_append_left _ hb)
        · rw [List.mem_singleton.mp hb]
          show H d = none
          exact fr (d, n, m, rs) lst
      · rw [List.map_append, ebl]
        exact s2
      · intro b hb
        rcases List.mem_append.mp hb with hb | hb
        · have := bnd b (List.mem_append_left _ hb)
          exact ⟨this.1, this.2.1, Nat.le_succ_of_le this.2.2⟩
        · rw [List.mem_singleton.mp hb]
          refine ⟨bl.1, fun x hx => ?_, by show (rs ++ [r]).length ≤ _; rw [List.length_append]; exact Nat.succ_le_succ bl.2.2⟩
          rcases List.mem_append.mp hx with hx | hx
          · exact bl.2.1 x hx
          · rw [List.mem_singleton.mp hx]
            exact hR.1
      · rw [List.length_append] at lb ⊢
        exact Nat.le_succ_of_le lb
  · obtain ⟨nm, y4, y5, y6, y7, y8, y9, y10, BA, rfl, k, hL, rd, fr, st, hnm, bnd, lb⟩ := hp
    rw [List.length_map] at st
    rw [lcs, List.drop_length] at st
    generalize eB : BA.map (·.2) = B0 at st
    cases st
    have enames : BA.map (·.2.1) = B.map (·.1) := by rw [← eB, List.map_map]; rfl
    obtain ⟨cs, ecs⟩ : ∃ cs, cs = canon (BA.map (·.2.1)) := ⟨_, rfl⟩
    have nm : ∀ x ∈ BA.map (·.2.1), x ∈ nm4 := fun x hx => by
      obtain ⟨b, hb, rfl⟩ := List.mem_map.mp hx
      exact (bnd b hb).1
    have pcs := canon_perm rd.nn nm
    rw [← ecs] at pcs
    have ln : (BA.map (·.2.1)).length ≤ 4 := nodup_sub (m := nm4) rd.nn nm
    have ncs : cs.Nodup := pcs.nodup_iff.mpr rd.nn
    refine ⟨.ref W, rfl, W, _, BA.map (·.2.1), rfl, rd.w, by rw [List.map_map, List.map_map]; rfl, rd.nn, nm, ln, fun p np => ?_⟩
    rw [← ecs]
    have kp := put_new np (.lst (cs.map V.str))
    have hp : upd G p (.lst (cs.map V.str)) p = some (.lst (cs.map V.str)) := upd_same
    have rdp := rd.same kp
    have kG := k.trans kp
    generalize upd G p (.lst (cs.map V.str)) = G0 at *
    refine ⟨p, rfl, ⟨_, SqL.of hp⟩, fun D nD => ?_⟩
    refine dc_listU (K := K) (a := p) (xs := cs.map V.str) (fun i F => ∃ kvs ts, F D = some (.dK kvs) ∧ Same G0 F ∧ TabsKv K F kvs ts ∧ ts.map (·.1) = cs.take i ∧
        ∀ q ∈ ts, ∃ rs, (q.1, q.2.1, rs) ∈ B ∧ q.2.2.Perm rs ∧ q.2.2.Pairwise (· ≤ ·))
      ⟨[], [], upd_same, put_new nD _, .nil, rfl, fun q hq => (nomatch hq)⟩ (fun i F _ hp2 => ?_) (fun i x F hx hp2 => ?_) (fun F hp2 => ?_)
    · obtain ⟨_, _, _, h, _⟩ := hp2
      exact SqL.of (h _ _ hp)
    · obtain ⟨kvs, ts, hD, kF, tk, en, hall⟩ := hp2
      rw [List.getElem?_map] at hx
      obtain ⟨n, hn, rfl⟩ := Option.map_eq_some_iff.mp hx
      have hnb : n ∈ BA.map (·.2.1) := pcs.mem_iff.mp (List.mem_of_getElem? hn)
      obtain ⟨b, hb, rfl⟩ := List.mem_map.mp hnb
      have rdF := rdp.same kF
      have bl := bnd b hb
      refine ⟨rfl, .str b.2.1, rfl, .ref W, rfl, .str b.2.1, rfl, W, .int b.2.2.1, rfl, rdF.getW hb, .ref R, rfl, .str b.2.1, rfl, R, .ref b.1, rfl, rdF.getR hb, b.1, b.2.2.2, rfl, rdF.d b hb, bl.2.1, fun p2 bs n2 pm pw ti => ?_⟩
      refine ⟨p2, _, rfl, .inl (SqL.of upd_same), fun t3 F3 k3 s3 => ?_⟩
      refine ⟨by show 2 ≤ sizeLine; decide, fun t4 n4 => ?_⟩
      have kk := ((put_new n2 (.lst (bs.map (·.1)))).trans k3).trans (put_new n4 (.tup [.int b.2.2.1, .ref t3]))
      have s4 : upd F3 t4 (.tup [.int b.2.2.1, .ref t3]) t4 = some (.tup [.int b.2.2.1, .ref t3]) := upd_same
      have s5 := (TupK.new (o := .tup [.int b.2.2.1, .ref t3]) n4) _ _ _ s3
      generalize upd F3 t4 (.tup [.int b.2.2.1, .ref t3]) = F4 at *
      have hD4 := kk _ _ hD
      have tD : TupK F4 (upd F4 D (.dK (putK kvs (.inr b.2.1) (.ref t4)))) := tk_dk hD4
      have nk : ((.inr b.2.1 : Key)) ∉ kvs.map (·.1) := by
        rw [tk.keys]
        intro z
        obtain ⟨q, hq, e⟩ := List.mem_map.mp z
        have : b.2.1 ∈ cs.take i := by rw [← en]; exact List.mem_map.mpr ⟨q, hq, Sum.inr.inj e⟩
        obtain ⟨j, hj⟩ := List.mem_iff_getElem?.mp this
        rw [List.getElem?_take] at hj
        split at hj
        · rename_i hji
          have := (List.getElem?_inj (by exact (List.getElem?_eq_some_iff.mp hj).1) ncs).mp (hj.trans hn.symm)
          omega
        · cases hj
      refine ⟨kvs, .inr b.2.1, rfl, hD4, ?_, ?_⟩
      · have := tk.length
        have e2 := congrArg List.length en
        rw [List.length_map, List.length_take] at e2
        have e3 : kvs.length ≤ 4 := by
          have := pcs.length_eq
          omega
        exact small1000 (by omega)
      · have tb : TabV K (upd F4 D (.dK (putK kvs (.inr b.2.1) (.ref t4)))) (.ref t4) (b.2.2.1, bs.map (·.2)) :=
          ⟨t4, t3, bs, rfl, ⟨tD _ _ _ (SqT.of s4), tD _ _ _ s5, fun u hu => (ti u hu).mono ((TupK.same kk).trans tD)⟩, rfl⟩
        refine ⟨kvs ++ [(.inr b.2.1, .ref t4)], ts ++ [(b.2.1, b.2.2.1, bs.map (·.2))], by rw [upd_same, putK_new nk], same_upd (kF.trans kk) nD, each_snoc ⟨rfl, tb⟩ (tk.mono ((TupK.same kk).trans tD)), ?_, fun q hq => ?_⟩
        · rw [List.map_append, en, List.take_add_one, hn]
          rfl
        · rcases List.mem_append.mp hq with hq | hq
          · exact hall q hq
          · rw [List.mem_singleton.mp hq]
            exact ⟨b.2.2.2, by rw [← eB]; exact List.mem_map.mpr ⟨b, hb, rfl⟩, pm, pw⟩
    · obtain ⟨kvs, ts, hD, kF, tk, en, hall⟩ := hp2
      rw [List.length_map, List.take_length] at en
      have nDH : H D = none := by
        cases e : H D with
        | none => rfl
        | some o => rw [kG _ _ e] at nD; cases nD
      refine q D ts F (kG.trans kF) nDH ⟨kvs, hD, tk⟩ ?_ hall
      rw [en, ecs, enames]

end LW

namespace LW
open PySem PySem.Spec PyProof.Rows L2 GL

def linesB (B : List Blk) : List (List Nat) := B.flatMap fun b => headL b.1 b.2.1 :: b.2.2.map rowL
/-- a text whose lines say these blocks -/
def TextOf (T : List Nat) (cls : List Cl) (B : List Blk) : Prop := T.length ≤ 100000 ∧ (TW.cut 10 T).length ≤ 900 ∧ (∀ l ∈ TW.cut 10 T, l.length ≤ 800) ∧ (TW.cut 10 T).map TW.words = cls.map clW ∧ Steps [] cls B
/-- the tables' blocks, in any order -/
def BlkOf (ts : List (Str × Tab)) (B : List Blk) : Prop := (B.map (·.1)).Perm (ts.map (·.1)) ∧ ∀ b ∈ B, b.2.1 = (tabOf ts b.1).1 ∧ b.2.2.Perm (tabOf ts b.1).2
theorem kp_upd {b p : Addr} {H G : Hp} {o : HO} (k : Kp b H G) (n : H p = none) : Kp b H (upd G p o) := fun q u ne e => by
  rw [upd_ne (ne_of_none e n)]
  exact k q u ne e
def spLoose (K : PySem.W.Frag) : Sp := fun vs H Q _ => ∃ (b c d : Addr) (ts : List (Str × Tab)), vs = [.ref b, .ref d] ∧ Bag H b c ∧ d ≠ b ∧ TabsAt K H d ts ∧ GoodTs 8 ts ∧
  ∀ (T : List Nat) (cls : List Cl) (B : List Blk) H', Kp b H H' → Bag H' b c → TextOf T cls B → BlkOf ts B → Q (.str (SX.S T)) H'
theorem kl_all : ∀ {acc : List V} {ks : List Nat}, PySem.W.EachIs (fun (v : V) (j : Nat) => v = lV (List.replicate j 32) ∧ 1 ≤ j ∧ j ≤ 4) acc ks → acc = (ks.map fun j => lV (List.replicate j 32)) ∧ ∀ j ∈ ks, 1 ≤ j ∧ j ≤ 4
  | _, _, .nil => ⟨rfl, fun _ z => nomatch z⟩
  | _, _, .cons h t => by
    obtain ⟨e, g⟩ := kl_all t
    refine ⟨by rw [List.map_cons, ← e, ← h.1], fun j hj => ?_⟩
    rcases List.mem_cons.mp hj with rfl | hj
    · exact h.2
    · exact g j hj
theorem bag_ne {H : Hp} {b c l : Addr} (g : Bag H b c) (n : H l = none) : l ≠ b ∧ l ≠ c := by
  refine ⟨fun z => ?_, fun z => ?_⟩
  · obtain ⟨xs, hx⟩ := g.lst
    rw [z, hx] at n
    cases n
  · obtain ⟨_, xs, hx⟩ := g.cell
    rw [z, hx] at n
    cases n
theorem bag_tk {H H' : Hp} {b c : Addr} (g : Bag H b c) (k : Kp b H H') : TupK H H' := by
  obtain ⟨xs, hx⟩ := g.lst
  exact TupK.kp k hx

def clsB (B : List Blk) : List Cl := B.flatMap fun b => .head b.1 b.2.1 :: b.2.2.map .row
def nb : Cl → Bool
  | .blank => false
  | _ => true
def lineW (c : Cl) : List Nat := TL.joinL [32] (clW c)
theorem lineW_head (n : Str) (m : Int) : lineW (.head n m) = headL n m := by
  have e : TL.tl (Str.ofString "table ") = TL.tl (Str.ofString "table") ++ [32] := by decide +kernel
  show TL.tl (Str.ofString "table") ++ ([32] ++ (TL.tl n ++ ([32] ++ wI m))) = TL.tl (Str.ofString "table ") ++ (TL.tl n ++ (32 :: wI m))
  rw [e]
  simp
theorem lineW_row (r : List Int) : lineW (.row r) = rowL r := by
  unfold lineW rowL clW
  show TL.joinL [32] ((r.map iS).map TL.tl) = _
  rw [List.map_map]
  rfl
theorem lines_cls : ∀ B : List Blk, linesB B = (clsB B).map lineW
  | [] => rfl
  | b :: B => by
    have ih := lines_cls B
    show (headL b.1 b.2.1 :: b.2.2.map rowL) ++ linesB B = ((Cl.head b.1 b.2.1 :: b.2.2.map Cl.row) ++ clsB B).map lineW
    rw [List.map_append, ← ih, List.map_cons, lineW_head, List.map_map]
    congr 2
    exact List.map_congr_left fun r _ => (lineW_row r).symm
/-- good words -/
def GoodC : Cl → Prop
  | .blank => False
  | .head n m => n ∈ nm4 ∧ 1 ≤ m ∧ m ≤ 4
  | .row r => RowOk r
theorem goodC_w {c : Cl} (h : GoodC c) : clW c ≠ [] ∧ (clW c).length ≤ 4 ∧ ∀ w ∈ clW c, 32 ∉ w ∧ 10 ∉ w ∧ w ≠ [] ∧ w.length ≤ 5 := by
  cases c with
  | blank => exact h.elim
  | head n m =>
    obtain ⟨h1, h2, h3⟩ := h
    refine ⟨by simp [clW, clS], by show 3 ≤ 4; decide, fun w hw => ?_⟩
    simp only [clW, clS, List.map_cons, List.map_nil, List.mem_cons, List.not_mem_nil, or_false] at hw
    rcases hw with rfl | rfl | rfl
    · decide +kernel
    · have := nm_len n h1
      rw [TL.len_tl] at this
      exact ⟨this.2.1, this.2.2.1, this.2.2.2, this.1⟩
    · have := wI_ok m (small_cases ⟨by omega, by omega⟩)
      exact ⟨this.1, this.2.1, this.2.2.1, Nat.le_trans this.2.2.2.1 (by decide)⟩
  | row r =>
    have h' : RowOk r := h
    have e : clW (.row r) = r.map wI := by
      unfold clW
      show ((r.map iS).map TL.tl) = _
      rw [List.map_map]
      rfl
    rw [e]
    refine ⟨fun z => h'.1 (List.map_eq_nil_iff.mp z), by rw [List.length_map]; exact h'.2.1, fun w hw => ?_⟩
    obtain ⟨v, hv, rfl⟩ := List.mem_map.mp hw
    have := h'.w v hv
    exact ⟨this.1, this.2.1, this.2.2.1, Nat.le_trans this.2.2.2.1 (by decide)⟩
theorem cut_line {c : Cl} (h : GoodC c) : TW.cut 32 (lineW c) = clW c := by
  obtain ⟨h1, _, h3⟩ := goodC_w h
  exact SX.spl_join h1 fun p hp => (h3 p hp).1
theorem line_len {c : Cl} (h : GoodC c) : (lineW c).length ≤ 24 := by
  obtain ⟨_, h2, h3⟩ := goodC_w h
  have a := joinL_len [32] (clW c)
  have b := sum_le (n := 5) (l := (clW c).map (·.length)) fun x hx => by
    obtain ⟨w, hw, rfl⟩ := List.mem_map.mp hx
    exact (h3 w hw).2.2.2
  rw [List.length_map] at b
  rw [List.length_singleton] at a
  unfold lineW
  omega
/-- words with blanks behind them -/
def zipB (ws : List (List Nat)) (ks : List Nat) : List (List Nat) := (ws.zip ks).map fun p => p.1 ++ List.replicate p.2 32
theorem joinL_nil : ∀ l : List (List Nat), TL.joinL [] l = l.flatten
  | [] => rfl
  | [p] => by simp [TL.joinL]
  | p :: q :: r => by
    show p ++ ([] ++ TL.joinL [] (q :: r)) = _
    rw [List.nil_append, joinL_nil (q :: r)]
    rfl
theorem zip_spaced : ∀ (ws : List (List Nat)) (ks : List Nat), (zipB ws ks).flatten = TW.spaced (ws.zip ks)
  | [], _ => rfl
  | _ :: _, [] => rfl
  | w :: ws, k :: ks => by
    show (w ++ List.replicate k 32) ++ (zipB ws ks).flatten = w ++ (List.replicate k 32 ++ TW.spaced (ws.zip ks))
    rw [zip_spaced ws ks, List.append_assoc]
theorem zip_apart : ∀ (ws : List (List Nat)) (ks : List Nat), ws.length = ks.length → (∀ w ∈ ws, 32 ∉ w ∧ w ≠ []) → (∀ k ∈ ks, 1 ≤ k) → TW.Apart (ws.zip ks) ∧ (ws.zip ks).map (·.1) = ws
  | [], [], _, _, _ => ⟨trivial, rfl⟩
  | [], _ :: _, h, _, _ => by simp at h
  | _ :: _, [], h, _, _ => by simp at h
  | [w], [k], _, hw, hk => ⟨hw w List.mem_cons_self, rfl⟩
  | [w], _ :: _ :: _, h, _, _ => by simp at h
  | _ :: _ :: _, [k], h, _, _ => by simp at h
  | w :: v :: ws, k :: j :: ks, h, hw, hk => by
    obtain ⟨a, e⟩ := zip_apart (v :: ws) (j :: ks) (by simpa using h) (fun x hx => hw x (List.mem_cons_of_mem _ hx)) (fun x hx => hk x (List.mem_cons_of_mem _ hx))
    have h0 := hw w List.mem_cons_self
    refine ⟨⟨h0.1, h0.2, Nat.ne_of_gt (hk k List.mem_cons_self), a⟩, ?_⟩
    show w :: ((v :: ws).zip (j :: ks)).map (·.1) = _
    rw [e]
theorem spaced_mem {c : Nat} : ∀ {l : List (List Nat × Nat)}, c ∈ TW.spaced l → c = 32 ∨ ∃ p ∈ l, c ∈ p.1
  | [], h => by cases h
  | (w, n) :: r, h => by
    have h' : c ∈ w ++ (List.replicate n 32 ++ TW.spaced r) := h
    rcases List.mem_append.mp h' with h | h
    · exact .inr ⟨(w, n), List.mem_cons_self, h⟩
    · rcases List.mem_append.mp h with h | h
      · exact .inl (List.mem_replicate.mp h).2
      · rcases spaced_mem h with h | ⟨p, hp, h⟩
        · exact .inl h
        · exact .inr ⟨p, List.mem_cons_of_mem _ hp, h⟩
theorem spaced_len : ∀ {l : List (List Nat × Nat)}, (∀ p ∈ l, p.1.length ≤ 5 ∧ p.2 ≤ 4) → (TW.spaced l).length ≤ l.length * 9
  | [], _ => Nat.zero_le _
  | (w, n) :: r, h => by
    have ih := spaced_len (l := r) fun p hp => h p (List.mem_cons_of_mem _ hp)
    have h0 := h (w, n) List.mem_cons_self
    show (w ++ (List.replicate n 32 ++ TW.spaced r)).length ≤ _
    rw [List.length_append, List.length_append, List.length_replicate, List.length_cons, Nat.add_mul]
    have h1 : w.length ≤ 5 := h0.1
    have h2 : n ≤ 4 := h0.2
    omega
/-- steps with blank lines between -/
theorem steps_blank {B C : List Blk} {cs : List Cl} (h : Steps B cs C) : Steps B (.blank :: cs) C := .cons (.blank B) h
theorem steps_nb : ∀ {cs : List Cl} {B C : List Blk}, Steps B (cs.filter nb) C → Steps B cs C
  | [], _, _, h => h
  | .blank :: cs, _, _, h => steps_blank (steps_nb (by simpa [nb] using h))
  | .head n m :: cs, _, _, h => by
    rw [List.filter_cons_of_pos rfl] at h
    cases h with
    | cons a b => exact .cons a (steps_nb b)
  | .row r :: cs, _, _, h => by
    rw [List.filter_cons_of_pos rfl] at h
    cases h with
    | cons a b => exact .cons a (steps_nb b)
theorem steps_app {B C D : List Blk} {cs ds : List Cl} (h : Steps B cs C) (g : Steps C ds D) : Steps B (cs ++ ds) D := by
  induction h with
  | nil B => exact g
  | cons a _ ih => exact .cons a (ih g)
theorem steps_rows {B : List Blk} {n : Str} {m : Int} (hm : 1 ≤ m) : ∀ {rs done : List (List Int)}, (∀ r ∈ rs, RowOk r ∧ r.length = m.toNat) → (done ++ rs).Nodup →
    Steps (B ++ [(n, m, done)]) (rs.map .row) (B ++ [(n, m, done ++ rs)])
  | [], done, _, _ => by
    rw [List.append_nil]
    exact .nil _
  | r :: rs, done, h, nd => by
    have h0 := h r List.mem_cons_self
    have hr : r ∉ done := fun z => by
      rw [List.nodup_append] at nd
      exact nd.2.2 r z r List.mem_cons_self rfl
    refine .cons (.row h0.1 h0.2 hm hr) ?_
    have := steps_rows (B := B) (n := n) hm (rs := rs) (done := done ++ [r]) (fun x hx => h x (List.mem_cons_of_mem _ hx)) (by rw [List.append_assoc]; exact nd)
    rw [List.append_assoc] at this
    exact this
/-- blocks as they may be told -/
def FineB (B : List Blk) : Prop := (B.map (·.1)).Nodup ∧ ∀ b ∈ B, b.1 ∈ nm4 ∧ 1 ≤ b.2.1 ∧ b.2.1 ≤ 4 ∧ b.2.2.Nodup ∧ ∀ r ∈ b.2.2, RowOk r ∧ r.length = b.2.1.toNat
theorem steps_cls : ∀ {C B : List Blk}, FineB (B ++ C) → Steps B (clsB C) (B ++ C)
  | [], B, _ => by
    rw [List.append_nil]
    exact .nil _
  | b :: C, B, h => by
    obtain ⟨h1, h2⟩ := h
    obtain ⟨g1, g2, g3, g4, g5⟩ := h2 b (by simp)
    have hn : b.1 ∉ B.map (·.1) := fun z => by
      rw [List.map_append, List.nodup_append] at h1
      exact h1.2.2 b.1 z b.1 (by simp) rfl
    have s1 : Steps B (Cl.head b.1 b.2.1 :: b.2.2.map .row) (B ++ [b]) := by
      refine .cons (.head g1 g2 g3 hn) ?_
      have := steps_rows (B := B) (n := b.1) g2 (rs := b.2.2) (done := []) g5 (by simpa using g4)
      simpa using this
    have s2 := steps_cls (C := C) (B := B ++ [b]) (by rw [List.append_assoc]; exact ⟨h1, h2⟩)
    rw [List.append_assoc] at s2
    exact steps_app s1 s2
end LW

namespace LW
open PySem PySem.Spec PyProof.Rows L2 GL
abbrev s_law_loose : Stmt := topS 27
theorem sc_law_loose : FnScope ["bag", "tables", "lines", "name", "found", "line", "own", "words", "blanks", "many", "rows", "word", "row", "blank", "one"] ["bag", "tables"] (defScope s_law_loose) := ⟨rfl, rfl, rfl, by decide +kernel, rfl, by decide +kernel, by decide +kernel⟩
theorem ok_law_loose {P : Program} {w : World} {K : PySem.W.Frag} {mg : Str → Option Value} {base : Heap} (D : DefAt K mg "_law_loose" s_law_loose ["bag", "tables"]) (c__law_mixed : Cal P w K mg base 2 "_law_mixed" (spMixed K)) (c__law_some : Cal P w K mg base 2 "_law_some" (spSome K)) (c__law_take : Cal P w K mg base 1 "_law_take" spTake) (m_int : mg "int" = none) (m_list : mg "list" = none) (m_str : mg "str" = none) (m_zip : mg "zip" = none) :
    Cal P w K mg base 3 "_law_loose" (spLoose K) := by
  refine cal_mk D sc_law_loose (fun vs H Q E h => ?_) (fun f cdv A outer s H vs Q E hG hr h => ?_)
  · obtain ⟨b, c, d, ts, rfl, _⟩ := h; rfl
  have nd := sc_law_loose.nd
  obtain ⟨b, c, d, ts, rfl, hB, db, hT, g, qq⟩ := h
  refine ⟨_, (pss_cons (ps_set (i := 2) nd rfl (.inl rfl) (pe_lst pa_nil))
    (pss_cons (ps_for PassesOwn.never rfl (pi_list (pe_cg c__law_mixed (by exact hG) (by exact hr) (by decide) (by rfl) (pa_cons (pv 0) (pa_cons (pe_callTy (call_listD rfl) (by rfl) m_list (by decide +kernel) (pa_cons (pv 1) pa_nil)) pa_nil))) : PI _ _ _ (iList K _)) (pg_name (i := 3) nd rfl (.inl rfl)) (pss_cons (ps_asg (pe_dget (by exact Nat.lt_of_le_of_lt (Nat.add_le_add_left (by decide : 1 ≤ 64) _) hr.units) (pv 1) (pv 3) (fun _ _ => rfl)) (pg_tup rfl (pgs_cons (pg_name (i := 9) nd rfl (.inl rfl)) (pgs_cons (pg_name (i := 10) nd rfl (.inl rfl)) pgs_nil))))
    (pss_cons (ps_set (i := 6) nd rfl (.inl rfl) (pe_op op_cat (pe_lst (pa_cons (pe_op op_add_str (pe_op op_add_str (pe_op op_add_str pe_str (pv 3)) pe_str) (pe_callTy call_str_int (by rfl) m_str (by decide +kernel) (pa_cons (pv 9) pa_nil))) pa_nil)) (pe_lc (own := [("row", 12)]) (g := gName 12) (tt := tYes) (by rfl) nd (pi_list (pe_cg c__law_mixed (by exact hG) (by exact hr) (by decide) (by rfl) (pa_cons (pv 0) (pa_cons (pe_callTy call_list_of (by rfl) m_list (by decide +kernel) (pa_cons (pv 10) pa_nil)) pa_nil))) : PI _ _ _ (iList K _)) (blkOk_by (own := [("row", 12)]) (N := ["bag", "tables", "lines", "name", "found", "line", "own", "words", "blanks", "many", "rows", "word", "row", "blank", "one"]) (sc := (defScope s_law_loose)) (by decide +kernel)) (fun _ _ _ _ _ => (pg_name (i := 12) nd rfl (.inl rfl))) (fun _ _ _ _ _ => pts_nil) (fun _ _ _ _ _ => (pe_m1 PySem.F.slot_str_join PySem.F.type_str_join (mt_joinU : MtR _ "str.join" (rJoinU K)) pe_str (pe_lc (own := [("one", 14)]) (g := gName 14) (tt := tYes) (by rfl) nd (pi_tup (pv 12) : PI _ _ _ (iTup K _)) (blkOk_by (own := [("one", 14)]) (N := ["bag", "tables", "lines", "name", "found", "line", "own", "words", "blanks", "many", "rows", "word", "row", "blank", "one"]) (sc := (relS _ (defScope s_law_loose))) (by decide +kernel)) (fun _ _ _ _ _ => (pg_name (i := 14) nd rfl (.inl rfl))) (fun _ _ _ _ _ => pts_nil) (fun _ _ _ _ _ => (pe_callTy call_str_int (by rfl) m_str (by decide +kernel) (pa_cons (pv 14) pa_nil)))))))))
    (pss_one (ps_expr (pe_bm PySem.F.plainAttrs_list PySem.F.slot_list_extend PySem.F.type_list_extend mt_extend (pv 2) (pa_cons (pv 6) pa_nil)))))))
    (pss_cons (ps_set (i := 4) nd rfl (.inl rfl) (pe_lst pa_nil))
    (pss_cons (ps_for PassesOwn.never rfl (pi_list (pv 2) : PI _ _ _ (iList K _)) (pg_name (i := 5) nd rfl (.inl rfl)) (pss_cons (ps_set (i := 7) nd rfl (.inl rfl) (pe_split (pv 5) pe_str))
    (pss_cons (ps_setLc (i := 8) (own := [("word", 11)]) (g := gName 11) (tt := tYes) (by rfl) nd rfl rfl (sw_true rfl rfl rfl (by decide +kernel)) (pi_list (pv 7) : PI _ _ _ (iList K _)) (blkOk_by (own := [("word", 11)]) (N := ["bag", "tables", "lines", "name", "found", "line", "own", "words", "blanks", "many", "rows", "word", "row", "blank", "one"]) (sc := (defScope s_law_loose)) (by decide +kernel)) (fun _ _ _ _ _ => (pg_name (i := 11) nd rfl (.inl rfl))) (fun _ _ _ _ _ => pts_nil) (fun _ _ _ _ _ => (pe_cg c__law_some (by exact hG) (by exact hr) (by decide) (by rfl) (pa_cons (pv 0) (pa_cons (pe_lst (pa_cons pe_str (pa_cons pe_str (pa_cons pe_str (pa_cons pe_str pa_nil))))) pa_nil)))))
    (pss_cons (ps_set (i := 5) nd rfl (.inl rfl) (pe_m1 PySem.F.slot_str_join PySem.F.type_str_join (mt_joinU : MtR _ "str.join" (rJoinU K)) pe_str (pe_lc (own := [("word", 11), ("blank", 13)]) (g := gTup K 2 (gCons (gName 11) (gCons (gName 13) gNil))) (tt := tYes) (by rfl) nd (pi_zip (by rfl) m_zip (pa_cons (pv 7) (pa_cons (pv 8) pa_nil)) : PI _ _ _ (iZip K _)) (blkOk_by (own := [("word", 11), ("blank", 13)]) (N := ["bag", "tables", "lines", "name", "found", "line", "own", "words", "blanks", "many", "rows", "word", "row", "blank", "one"]) (sc := (defScope s_law_loose)) (by decide +kernel)) (fun _ _ _ _ _ => (pg_tup rfl (pgs_cons (pg_name (i := 11) nd rfl (.inl rfl)) (pgs_cons (pg_name (i := 13) nd rfl (.inl rfl)) pgs_nil)))) (fun _ _ _ _ _ => pts_nil) (fun _ _ _ _ _ => (pe_op op_add_str (pv 11) (pv 13))))))
    (pss_cons (ps_expr (pe_bm PySem.F.plainAttrs_list PySem.F.slot_list_append PySem.F.type_list_append mt_append (pv 4) (pa_cons (pe_op op_add_str (pe_op op_add_str (pe_cg c__law_some (by exact hG) (by exact hr) (by decide) (by rfl) (pa_cons (pv 0) (pa_cons (pe_lst (pa_cons pe_str (pa_cons pe_str (pa_cons pe_str (pa_cons pe_str pa_nil))))) pa_nil))) (pe_bm PySem.F.plainAttrs_str PySem.F.slot_str_rstrip PySem.F.type_str_rstrip mt_rstripChars (pv 5) (pa_cons pe_str pa_nil))) (pe_cg c__law_some (by exact hG) (by exact hr) (by decide) (by rfl) (pa_cons (pv 0) (pa_cons (pe_lst (pa_cons pe_str (pa_cons pe_str (pa_cons pe_str pa_nil)))) pa_nil)))) pa_nil)))
    (pss_one (ps_expr (pe_bm PySem.F.plainAttrs_list PySem.F.slot_list_extend PySem.F.type_list_extend mt_extend (pv 4) (pa_cons (pe_op op_rep (pe_lst (pa_cons (pe_cg c__law_some (by exact hG) (by exact hr) (by decide) (by rfl) (pa_cons (pv 0) (pa_cons (pe_lst (pa_cons pe_str (pa_cons pe_str pa_nil))) pa_nil))) pa_nil)) (pe_callTy call_int1 (by rfl) m_int (by decide +kernel) (pa_cons (pe_cmpR op_eq (pe_cg c__law_take (by exact hG) (by exact hr) (by decide) (by rfl) (pa_cons (pv 0) (pa_cons pe_int pa_nil))) pe_int (nomark _)) pa_nil))) pa_nil)))))))))
    (pss_one (ps_ret (pe_m1 PySem.F.slot_str_join PySem.F.type_str_join (mt_joinU : MtR _ "str.join" (rJoinU K)) pe_str (pv 4)))))))), ?_⟩
  have gn : (ts.map (·.1)).Nodup := g.1
  have gm : ∀ k ∈ ts.map (·.1), k ∈ nm4 := fun k hk => by
    obtain ⟨q, hq, rfl⟩ := List.mem_map.mp hk
    exact (g.2.2 q hq).1
  obtain ⟨kvs, hd, hk⟩ := hT
  refine ⟨Nat.zero_le _, fun p np => ?_⟩
  have pb := bag_ne hB np
  have k0 := Kp.new (b := b) (o := .lst []) np
  have B0 := hB.new (o := .lst []) np
  have hp0 : upd H p (.lst []) p = some (.lst []) := upd_same
  have hd0 := k0 _ _ db hd
  generalize upd H p (.lst []) = H0 at *
  refine ⟨.ref b, rfl, .ref d, rfl, d, kvs, rfl, .inl hd0, fun l nl => ?_⟩
  have ekeys : (kvs.map fun kv => kV kv.1) = (ts.map (·.1)).map V.str := by
    have := congrArg (List.map kV) hk.keys
    rw [List.map_map, List.map_map] at this
    rw [List.map_map]
    exact this
  rw [ekeys]
  have lb := bag_ne B0 nl
  refine ⟨b, c, l, _, rfl, B0.new nl, SqL.of upd_same, lb.1, by rw [List.length_map, List.length_map]; exact Nat.le_trans g.2.1 (by decide), fun q ys H1 pm k1 hB1 nq hq => ?_⟩
  obtain ⟨ns, e0, pns⟩ := perm_lift V.str ys (ts.map (·.1)) pm
  subst e0
  have kl := Kp.new (b := b) (o := .lst ((ts.map (·.1)).map V.str)) nl
  have K1 := (k0.trans kl).trans k1
  have nqH : H q = none := by
    cases e : H q with
    | none => rfl
    | some o =>
      by_cases z : q = b
      · obtain ⟨xs, hx⟩ := (B0.new (o := .lst ((ts.map (·.1)).map V.str)) nl).lst
        rw [z, hx] at nq
        cases nq
      · rw [(k0.trans kl) _ _ z e] at nq
        cases nq
  have npq : p ≠ q := fun z => by
    have := kl _ _ pb.1 hp0
    rw [z, nq] at this
    cases this
  have hp1 := k1 _ _ pb.1 (kl _ _ pb.1 hp0)
  have qb := bag_ne (hB.new (o := .lst []) np) (show upd H p (.lst []) q = none by rw [upd_ne npq.symm]; exact nqH)
  refine ⟨q, rfl, ⟨_, SqL.of hq⟩, ?_⟩
  have lns : ns.length ≤ 3 := by rw [pns.length_eq, List.length_map]; exact g.2.1
  refine for_list (K := K) (a := q) (xs := ns.map V.str) (fun i σ G => ∃ (y3 y4 y5 y6 y7 y8 y9 y10 y11 y12 y13 y14 : Option V) (B : List Blk), σ = [some (.ref b), some (.ref d), some (.ref p), y3, y4, y5, y6, y7, y8, y9, y10, y11, y12, y13, y14] ∧
      Kp b H G ∧ Bag G b c ∧ G q = some (.lst (ns.map V.str)) ∧ G p = some (.lst ((linesB B).map lV)) ∧ B.map (·.1) = ns.take i ∧ ∀ u ∈ B, u.2.1 = (tabOf ts u.1).1 ∧ u.2.2.Perm (tabOf ts u.1).2)
    ⟨none, none, none, none, none, none, none, none, none, none, none, none, [], rfl, K1, hB1, hq, hp1, rfl, fun u hu => (nomatch hu)⟩ (fun i σ G _ hp => ?_) (fun i x σ G hx hp => ?_) (fun σ G hp => ?_)
  · obtain ⟨_, _, _, _, _, _, _, _, _, _, _, _, _, _, _, _, h, _⟩ := hp
    exact SqL.of h
  · clear hp0 hp1 K1 hB1 hq k1 kl k0 B0 hd0
    obtain ⟨y3, y4, y5, y6, y7, y8, y9, y10, y11, y12, y13, y14, B, rfl, k, hBG, hq, hl, en, hall⟩ := hp
    rw [List.getElem?_map] at hx
    obtain ⟨n, hn, rfl⟩ := Option.map_eq_some_iff.mp hx
    have hnm : n ∈ ts.map (·.1) := pns.mem_iff.mp (List.mem_of_getElem? hn)
    obtain ⟨v, hv, ⟨t, a, bs, rfl, tab, ebs⟩, hin⟩ := kv_get hk hnm
    obtain ⟨gn4, gt⟩ := g.2.2 _ hin
    have tab1 := tab.mono (bag_tk hB k)
    have dg : DGet G d (.str n) (some (.ref t)) := by
      have := DGet.k (k := (.inr n)) (k _ _ db hd)
      rw [hv] at this
      exact this
    have g1 : 1 ≤ (tabOf ts n).1 := gt.1
    have g4 : (tabOf ts n).1 ≤ 4 := gt.2.1
    have hw := wI_ok (tabOf ts n).1 (small_cases ⟨by omega, by omega⟩)
    have l1 : (Str.ofString "table ").length = 6 := by decide +kernel
    have l2 := (nm_len n gn4).1
    have l3 : (Str.ofString " ").length = 1 := by decide +kernel
    have l4 : (iS (tabOf ts n).1).length ≤ 2 := by rw [TL.len_tl]; exact hw.2.2.2.1
    refine ⟨.ref d, rfl, .str n, rfl, d, .ref t, rfl, dg, t, _, rfl, tab1.1, rfl, .int (tabOf ts n).1, [.ref a], rfl, .ref a, [], rfl, rfl, ?_⟩
    refine ⟨.str n, rfl, _, _, rfl, rfl, by rw [l1]; exact Nat.le_trans (Nat.add_le_add_left l2 6) (by decide), _, _, rfl, rfl, by rw [len_cat, l1, l3]; exact Nat.le_trans (Nat.add_le_add_right (Nat.add_le_add_left l2 6) 1) (by decide),
      .int (tabOf ts n).1, rfl, _, rfl, hw.2.2.2.2, _, _, rfl, rfl, ?_, ?_⟩
    · show _ + (iS (tabOf ts n).1).length ≤ sizeLine
      rw [len_cat, len_cat, l1, l3]
      exact Nat.le_trans (show 6 + n.length + 1 + (iS (tabOf ts n).1).length ≤ 14 by omega) (by decide)
    rw [show Str.ofString "table " ++ n ++ Str.ofString " " ++ Str.ofString (toString (tabOf ts n).1) = SX.S (headL n (tabOf ts n).1) from head_str n _]
    refine ⟨by show 1 ≤ sizeLine; decide, fun h1 nh1 => ?_⟩
    have kh := Kp.new (b := b) (o := .lst [V.str (SX.S (headL n (tabOf ts n).1))]) nh1
    have Bh := hBG.new (o := .lst [V.str (SX.S (headL n (tabOf ts n).1))]) nh1
    have hh1 : upd G h1 (.lst [V.str (SX.S (headL n (tabOf ts n).1))]) h1 = some (.lst [V.str (SX.S (headL n (tabOf ts n).1))]) := upd_same
    have h1b := bag_ne hBG nh1
    have hqh := kh _ _ qb.1 hq
    have hlh := kh _ _ pb.1 hl
    have kG := k.trans kh
    generalize upd G h1 (.lst [V.str (SX.S (headL n (tabOf ts n).1))]) = G1 at *
    have tab2 := tab.mono (bag_tk hB kG)
    have lbs : bs.length ≤ 8 := by
      have := gt.2.2.2.1
      rw [← ebs, List.length_map] at this
      exact this
    refine ⟨.ref b, rfl, .ref a, rfl, a, _, rfl, .inr tab2.2.1, fun l2 nl2 => ?_⟩
    have l2b := bag_ne Bh nl2
    have k2 := Kp.new (b := b) (o := .lst (bs.map (·.1))) nl2
    refine ⟨b, c, l2, _, rfl, Bh.new nl2, SqL.of upd_same, l2b.1, by rw [List.length_map]; omega, fun p3 zs G3 pm3 k3 B3 np3 hp3 => ?_⟩
    obtain ⟨bs', e3, pbs⟩ := perm_lift (·.1) zs bs pm3
    subst e3
    have K3 := kG.trans (k2.trans k3)
    have hq3 := (k2.trans k3) _ _ qb.1 hqh
    have hl3 := (k2.trans k3) _ _ pb.1 hlh
    have hh3 := (k2.trans k3) _ _ h1b.1 hh1
    have tab3 := tab.mono (bag_tk hB K3)
    have lbs' : bs'.length ≤ 8 := by rw [pbs.length_eq]; exact lbs
    refine ⟨p3, rfl, ⟨_, SqL.of hp3⟩, fun D nD => ?_⟩
    refine lcg_list (K := K) (Y := YS) (out := fun i => (bs'[i]?).bind fun b => some (SX.S (rowL b.2))) (LcG.pure nD) (fun _ _ _ _ _ h => h) (fun H5 k5 => SqL.of (k5 _ _ hp3)) (by rw [List.length_map]; omega) (fun i x H1 hx k1 _ => ?_) (fun H1 acc ys k1 _ hD ea eb => ?_)
    · obtain ⟨u, hb, rfl, hm'⟩ := get_fst hx
      have hm : u ∈ bs := pbs.mem_iff.mp hm'
      intro Qe Qn hE hN
      obtain ⟨tb, et, hb1⟩ := (tab3.2.2 u hm).mono (TupK.same k1)
      have hR : RowOk u.2 := GoodT.rowOk gt u.2 (by show u.2 ∈ (tabOf ts n).2; rw [← ebs]; exact List.mem_map.mpr ⟨u, hm, rfl⟩)
      refine ⟨rfl, ⟨_, rfl⟩, u.1, rfl, tb, et, ⟨_, hb1⟩, fun D2 n2 => ?_⟩
      refine lcg_tup (K := K) (Y := YS) (out := fun i => (u.2[i]?).bind fun v => some (iS v)) (LcG.pure n2) (fun _ _ _ _ _ h => h) hb1 (by rw [List.length_map]; have := hR.2.1; omega) (fun i x H3 hx k3 _ => ?_) (fun H3 acc zs k3 _ hD2 ea2 eb2 => ?_)
      · rw [List.getElem?_map] at hx
        obtain ⟨v, hv2, rfl⟩ := Option.map_eq_some_iff.mp hx
        have hw2 := hR.w v (List.mem_of_getElem? hv2)
        intro Re Rn hE2 hN2
        exact ⟨rfl, .int v, rfl, v, rfl, hw2.2.2.2.2, hE2 _ H3 (iS v) (by simp [hv2]) (Same.refl _) trivial rfl⟩
      · rw [List.length_map, fm_all] at eb2
        have e2 := ys_all ea2
        subst e2
        have ey : zs = u.2.map iS := by
          rw [eb2]
          exact List.filterMap_eq_map ▸ rfl
        have eS : u.2.map iS = (u.2.map wI).map SX.S := by
          rw [List.map_map]
          exact List.map_congr_left fun v _ => (SX.S_tl _).symm
        refine ⟨Str.ofString " ", D2, zs, rfl, rfl, .inl (SqL.of hD2), ?_, ?_⟩
        · have h1 : (zs.map (·.length)).sum ≤ (zs.map (·.length)).length * 2 := by
            refine sum_le fun x hx => ?_
            rw [ey, List.map_map] at hx
            obtain ⟨v, hv, rfl⟩ := List.mem_map.mp hx
            have := (hR.w v hv).2.2.2.1
            show (iS v).length ≤ 2
            rw [TL.len_tl]
            exact this
          have h2 : zs.length ≤ 4 := by rw [ey, List.length_map]; exact hR.2.1
          rw [List.length_map] at h1
          rw [l3]
          omega
        · have e : Txt.join (Str.ofString " ") zs = SX.S (rowL u.2) := by
            rw [ey, eS]
            have : (Str.ofString " ") = SX.S [32] := by decide +kernel
            rw [this, SX.join_S]
            rfl
          rw [e]
          exact hE _ H3 _ (by simp [hb]) k3 trivial rfl
    · rw [List.length_map, fm_all] at eb
      have e2 := ys_all ea
      subst e2
      have ey : ys.map V.str = ((bs'.map (·.2)).map rowL).map lV := by
        rw [eb, show bs'.filterMap (fun b => some (SX.S (rowL b.2))) = bs'.map (fun b => SX.S (rowL b.2)) from List.filterMap_eq_map ▸ rfl]
        rw [List.map_map, List.map_map, List.map_map]
        rfl
      have ly : (ys.map V.str).length ≤ 8 := by
        rw [eb, List.length_map]
        exact Nat.le_trans (List.length_filterMap_le _ _) lbs'
      refine ⟨h1, D, _, _, rfl, rfl, k1 _ _ hh3, hD, Nat.le_trans (Nat.add_le_add_left ly 1) (by decide), fun o1 no1 => ?_⟩
      have k4 := Kp.new (b := b) (o := .lst ([V.str (SX.S (headL n (tabOf ts n).1))] ++ ys.map V.str)) no1
      have hl4 := k4 _ _ pb.1 (k1 _ _ hl3)
      have hq4 := k4 _ _ qb.1 (k1 _ _ hq3)
      have nlB : ((linesB B).map lV).length ≤ 27 := by
        have h9 : ∀ C : List Blk, (∀ u ∈ C, u.2.2.length ≤ 8) → (linesB C).length ≤ C.length * 9 := by
          intro C
          induction C with
          | nil => intro _; exact Nat.zero_le _
          | cons u C ih =>
            intro h
            have h1 := ih fun v hv => h v (List.mem_cons_of_mem _ hv)
            have h2 := h u List.mem_cons_self
            show ((headL u.1 u.2.1 :: u.2.2.map rowL) ++ linesB C).length ≤ _
            rw [List.length_append, List.length_cons, List.length_cons, List.length_map, Nat.add_mul]
            omega
        have h3 := h9 B fun u hu => by
          have hun : u.1 ∈ ts.map (·.1) := by
            have : u.1 ∈ ns.take i := by rw [← en]; exact List.mem_map.mpr ⟨u, hu, rfl⟩
            exact pns.mem_iff.mp (List.mem_of_mem_take this)
          obtain ⟨_, _, _, hin2⟩ := kv_get hk hun
          rw [(hall u hu).2.length_eq]
          exact (g.2.2 _ hin2).2.2.2.2.1
        have h4 : B.length ≤ 3 := by
          have := congrArg List.length en
          rw [List.length_map, List.length_take] at this
          omega
        rw [List.length_map]
        omega
      refine ⟨.ref p, rfl, .inl ⟨rfl, _, SqL.of hl4⟩, .ref o1, rfl, p, o1, _, _, rfl, rfl, hl4, upd_same, by rw [List.length_append]; exact Nat.le_trans (Nat.add_le_add nlB (Nat.add_le_add (Nat.le_refl 1) ly)) (by decide), ?_⟩
      have KK := (K3.trans (Kp.of k1)).trans k4
      have npK : H p = none := np
      refine ⟨_, _, _, _, _, _, _, _, _, _, _, _, B ++ [(n, (tabOf ts n).1, bs'.map (·.2))], rfl, kp_upd KK npK, ((B3.same k1).new no1).other pb.1 pb.2, ?_, ?_, ?_, fun u hu => ?_⟩
      · rw [upd_ne npq.symm]
        exact hq4
      · rw [upd_same, ey]
        congr 2
        unfold linesB
        rw [List.flatMap_append, List.map_append]
        simp [lV]
      · rw [List.map_append, en, List.take_add_one, hn]
        rfl
      · rcases List.mem_append.mp hu with hu | hu
        · exact hall u hu
        · rw [List.mem_singleton.mp hu]
          refine ⟨rfl, ?_⟩
          have : bs.map (·.2) = (tabOf ts n).2 := ebs
          show (bs'.map (·.2)).Perm (tabOf ts n).2
          rw [← this]
          exact pbs.map _
  · obtain ⟨y3, y4, y5, y6, y7, y8, y9, y10, y11, y12, y13, y14, B, rfl, k, hBG, hq, hl, en, hall⟩ := hp
    rw [List.length_map, List.take_of_length_le (Nat.le_refl _)] at en
    clear hp0 hp1 K1 hB1 k1 kl k0 B0 hd0
    have fine : FineB B := by
      refine ⟨by rw [en]; exact pns.nodup_iff.mpr gn, fun u hu => ?_⟩
      have hun : u.1 ∈ ts.map (·.1) := by
        have : u.1 ∈ ns := by rw [← en]; exact List.mem_map.mpr ⟨u, hu, rfl⟩
        exact pns.mem_iff.mp this
      obtain ⟨_, _, _, hin2⟩ := kv_get hk hun
      obtain ⟨g4, gt⟩ := g.2.2 _ hin2
      have hm := (hall u hu).1
      have hr := (hall u hu).2
      refine ⟨g4, by rw [hm]; exact gt.1, by rw [hm]; exact gt.2.1, hr.nodup_iff.mpr (K2.Lot.nodup gt.2.2.1), fun r hr2 => ?_⟩
      have hr3 := hr.mem_iff.mp hr2
      exact ⟨GoodT.rowOk gt r hr3, by rw [hm]; exact (gt.2.2.2.2 r hr3).1⟩
    have goods : ∀ x ∈ clsB B, GoodC x := by
      intro x hx
      obtain ⟨u, hu, hx⟩ := List.mem_flatMap.mp hx
      obtain ⟨f1, f2, f3, _, f5⟩ := fine.2 u hu
      rcases List.mem_cons.mp hx with rfl | hx
      · exact ⟨f1, f2, f3⟩
      · obtain ⟨r, hr, rfl⟩ := List.mem_map.mp hx
        exact (f5 r hr).1
    have nlB : (clsB B).length ≤ 27 := by
      have h9 : ∀ C : List Blk, (∀ u ∈ C, u.2.2.length ≤ 8) → (clsB C).length ≤ C.length * 9 := by
        intro C
        induction C with
        | nil => intro _; exact Nat.zero_le _
        | cons u C ih =>
          intro h
          have h1 := ih fun v hv => h v (List.mem_cons_of_mem _ hv)
          have h2 := h u List.mem_cons_self
          show ((Cl.head u.1 u.2.1 :: u.2.2.map Cl.row) ++ clsB C).length ≤ _
          rw [List.length_append, List.length_cons, List.length_cons, List.length_map, Nat.add_mul]
          omega
      have h3 := h9 B fun u hu => by
        have hun : u.1 ∈ ts.map (·.1) := by
          have : u.1 ∈ ns := by rw [← en]; exact List.mem_map.mpr ⟨u, hu, rfl⟩
          exact pns.mem_iff.mp this
        obtain ⟨_, _, _, hin2⟩ := kv_get hk hun
        rw [(hall u hu).2.length_eq]
        exact (g.2.2 _ hin2).2.2.2.2.1
      have h4 : B.length ≤ 3 := by
        have := congrArg List.length en
        rw [List.length_map] at this
        omega
      omega
    have cl0 := steps_cls (B := []) (C := B) fine
    rw [List.nil_append] at cl0
    have blk : BlkOf ts B := ⟨by rw [en]; exact pns, hall⟩
    generalize eC : clsB B = CS at *
    have hl' : G p = some (.lst (CS.map fun x => lV (lineW x))) := by
      rw [hl, lines_cls, eC, List.map_map]
      rfl
    clear hl hall en pns
    refine ⟨Nat.zero_le _, fun f nf => ?_⟩
    have fb := bag_ne hBG nf
    have Bf := hBG.new (o := .lst []) nf
    have kf := k.trans (Kp.new (b := b) (o := .lst []) nf)
    have hpf := Kp.new (b := b) (o := .lst []) nf _ _ pb.1 hl'
    have hff : upd G f (.lst []) f = some (.lst []) := upd_same
    have nfH : H f = none := by
      cases e : H f with
      | none => rfl
      | some o => rw [k _ _ fb.1 e] at nf; cases nf
    have npf : p ≠ f := fun z => by rw [← z, hl'] at nf; cases nf
    generalize upd G f (.lst []) = Gf at *
    refine ⟨.ref p, rfl, p, rfl, ⟨_, SqL.of hpf⟩, ?_⟩
    refine for_list (K := K) (a := p) (xs := CS.map fun x => lV (lineW x)) (fun i σ G => ∃ (y3 y5 y6 y7 y8 y9 y10 y11 y12 y13 y14 : Option V) (fl : List (List Nat)) (cls : List Cl), σ = [some (.ref b), some (.ref d), some (.ref p), y3, some (.ref f), y5, y6, y7, y8, y9, y10, y11, y12, y13, y14] ∧
        Kp b H G ∧ Bag G b c ∧ G p = some (.lst (CS.map fun x => lV (lineW x))) ∧ G f = some (.lst (fl.map lV)) ∧ fl.map TW.words = cls.map clW ∧ cls.filter nb = CS.take i ∧ (∀ l ∈ fl, 10 ∉ l ∧ l.length ≤ 100) ∧ fl.length ≤ 2 * i)
      ⟨y3, y5, y6, y7, y8, y9, y10, y11, y12, y13, y14, [], [], rfl, kf, Bf, hpf, hff, rfl, rfl, fun l hl => (nomatch hl), Nat.zero_le _⟩ (fun i σ G _ hp => ?_) (fun i x σ G hx hp => ?_) (fun σ G hp => ?_)
    · obtain ⟨_, _, _, _, _, _, _, _, _, _, _, _, _, _, _, _, h, _⟩ := hp
      exact SqL.of h
    · clear hpf hff kf Bf hq hBG k hl' nf
      obtain ⟨y3, y5, y6, y7, y8, y9, y10, y11, y12, y13, y14, fl, cls, rfl, k, BG, hp, hf, hw, hc, hl, ln⟩ := hp
      rw [List.getElem?_map] at hx
      obtain ⟨cx, hcx, rfl⟩ := Option.map_eq_some_iff.mp hx
      have gx := goods cx (List.mem_of_getElem? hcx)
      have hi : i < CS.length := (List.getElem?_eq_some_iff.mp hcx).1
      obtain ⟨w1, w2, w3⟩ := goodC_w gx
      have ll := line_len gx
      refine ⟨lV (lineW cx), rfl, ⟨_, rfl⟩, SX.S (lineW cx), Str.ofString " ", rfl, rfl, by decide +kernel, ?_, fun wd nwd => ?_⟩
      · rw [SX.S_len]
        exact Nat.le_trans (Nat.add_le_add_right ll 2) (by decide)
      have e1 : (Txt.split (SX.S (lineW cx)) (Str.ofString " ")).map V.str = (clW cx).map lV := by
        have e : (Str.ofString " ") = SX.S [32] := by decide +kernel
        rw [e, SX.split_S (by simp) (by decide), ← cut_line gx, List.map_map]
        rfl
      rw [e1]
      have wb := bag_ne BG nwd
      have k1 := k.trans (Kp.new (b := b) (o := .lst ((clW cx).map lV)) nwd)
      have B1 := BG.new (o := .lst ((clW cx).map lV)) nwd
      have hwd : upd G wd (.lst ((clW cx).map lV)) wd = some (.lst ((clW cx).map lV)) := upd_same
      have hp1 := Kp.new (b := b) (o := .lst ((clW cx).map lV)) nwd _ _ pb.1 hp
      have hf1 := Kp.new (b := b) (o := .lst ((clW cx).map lV)) nwd _ _ fb.1 hf
      generalize upd G wd (.lst ((clW cx).map lV)) = G1 at *
      refine ⟨.ref wd, rfl, wd, rfl, ⟨_, SqL.of hwd⟩, fun D nD => ?_⟩
      have Db := bag_ne B1 nD
      refine lcd_list (K := K) (xs := (clW cx).map lV) (Y := fun _ v j => v = lV (List.replicate j 32) ∧ 1 ≤ j ∧ j ≤ 4) (LcG.draw nD B1) (fun _ _ _ _ _ h => h) (fun H4 k4 => SqL.of (k4 _ _ wb.1 hwd)) (by rw [List.length_map]; omega) (fun i x H4 hx k4 hB4 => ?_) (fun H4 acc ks k4 hB4 hD ea el => ?_)
      · intro Qe Qn hE
        refine ⟨rfl, .ref b, rfl, (by show 4 ≤ sizeLine; decide), fun l nl => ?_⟩
        refine ⟨b, c, l, _, rfl, hB4.new nl, .inl ⟨SqL.of upd_same, (bag_ne hB4 nl).1⟩, (by intro z; cases z), (by show 4 < 1000000; decide), fun x H5 hx k5 hB5 => ?_⟩
        have kx := (Kp.new (b := b) (o := .lst [V.str (Str.ofString " "), V.str (Str.ofString " "), V.str (Str.ofString "  "), V.str (Str.ofString "    ")]) nl).trans k5
        simp only [List.mem_cons, List.not_mem_nil, or_false] at hx
        have b1 : V.str (Str.ofString " ") = lV (List.replicate 1 32) := by decide +kernel
        have b2 : V.str (Str.ofString "  ") = lV (List.replicate 2 32) := by decide +kernel
        have b4 : V.str (Str.ofString "    ") = lV (List.replicate 4 32) := by decide +kernel
        rcases hx with rfl | rfl | rfl | rfl
        · exact hE _ H5 1 kx hB5 ⟨b1, by decide, by decide⟩
        · exact hE _ H5 1 kx hB5 ⟨b1, by decide, by decide⟩
        · exact hE _ H5 2 kx hB5 ⟨b2, by decide, by decide⟩
        · exact hE _ H5 4 kx hB5 ⟨b4, by decide, by decide⟩
      · obtain ⟨ek, hks⟩ := kl_all ea
        subst ek
        rw [List.length_map] at el
        have lks : ks.length ≤ 4 := by omega
        have hwd4 := k4 _ _ wb.1 hwd
        have hp4 := k4 _ _ pb.1 hp1
        have hf4 := k4 _ _ fb.1 hf1
        have kk4 := k1.trans k4
        refine ⟨Str.ofString "" |> fun _ => ⟨_, rfl⟩, .ref wd, rfl, .ref D, rfl, wd, D, _, _, rfl, SqL.of hwd4, SqL.of hD, fun D2 nD2 => ?_⟩
        have lz : (zipB (clW cx) ks).length = (clW cx).length := by
          unfold zipB
          rw [List.length_map, List.length_zip]
          omega
        refine lc_it (walk_zip (K := K) (a := wd) (b := D) (n := (clW cx).length) (xs := (clW cx).map lV) (ys := ks.map fun j => lV (List.replicate j 32)) (by rw [List.length_map, List.length_map]; omega))
          (fun i F => Same H4 F ∧ F D2 = some (.lst (((zipB (clW cx) ks).take i).map lV))) ⟨put_new nD2 _, upd_same⟩ (fun i F _ h => ⟨SqL.of (h.1 _ _ hwd4), SqL.of (h.1 _ _ hD)⟩) (fun i x F F' hi hF hy => ?_) (fun F hF => ?_)
        · obtain ⟨kF, hD2⟩ := hF
          obtain ⟨t0, x0, x1, rfl, nt, rfl, ex0, ex1⟩ := hy
          have ex0' : ((clW cx).map lV)[i]? = some x0 := ex0
          have ex1' : (ks.map fun j => lV (List.replicate j 32))[i]? = some x1 := ex1
          rw [List.getElem?_map, List.getElem?_eq_getElem hi] at ex0'
          cases ex0'
          have hik : i < ks.length := by omega
          rw [List.getElem?_map, List.getElem?_eq_getElem hik] at ex1'
          cases ex1'
          have kt := put_new nt (.tup [lV (clW cx)[i], lV (List.replicate ks[i] 32)])
          refine ⟨t0, _, rfl, SqT.of upd_same, rfl, lV (clW cx)[i], [lV (List.replicate ks[i] 32)], rfl, lV (List.replicate ks[i] 32), [], rfl, rfl, rfl, ?_⟩
          have hw5 := (w3 _ (List.getElem_mem (h := hi))).2.2.2
          have hk5 := (hks _ (List.getElem_mem (h := hik))).2
          refine ⟨lV (clW cx)[i], rfl, lV (List.replicate ks[i] 32), rfl, _, _, rfl, rfl, ?_, _, kt _ _ hD2, ?_, ?_, ?_⟩
          · rw [SX.S_len, SX.S_len, List.length_replicate]
            exact Nat.le_trans (show _ ≤ 9 by omega) (by decide)
          · rw [List.length_map, List.length_take]
            exact small1000 (by omega)
          · exact fun q o e => by
              rw [upd_ne (ne_of_none e nD2)]
              exact kt _ _ (kF _ _ e)
          · rw [upd_same]
            congr 2
            rw [List.take_add_one, List.getElem?_eq_getElem (by omega), List.map_append]
            unfold zipB
            simp [lV, SX.S_cat]
        · obtain ⟨kF, hD2⟩ := hF
          rw [List.take_of_length_le (by omega)] at hD2
          have ap := zip_apart (clW cx) ks (by omega) (fun w hw => ⟨(w3 w hw).1, (w3 w hw).2.2.1⟩) (fun j hj => (hks j hj).1)
          have lsp : (TW.spaced ((clW cx).zip ks)).length ≤ 36 := by
            refine Nat.le_trans (spaced_len fun q hq => ?_) (by rw [List.length_zip]; omega)
            have := List.of_mem_zip hq
            exact ⟨(w3 _ this.1).2.2.2, (hks _ this.2).2⟩
          refine ⟨Str.ofString "", D2, (zipB (clW cx) ks).map SX.S, rfl, rfl, .inl (SqL.of ?_), ?_, ?_⟩
          · rw [List.map_map]
            exact hD2
          · have l0 : (Str.ofString "").length = 0 := by decide +kernel
            rw [l0, SX.lens, Nat.mul_zero, Nat.add_zero]
            have := zip_spaced (clW cx) ks
            have e2 := congrArg List.length this
            rw [List.length_flatten] at e2
            rw [e2]
            omega
          have ej : Txt.join (Str.ofString "") ((zipB (clW cx) ks).map SX.S) = SX.S (TW.spaced ((clW cx).zip ks)) := by
            have e : (Str.ofString "") = SX.S [] := by decide +kernel
            rw [e, SX.join_S, joinL_nil, zip_spaced]
          rw [ej]
          have hpF := kF _ _ hp4
          have hfF := kF _ _ hf4
          have BF := hB4.same kF
          have kkF := kk4.trans (Kp.of kF)
          have ewd : TW.words (TW.spaced ((clW cx).zip ks)) = clW cx := by rw [TW.words_spaced ap.1, ap.2]
          have n10 : 10 ∉ TW.spaced ((clW cx).zip ks) := fun z => by
            rcases spaced_mem z with z | ⟨q, hq, z⟩
            · cases z
            · exact (w3 _ (List.of_mem_zip hq).1).2.1 z
          generalize TW.spaced ((clW cx).zip ks) = sp at *
          obtain ⟨R, kz, eR, esp⟩ := TW.rstrip_S sp
          have e32 : (Str.ofString " ") = SX.S [32] := by decide +kernel
          have b0 : V.str (Str.ofString "") = lV (List.replicate 0 32) := by decide +kernel
          have b1 : V.str (Str.ofString " ") = lV (List.replicate 1 32) := by decide +kernel
          have b2 : V.str (Str.ofString "  ") = lV (List.replicate 2 32) := by decide +kernel
          have b3 : V.str (Str.ofString "   ") = lV (List.replicate 3 32) := by decide +kernel
          have lR : R.length ≤ 36 := by
            have := congrArg List.length esp
            rw [List.length_append] at this
            omega
          have wR : TW.words R = clW cx := by rw [← ewd, esp, TW.words_tail]
          have nR : 10 ∉ R := fun z => n10 (by rw [esp]; exact List.mem_append_left _ z)
          refine ⟨.ref f, rfl, .inl ⟨rfl, _, SqL.of hfF⟩, .ref b, rfl, (by show 4 ≤ sizeLine; decide), fun l1 nl1 => ?_⟩
          refine ⟨b, c, l1, _, rfl, BF.new nl1, .inl ⟨SqL.of upd_same, (bag_ne BF nl1).1⟩, (by intro z; cases z), (by show 4 < 1000000; decide), fun x H5 hx k5 B5 => ?_⟩
          have K5 := kkF.trans ((Kp.new (b := b) nl1).trans k5)
          have hp5 := k5 _ _ pb.1 (Kp.new (b := b) nl1 _ _ pb.1 hpF)
          have hf5 := k5 _ _ fb.1 (Kp.new (b := b) nl1 _ _ fb.1 hfF)
          obtain ⟨a0, la0, rfl⟩ : ∃ a0, a0 ≤ 3 ∧ x = lV (List.replicate a0 32) := by
            simp only [List.mem_cons, List.not_mem_nil, or_false] at hx
            rcases hx with e | e | e | e
            · exact ⟨0, by decide, e.trans b0⟩
            · exact ⟨0, by decide, e.trans b0⟩
            · exact ⟨1, by decide, e.trans b1⟩
            · exact ⟨3, by decide, e.trans b3⟩
          refine ⟨.str (SX.S sp), rfl, rfl, SX.S sp, Str.ofString " ", rfl, rfl, by rw [SX.S_len]; exact Nat.le_trans lsp (by decide), ?_⟩
          rw [e32, eR]
          refine ⟨_, _, rfl, rfl, by rw [SX.S_len, SX.S_len, List.length_replicate]; exact Nat.le_trans (show _ ≤ 39 by omega) (by decide), ?_⟩
          refine ⟨.ref b, rfl, (by show 3 ≤ sizeLine; decide), fun l2 nl2 => ?_⟩
          refine ⟨b, c, l2, _, rfl, B5.new nl2, .inl ⟨SqL.of upd_same, (bag_ne B5 nl2).1⟩, (by intro z; cases z), (by show 3 < 1000000; decide), fun x2 H6 hx2 k6 B6 => ?_⟩
          have K6 := K5.trans ((Kp.new (b := b) nl2).trans k6)
          have hp6 := k6 _ _ pb.1 (Kp.new (b := b) nl2 _ _ pb.1 hp5)
          have hf6 := k6 _ _ fb.1 (Kp.new (b := b) nl2 _ _ fb.1 hf5)
          obtain ⟨z0, lz0, rfl⟩ : ∃ a0, a0 ≤ 3 ∧ x2 = lV (List.replicate a0 32) := by
            simp only [List.mem_cons, List.not_mem_nil, or_false] at hx2
            rcases hx2 with e | e | e
            · exact ⟨0, by decide, e.trans b0⟩
            · exact ⟨0, by decide, e.trans b0⟩
            · exact ⟨2, by decide, e.trans b2⟩
          refine ⟨_, _, rfl, rfl, ?_, ?_⟩
          · rw [SX.S_cat, SX.S_len, SX.S_len, List.length_append, List.length_replicate, List.length_replicate]
            exact Nat.le_trans (show _ ≤ 42 by omega) (by decide)
          rw [SX.S_cat, SX.S_cat]
          have wT : TW.words (List.replicate a0 32 ++ R ++ List.replicate z0 32) = clW cx := by
            rw [TW.words_tail, TW.words_blanks, wR]
          have nT : 10 ∉ List.replicate a0 32 ++ R ++ List.replicate z0 32 := fun z => by
            rcases List.mem_append.mp z with z | z
            · rcases List.mem_append.mp z with z | z
              · cases (List.mem_replicate.mp z).2
              · exact nR z
            · cases (List.mem_replicate.mp z).2
          have lT : (List.replicate a0 32 ++ R ++ List.replicate z0 32).length ≤ 100 := by
            rw [List.length_append, List.length_append, List.length_replicate, List.length_replicate]
            omega
          generalize List.replicate a0 32 ++ R ++ List.replicate z0 32 = TX at *
          refine ⟨f, _, _, rfl, rfl, hf6, by rw [List.length_map]; exact small1000 (by omega), ?_⟩
          have K7 : Kp b H (upd H6 f (.lst (fl.map lV ++ [V.str (SX.S TX)]))) := kp_upd K6 nfH
          have B7 : Bag (upd H6 f (.lst (fl.map lV ++ [V.str (SX.S TX)]))) b c := B6.other fb.1 fb.2
          have hp7 : upd H6 f (.lst (fl.map lV ++ [V.str (SX.S TX)])) p = some (.lst (CS.map fun x => lV (lineW x))) := by rw [upd_ne npf]; exact hp6
          have hf7 : upd H6 f (.lst (fl.map lV ++ [V.str (SX.S TX)])) f = some (.lst (fl.map lV ++ [V.str (SX.S TX)])) := upd_same
          generalize upd H6 f (.lst (fl.map lV ++ [V.str (SX.S TX)])) = H7 at *
          refine ⟨.ref f, rfl, .inl ⟨rfl, _, SqL.of hf7⟩, .ref b, rfl, (by show 2 ≤ sizeLine; decide), fun l3 nl3 => ?_⟩
          refine ⟨b, c, l3, _, rfl, B7.new nl3, .inl ⟨SqL.of upd_same, (bag_ne B7 nl3).1⟩, (by intro z; cases z), (by show 2 < 1000000; decide), fun x3 H8 hx3 k8 B8 => ?_⟩
          have K8 := K7.trans ((Kp.new (b := b) nl3).trans k8)
          have hp8 := k8 _ _ pb.1 (Kp.new (b := b) nl3 _ _ pb.1 hp7)
          have hf8 := k8 _ _ fb.1 (Kp.new (b := b) nl3 _ _ fb.1 hf7)
          obtain ⟨u0, lu0, rfl⟩ : ∃ a0, a0 ≤ 3 ∧ x3 = lV (List.replicate a0 32) := by
            simp only [List.mem_cons, List.not_mem_nil, or_false] at hx3
            rcases hx3 with e | e
            · exact ⟨0, by decide, e.trans b0⟩
            · exact ⟨2, by decide, e.trans b2⟩
          refine ⟨by show 1 ≤ sizeLine; decide, fun l4 nl4 => ?_⟩
          have B9 := B8.new (o := .lst [lV (List.replicate u0 32)]) nl4
          have h49 : upd H8 l4 (.lst [lV (List.replicate u0 32)]) l4 = some (.lst [lV (List.replicate u0 32)]) := upd_same
          have l4b := bag_ne B8 nl4
          have K9 := K8.trans (Kp.new (b := b) (o := .lst [lV (List.replicate u0 32)]) nl4)
          have hp9 := Kp.new (b := b) (o := .lst [lV (List.replicate u0 32)]) nl4 _ _ pb.1 hp8
          have hf9 := Kp.new (b := b) (o := .lst [lV (List.replicate u0 32)]) nl4 _ _ fb.1 hf8
          generalize upd H8 l4 (.lst [lV (List.replicate u0 32)]) = H9 at *
          refine ⟨.ref b, rfl, b, c, 5, rfl, B9, by decide, by decide, fun r HA kA BA _ _ => ?_⟩
          have KA := K9.trans kA
          have hpA := kA _ _ pb.1 hp9
          have hfA := kA _ _ fb.1 hf9
          have h4A := kA _ _ l4b.1 h49
          refine ⟨rfl, .inr ⟨_, rfl, ?_⟩⟩
          generalize decide (V.int r = V.int 0) = tb
          have cTX : (fl ++ [TX]).map TW.words = (cls ++ [cx]).map clW := by
            rw [List.map_append, List.map_append, hw]
            show _ ++ [TW.words TX] = _ ++ [clW cx]
            rw [wT]
          have nbx : nb cx = true := by
            cases cx with
            | blank => exact gx.elim
            | head n m => rfl
            | row r => rfl
          have tk1 : (cls ++ [cx]).filter nb = CS.take (i + 1) := by
            rw [List.filter_append, hc, List.take_add_one, hcx, List.filter_cons_of_pos nbx]
            rfl
          cases tb with
          | false =>
            refine ⟨l4, 0, _, rfl, rfl, h4A, by decide, by decide, by rw [show (0 : Int).toNat = 0 from rfl, Nat.mul_zero]; exact Nat.zero_le _, fun l5 nl5 => ?_⟩
            have nl5b := bag_ne BA nl5
            refine ⟨f, l5, _, _, rfl, rfl, Kp.new (b := b) nl5 _ _ fb.1 hfA, upd_same, ?_, ?_⟩
            · rw [List.length_append, List.length_map]
              exact Nat.le_trans (show _ ≤ 200 by show fl.length + 1 + 0 ≤ 200; omega) (by decide)
            refine ⟨_, _, _, _, _, _, _, _, _, _, _, fl ++ [TX], cls ++ [cx], rfl, kp_upd (KA.trans (Kp.new (b := b) nl5)) nfH, (BA.new nl5).other fb.1 fb.2, ?_, ?_, cTX, tk1, ?_, ?_⟩
            · rw [upd_ne npf]
              exact Kp.new (b := b) nl5 _ _ pb.1 hpA
            · rw [upd_same, List.map_append]
              simp [lV]
            · intro l hl2
              rcases List.mem_append.mp hl2 with hl2 | hl2
              · exact hl l hl2
              · rw [List.mem_singleton.mp hl2]
                exact ⟨nT, lT⟩
            · rw [List.length_append]
              show fl.length + 1 ≤ _
              omega
          | true =>
            refine ⟨l4, 1, _, rfl, rfl, h4A, by decide, by decide, by show 1 ≤ sizeLine; decide, fun l5 nl5 => ?_⟩
            have nl5b := bag_ne BA nl5
            refine ⟨f, l5, _, _, rfl, rfl, Kp.new (b := b) nl5 _ _ fb.1 hfA, upd_same, ?_, ?_⟩
            · rw [List.length_append, List.length_map]
              exact Nat.le_trans (show _ ≤ 200 by show fl.length + 1 + 1 ≤ 200; omega) (by decide)
            refine ⟨_, _, _, _, _, _, _, _, _, _, _, fl ++ [TX] ++ [List.replicate u0 32], cls ++ [cx] ++ [.blank], rfl, kp_upd (KA.trans (Kp.new (b := b) nl5)) nfH, (BA.new nl5).other fb.1 fb.2, ?_, ?_, ?_, ?_, ?_, ?_⟩
            · rw [upd_ne npf]
              exact Kp.new (b := b) nl5 _ _ pb.1 hpA
            · rw [upd_same, List.map_append, List.map_append]
              simp [lV]
            · rw [List.map_append (l₁ := fl ++ [TX]), cTX, List.map_append (l₁ := cls ++ [cx])]
              have := TW.words_blanks u0 []
              rw [List.append_nil, TW.words_nil] at this
              show _ ++ [TW.words (List.replicate u0 32)] = _ ++ [[]]
              rw [this]
            · rw [List.filter_append, tk1]
              simp [nb]
            · intro l hl2
              rcases List.mem_append.mp hl2 with hl2 | hl2
              · rcases List.mem_append.mp hl2 with hl2 | hl2
                · exact hl l hl2
                · rw [List.mem_singleton.mp hl2]
                  exact ⟨nT, lT⟩
              · rw [List.mem_singleton.mp hl2]
                exact ⟨fun z => (by cases (List.mem_replicate.mp z).2), by rw [List.length_replicate]; omega⟩
            · rw [List.length_append, List.length_append]
              show fl.length + 1 + 1 ≤ _
              omega
    · obtain ⟨y3, y5, y6, y7, y8, y9, y10, y11, y12, y13, y14, fl, cls, rfl, k, BG, hp, hf, hw, hc, hl, ln⟩ := hp
      rw [List.length_map, List.take_length] at hc
      rw [List.length_map] at ln
      have lfl : fl.length ≤ 54 := by omega
      refine ⟨⟨_, rfl⟩, .ref f, rfl, Str.ofString "\n", f, fl.map SX.S, rfl, rfl, .inl (SqL.of ?_), ?_, ?_⟩
      · rw [List.map_map]
        exact hf
      · have l1 : (Str.ofString "\n").length = 1 := by decide +kernel
        rw [l1, SX.lens, List.length_map]
        have := sum_le (n := 100) (l := fl.map (·.length)) fun x hx => by
          obtain ⟨l, hl2, rfl⟩ := List.mem_map.mp hx
          exact (hl l hl2).2
        rw [List.length_map] at this
        omega
      have e10 : (Str.ofString "\n") = SX.S [10] := by decide +kernel
      rw [e10, SX.join_S]
      have lT : (TL.joinL [10] fl).length ≤ 100000 := by
        have a1 := joinL_len [10] fl
        have := sum_le (n := 100) (l := fl.map (·.length)) fun x hx => by
          obtain ⟨l, hl2, rfl⟩ := List.mem_map.mp hx
          exact (hl l hl2).2
        rw [List.length_map] at this
        rw [List.length_singleton] at a1
        omega
      by_cases hne : fl = []
      · subst hne
        have ec : cls = [] := List.map_eq_nil_iff.mp hw.symm
        subst ec
        rw [← hc] at cl0
        exact qq _ [.blank] B G k BG ⟨lT, by decide, fun l hl2 => (by
          rw [show TL.joinL [10] [] = [] from rfl, TW.cut_nil, List.mem_singleton] at hl2
          rw [hl2]
          exact Nat.zero_le _), by rw [show TL.joinL [10] [] = [] from rfl, TW.cut_nil]; exact congrArg (fun x => [x]) TW.words_nil, steps_blank cl0⟩ blk
      · have ecut : TW.cut 10 (TL.joinL [10] fl) = fl := SX.spl_join hne fun l hl2 => (hl l hl2).1
        exact qq _ cls B G k BG ⟨lT, by rw [ecut]; omega, fun l hl2 => by rw [ecut] at hl2; exact Nat.le_trans (hl l hl2).2 (by decide), by rw [ecut]; exact hw, steps_nb (by rw [hc]; exact cl0)⟩ blk

end LW

namespace LW
open PySem PySem.Spec PyProof.Rows L2 GL

theorem tabs_same {K : PySem.W.Frag} {H H' : Hp} {d : Addr} {ts : List (Str × Tab)} (h : TabsAt K H d ts) (k : Same H H') : TabsAt K H' d ts := by
  obtain ⟨x, h1, h2⟩ := h
  exact ⟨x, k _ _ h1, h2.mono (TupK.same k)⟩
theorem tabOf_mem : ∀ {ts : List (Str × Tab)} {q : Str × Tab}, (ts.map (·.1)).Nodup → q ∈ ts → tabOf ts q.1 = q.2
  | x :: ts, q, nd, h => by
    rw [List.map_cons, List.nodup_cons] at nd
    unfold tabOf
    by_cases e : x.1 = q.1
    · rcases List.mem_cons.mp h with rfl | h
      · rw [List.find?_cons_of_pos (by simp)]
        rfl
      · exact absurd (List.mem_map.mpr ⟨q, h, e.symm⟩) nd.1
    · rw [List.find?_cons_of_neg (by simpa using e)]
      exact tabOf_mem nd.2 ((List.mem_cons.mp h).resolve_left fun z => e (by rw [z]))
theorem by_names {F : Str → Tab} : ∀ {l m : List (Str × Tab)}, l.map (·.1) = m.map (·.1) → (∀ q ∈ l, q.2 = F q.1) → (∀ q ∈ m, q.2 = F q.1) → l = m
  | [], [], _, _, _ => rfl
  | [], _ :: _, e, _, _ => by simp at e
  | _ :: _, [], e, _, _ => by simp at e
  | x :: l, y :: m, e, h1, h2 => by
    rw [List.map_cons, List.map_cons] at e
    obtain ⟨e1, e2⟩ := List.cons.inj e
    rw [by_names e2 (fun q hq => h1 q (List.mem_cons_of_mem _ hq)) (fun q hq => h2 q (List.mem_cons_of_mem _ hq))]
    have a := h1 x List.mem_cons_self
    have b := h2 y List.mem_cons_self
    rw [show x = y from Prod.ext e1 (by rw [a, b, e1])]
theorem goodTs_perm {most : Nat} {ts ts' : List (Str × Tab)} (p : ts'.Perm ts) (g : GoodTs most ts) : GoodTs most ts' :=
  ⟨(p.map (·.1)).nodup_iff.mpr g.1, by rw [p.length_eq]; exact g.2.1, fun q hq => g.2.2 q (p.mem_iff.mp hq)⟩
theorem textL_perm {ts ts' : List (Str × Tab)} (p : ts'.Perm ts) (nd : (ts.map (·.1)).Nodup) : textL ts' = textL ts := by
  have en : canon (ts'.map (·.1)) = canon (ts.map (·.1)) := canon_congr fun x => (p.map (·.1)).mem_iff
  unfold textL
  rw [en]
  congr 1
  unfold linesOf
  have nd' : (ts'.map (·.1)).Nodup := (p.map (·.1)).nodup_iff.mpr nd
  have h : ∀ n ∈ canon (ts.map (·.1)), blockL n (tabOf ts' n) = blockL n (tabOf ts n) := by
    intro n hn
    have hm : n ∈ ts.map (·.1) := of_decide_eq_true (List.mem_filter.mp hn).2
    obtain ⟨q, hq, rfl⟩ := List.mem_map.mp hm
    rw [tabOf_mem nd hq, tabOf_mem nd' (p.mem_iff.mpr hq)]
  generalize canon (ts.map (·.1)) = cs at h
  induction cs with
  | nil => rfl
  | cons n cs ih =>
    rw [List.flatMap_cons, List.flatMap_cons, h n List.mem_cons_self, ih fun m hm => h m (List.mem_cons_of_mem _ hm)]
/-- what is read is what was told -/
theorem read_eq {ts tts ts' : List (Str × Tab)} {B : List Blk} (g : GoodTs 8 ts) (bo : BlkOf ts B) (en : tts.map (·.1) = canon (B.map (·.1)))
    (hall : ∀ q ∈ tts, ∃ rs, (q.1, q.2.1, rs) ∈ B ∧ q.2.2.Perm rs ∧ q.2.2.Pairwise (· ≤ ·)) (p : ts'.Perm ts) (en' : ts'.map (·.1) = canon (ts.map (·.1))) : tts = ts' := by
  have ec : canon (B.map (·.1)) = canon (ts.map (·.1)) := canon_congr fun x => bo.1.mem_iff
  refine by_names (F := tabOf ts) (by rw [en, en', ec]) (fun q hq => ?_) (fun q hq => (tabOf_mem g.1 (p.mem_iff.mp hq)).symm)
  obtain ⟨rs, hb, pm, pw⟩ := hall q hq
  obtain ⟨h1, h2⟩ := bo.2 _ hb
  have hn : q.1 ∈ ts.map (·.1) := bo.1.mem_iff.mp (List.mem_map.mpr ⟨_, hb, rfl⟩)
  obtain ⟨x, hx, ex⟩ := List.mem_map.mp hn
  have hx2 : tabOf ts q.1 = x.2 := by rw [← ex]; exact tabOf_mem g.1 hx
  have hl := (g.2.2 x hx).2.2.2.1
  refine Prod.ext h1 (K2.sorted_unique pw ?_ (pm.trans h2))
  rw [hx2]
  exact K2.Lot.le hl
theorem okT5 {m : Int} {rs : List (List Int)} (g : GoodT m 8 rs) : OkW 5000 3 (encT m rs) := by
  obtain ⟨h1, h4, _, hl, h5⟩ := g
  have k : ∀ r ∈ rs, r.length ≤ 4 ∧ ∀ v ∈ r, v.natAbs < 10 ^ 12 := fun r hr => by
    obtain ⟨a, b⟩ := h5 r hr
    exact ⟨by omega, fun v hv => by have := b v hv; omega⟩
  refine ((ok_tab (k := 4) (many := m) (by omega) k).w).mono ?_ (Nat.le_refl _)
  have : rs.length * (4 * 42 + 1) ≤ 8 * (4 * 42 + 1) := Nat.mul_le_mul_right _ hl
  omega
theorem nm_small : ∀ n ∈ nm4, (∀ c ∈ n.cps.toList, c < 16 ^ 8) ∧ n.cps.toList.length ≤ 5 := by decide +kernel
theorem okTs {ts : List (Str × Tab)} (g : GoodTs 8 ts) : OkW 50000 4 (.dict (encKv ts)) := by
  refine OkW.dict ((OkWKv.map (w := 5000) (dp := 3) fun q hq => ?_).mono ?_ (Nat.le_refl _))
  · obtain ⟨h1, h2⟩ := g.2.2 q hq
    obtain ⟨n1, n2⟩ := nm_small q.1 h1
    exact ⟨(OkW.str n1 n2).mono (by omega) (by omega), okT5 h2⟩
  · have : ts.length * (2 * 5000 + 2) ≤ 3 * (2 * 5000 + 2) := Nat.mul_le_mul_right _ g.2.1
    omega

theorem text_of_lines {fl : List (List Nat)} {cls : List Cl} {B : List Blk} (hw : fl.map TW.words = cls.map clW) (hl : ∀ l ∈ fl, 10 ∉ l ∧ l.length ≤ 100) (ln : fl.length ≤ 100) (st : Steps [] cls B) :
    ∃ cls', TextOf (TL.joinL [10] fl) cls' B ∧ (TW.cut 10 (TL.joinL [10] fl)).length ≤ 101 ∧ (TL.joinL [10] fl).length ≤ 20000 := by
  have lT : (TL.joinL [10] fl).length ≤ 20000 := by
    have a1 := joinL_len [10] fl
    have := sum_le (n := 100) (l := fl.map (·.length)) fun x hx => by
      obtain ⟨l, hl2, rfl⟩ := List.mem_map.mp hx
      exact (hl l hl2).2
    rw [List.length_map] at this
    rw [List.length_singleton] at a1
    have h2 : fl.length * 100 ≤ 100 * 100 := Nat.mul_le_mul_right _ ln
    omega
  by_cases hne : fl = []
  · subst hne
    have ec : cls = [] := List.map_eq_nil_iff.mp hw.symm
    subst ec
    have e0 : TW.cut 10 (TL.joinL [10] []) = [[]] := by rw [show TL.joinL [10] [] = [] from rfl, TW.cut_nil]
    refine ⟨[.blank], ⟨by omega, by rw [e0]; decide, fun l hl2 => ?_, by rw [e0]; exact congrArg (fun x => [x]) TW.words_nil, steps_blank st⟩, by rw [e0]; decide, lT⟩
    rw [e0, List.mem_singleton] at hl2
    rw [hl2]
    exact Nat.zero_le _
  · have ecut : TW.cut 10 (TL.joinL [10] fl) = fl := SX.spl_join hne fun l hl2 => (hl l hl2).1
    exact ⟨cls, ⟨by omega, by rw [ecut]; omega, fun l hl2 => by rw [ecut] at hl2; exact Nat.le_trans (hl l hl2).2 (by decide), by rw [ecut]; exact hw, st⟩, by rw [ecut]; omega, lT⟩
theorem cut_app (c : Nat) (r : List Nat) : ∀ (n : Nat) (l : List Nat), l.length ≤ n → TW.cut c (l ++ c :: r) = TW.cut c l ++ TW.cut c r
  | 0, l, h => by
    have : l = [] := List.length_eq_zero_iff.mp (by omega)
    subst this
    rw [TW.cut_at (by simp), TW.cut_nil]
    rfl
  | n + 1, l, h => by
    rcases TW.first_sign c l with g | ⟨p, q, e, g⟩
    · rw [TW.cut_at g, TW.cut_none g]
      rfl
    · subst e
      rw [List.append_assoc, List.cons_append, TW.cut_at g, TW.cut_at g, cut_app c r n q (by rw [List.length_append, List.length_cons] at h; omega)]
      rfl
theorem text_wrap {T : List Nat} {cls : List Cl} {B : List Blk} (h : TextOf T cls B) (lc : (TW.cut 10 T).length ≤ 101) (lT : T.length ≤ 20000) :
    TextOf (10 :: (T ++ 10 :: (32 :: (10 :: [])))) (.blank :: (cls ++ [.blank, .blank])) B := by
  obtain ⟨_, _, h3, h4, h5⟩ := h
  have e : TW.cut 10 (10 :: (T ++ 10 :: (32 :: (10 :: [])))) = [] :: (TW.cut 10 T ++ [[32], []]) := by
    have e1 := TW.cut_at (c := 10) (p := []) (q := T ++ 10 :: (32 :: (10 :: []))) (by simp)
    have e2 := TW.cut_at (c := 10) (p := [32]) (q := []) (by simp)
    rw [List.nil_append] at e1
    have e3 : TW.cut 10 (32 :: (10 :: [])) = [[32], []] := by
      rw [show (32 :: (10 :: []) : List Nat) = [32] ++ 10 :: [] from rfl, e2, TW.cut_nil]
    rw [e1, cut_app 10 _ _ T (Nat.le_refl _), e3]
  refine ⟨?_, ?_, fun l hl => ?_, ?_, ?_⟩
  · rw [List.length_cons, List.length_append]
    show T.length + 3 + 1 ≤ _
    omega
  · rw [e, List.length_cons, List.length_append]
    show _ + 2 + 1 ≤ _
    omega
  · rw [e] at hl
    rcases List.mem_cons.mp hl with rfl | hl
    · exact Nat.zero_le _
    · rcases List.mem_append.mp hl with hl | hl
      · exact h3 l hl
      · simp only [List.mem_cons, List.not_mem_nil, or_false] at hl
        rcases hl with rfl | rfl
        · show 1 ≤ 800
          decide
        · exact Nat.zero_le _
  · rw [e, List.map_cons, List.map_append, h4]
    have w1 : TW.words [32] = [] := by
      have := TW.words_blank []
      rw [this, TW.words_nil]
    show TW.words [] :: (cls.map clW ++ [TW.words [32], TW.words []]) = clW Cl.blank :: (cls ++ [Cl.blank, Cl.blank]).map clW
    rw [w1, TW.words_nil, List.map_append]
    rfl
  · exact steps_blank (steps_app h5 (steps_blank (steps_blank (.nil B))))
/-- the shown text -/
theorem text_shown {ts : List (Str × Tab)} (g : GoodTs 8 ts) : ∃ cls B, TextOf (textL ts) cls B ∧ BlkOf ts B ∧ (TW.cut 10 (textL ts)).length ≤ 101 ∧ (textL ts).length ≤ 20000 := by
  have gm : ∀ k ∈ ts.map (·.1), k ∈ nm4 := fun k hk => by
    obtain ⟨q, hq, rfl⟩ := List.mem_map.mp hk
    exact (g.2.2 q hq).1
  have pcs := canon_perm g.1 gm
  have hin : ∀ n ∈ canon (ts.map (·.1)), ∃ q ∈ ts, q.1 = n ∧ tabOf ts n = q.2 := fun n hn => by
    obtain ⟨q, hq, rfl⟩ := List.mem_map.mp (pcs.mem_iff.mp hn)
    exact ⟨q, hq, rfl, tabOf_mem g.1 hq⟩
  obtain ⟨B, eB⟩ : ∃ B : List Blk, B = (canon (ts.map (·.1))).map fun n => (n, (tabOf ts n).1, (tabOf ts n).2) := ⟨_, rfl⟩
  have en : B.map (·.1) = canon (ts.map (·.1)) := by
    rw [eB, List.map_map]
    exact List.map_id _
  have bo : BlkOf ts B := ⟨by rw [en]; exact pcs, fun b hb => by
    rw [eB] at hb
    obtain ⟨n, _, rfl⟩ := List.mem_map.mp hb
    exact ⟨rfl, List.Perm.refl _⟩⟩
  have fine : FineB B := by
    refine ⟨by rw [en]; exact pcs.nodup_iff.mpr g.1, fun u hu => ?_⟩
    rw [eB] at hu
    obtain ⟨n, hn, rfl⟩ := List.mem_map.mp hu
    obtain ⟨q, hq, rfl, e⟩ := hin n hn
    obtain ⟨g4, gt⟩ := g.2.2 q hq
    refine ⟨g4, by rw [e]; exact gt.1, by rw [e]; exact gt.2.1, by rw [e]; exact K2.Lot.nodup gt.2.2.1, fun r hr => ?_⟩
    have hr' : r ∈ (tabOf ts q.1).2 := hr
    rw [e] at hr'
    exact ⟨GoodT.rowOk gt r hr', by rw [e]; exact (gt.2.2.2.2 r hr').1⟩
  have goods : ∀ x ∈ clsB B, GoodC x := by
    intro x hx
    obtain ⟨u, hu, hx⟩ := List.mem_flatMap.mp hx
    obtain ⟨f1, f2, f3, _, f5⟩ := fine.2 u hu
    rcases List.mem_cons.mp hx with rfl | hx
    · exact ⟨f1, f2, f3⟩
    · obtain ⟨r, hr, rfl⟩ := List.mem_map.mp hx
      exact (f5 r hr).1
  have cl0 := steps_cls (B := []) (C := B) fine
  rw [List.nil_append] at cl0
  have eL : linesOf ts (canon (ts.map (·.1))) = (clsB B).map lineW := by
    rw [← lines_cls, eB]
    unfold linesOf linesB
    rw [List.flatMap_map]
    rfl
  have hln : (linesOf ts (canon (ts.map (·.1)))).length ≤ 27 := by
    refine Nat.le_trans (lines_count g fun n hn => ?_) ?_
    · obtain ⟨q, hq, rfl, e⟩ := hin n hn
      rw [e]
      exact hq
    · have := pcs.length_eq
      rw [List.length_map] at this
      have := g.2.1
      omega
  obtain ⟨cls', t1, t2, t3⟩ := text_of_lines (fl := linesOf ts (canon (ts.map (·.1)))) (cls := clsB B) (B := B) (by
      rw [eL, List.map_map]
      exact List.map_congr_left fun x hx => TW.words_join fun w hw => by
        have := (goodC_w (goods x hx)).2.2 w hw
        exact ⟨this.1, this.2.2.1⟩) (fun l hl => by
      have := lines_ok g (cs := canon (ts.map (·.1))) (fun n hn => by
        obtain ⟨q, hq, rfl, e⟩ := hin n hn
        rw [e]
        exact hq) l hl
      exact ⟨this.2, Nat.le_trans this.1 (by decide)⟩) (by omega) cl0
  exact ⟨cls', B, t1, bo, t2, t3⟩
theorem wI_small : ∀ v ∈ smalls, ∀ c ∈ wI v, c < 16 ^ 8 := by decide +kernel
theorem tab_small : ∀ c ∈ TL.tl (Str.ofString "table "), c < 16 ^ 8 := by decide +kernel
theorem textL_small {ts : List (Str × Tab)} (g : GoodTs 8 ts) : ∀ c ∈ textL ts, c < 16 ^ 8 := by
  intro c hc
  have gm : ∀ k ∈ ts.map (·.1), k ∈ nm4 := fun k hk => by
    obtain ⟨q, hq, rfl⟩ := List.mem_map.mp hk
    exact (g.2.2 q hq).1
  rcases mem_joinL hc with h | ⟨l, hl, h⟩
  · rw [List.mem_singleton.mp h]
    decide
  · obtain ⟨n, hn, hl⟩ := List.mem_flatMap.mp hl
    obtain ⟨q, hq, rfl⟩ := List.mem_map.mp ((canon_perm g.1 gm).mem_iff.mp hn)
    have e := tabOf_mem g.1 hq
    obtain ⟨g1, g2⟩ := g.2.2 q hq
    rw [e] at hl
    rcases List.mem_cons.mp hl with rfl | hl
    · unfold headL at h
      simp only [List.mem_append, List.mem_cons] at h
      rcases h with h | h | h | h
      · exact tab_small c h
      · exact (nm_small q.1 g1).1 c h
      · rw [h]
        decide
      · exact wI_small q.2.1 (small_cases ⟨by have := g2.1; omega, by have := g2.2.1; omega⟩) c h
    · obtain ⟨r, hr, rfl⟩ := List.mem_map.mp hl
      have ro := GoodT.rowOk g2 r hr
      unfold rowL at h
      rcases mem_joinL h with h | ⟨w, hw, h⟩
      · rw [List.mem_singleton.mp h]
        decide
      · obtain ⟨v, hv, rfl⟩ := List.mem_map.mp hw
        exact wI_small v (small_cases (ro.2.2 v hv)) c h
theorem okText {ts : List (Str × Tab)} (g : GoodTs 8 ts) : OkW 20000 0 (.str (SX.S (textL ts))) := by
  obtain ⟨_, _, _, _, _, h⟩ := text_shown g
  exact OkW.str (textL_small g) h
end LW

namespace LW
open PySem PySem.Spec PyProof.Rows L2 GL
open L2.DX

def spLaw (K : PySem.W.Frag) : Sp := fun vs H Q _ => ∃ (a : Addr) (ns : List Int), vs = [.ref a] ∧ SqL K H a (ns.map V.int) ∧ ns.length ≤ 63 ∧ ∀ H', Q (.bl true) H'
/-- a text that says the tables -/
def Says (ts : List (Str × Tab)) (x : V) : Prop := ∃ T cls B, x = .str (SX.S T) ∧ TextOf T cls B ∧ BlkOf ts B
abbrev slaw : Stmt := topS 28
theorem sclaw : FnScope ["script", "bag", "turn", "tables", "shown", "text", "due", "said", "told"] ["script"] (defScope slaw) := ⟨rfl, rfl, rfl, by decide +kernel, rfl, by decide +kernel, by decide +kernel⟩
theorem oklaw {P : Program} {w : World} {K : PySem.W.Frag} {mg : Str → Option Value} {base : Heap} {f0 : Addr} {fd0 : FuncData} (F0 : L2.Fun K "law" "law" slaw f0 fd0) (c__law_alike : Cal P w K mg base 1 "_law_alike" (spAlikeW K)) (c__law_bag : Cal P w K mg base 1 "_law_bag" (spBag K)) (c__law_loose : Cal P w K mg base 3 "_law_loose" (spLoose K)) (c__law_some_tables : Cal P w K mg base 4 "_law_some_tables" (spTabs K)) (c__law_table_lines : Cal P w K mg base 1 "_law_table_lines" (spLines K)) (c_read_tables : Cal P w K mg base 3 "read_tables" (spRT K)) (c_show_tables : Cal P w K mg base 2 "show_tables" (spShowTs K)) (m_dict : mg "dict" = none) (m_range : mg "range" = none) (m_repr : mg "repr" = none) (m_sorted : mg "sorted" = none) :
    Fn0 P w K mg base CX0 5 f0 fd0 ["script"] (spLaw K) := by
  refine fn_mk F0 sclaw (fun vs H Q E h => ?_) (fun f cdv A outer s H vs Q E hG hr h => ?_)
  · obtain ⟨a, ns, rfl, _⟩ := h; rfl
  have nd := sclaw.nd
  obtain ⟨a, ns, rfl, hS, hlen, q⟩ := h
  refine ⟨_, (pss_cons (ps_set (i := 1) nd rfl (.inl rfl) (pe_cg c__law_bag (by exact hG) (by exact hr) (by decide) (by rfl) (pa_cons (pv 0) pa_nil)))
    (pss_cons (ps_for PassesOwn.never rfl (pi_range1 (by rfl) m_range (pa_cons pe_int pa_nil)) (pg_name (i := 2) nd rfl (.inl rfl)) (pss_cons (ps_set (i := 3) nd rfl (.inl rfl) (pe_cg c__law_some_tables (by exact hG) (by exact hr) (by decide) (by rfl) (pa_cons (pv 1) (pa_cons pe_int pa_nil))))
    (pss_cons (ps_par (i := 6) (j := 7) (by rfl) nd rfl rfl (by decide) rfl rfl (pa_cons (pe_callTy (call_dictP rfl) (by rfl) m_dict (by decide +kernel) (pa_cons (pe_callB (cr_sortItems rfl (by exact hr.units) : CallR _ (.builtin "sorted") (rSortItems K)) (by rfl) m_sorted (by decide +kernel) (pa_cons (pe_bm0 PySem.F.plainAttrs_dict PySem.F.slot_dict_items PySem.F.type_dict_items mt_itemsK (pv 3)) pa_nil)) pa_nil)) (pa_cons (pe_callB (call_reprW (by exact hG) (by exact hr.units) : CallR _ (.builtin "repr") (rReprW K)) (by rfl) m_repr (by decide +kernel) (pa_cons (pv 3) pa_nil)) pa_nil)) (by rfl))
    (pss_cons (ps_set (i := 4) nd rfl (.inl rfl) (pe_m1 PySem.F.slot_str_join PySem.F.type_str_join (mt_joinU : MtR _ "str.join" (rJoinU K)) pe_str (pe_cg c__law_table_lines (by exact hG) (by exact hr) (by decide) (by rfl) (pa_cons (pv 3) pa_nil))))
    (pss_cons (ps_if (PW.pt (pw_or (pt_not (pt_val (pe_cg c__law_alike (by exact hG) (by exact hr) (by decide) (by rfl) (pa_cons (pe_cg c_show_tables (by exact hG) (by exact hr) (by decide) (by rfl) (pa_cons (pv 3) pa_nil)) (pa_cons (pv 4) pa_nil))))) (pw_or1 (pt_cmpR op_ne (pe_callB (call_reprW (by exact hG) (by exact hr.units) : CallR _ (.builtin "repr") (rReprW K)) (by rfl) m_repr (by decide +kernel) (pa_cons (pv 3) pa_nil)) (pv 7) (nomark _))))) (pss_one (ps_ret pe_bl)) pss_nil)
    (pss_cons (ps_for PassesOwn.never rfl (pi_tup (pe_tup (pa_cons (pv 4) (pa_cons (pe_cg c__law_loose (by exact hG) (by exact hr) (by decide) (by rfl) (pa_cons (pv 1) (pa_cons (pv 3) pa_nil))) (pa_cons (pe_op op_add_str (pe_op op_add_str pe_str (pv 4)) pe_str) pa_nil)))) : PI _ _ _ (iTup K _)) (pg_name (i := 5) nd rfl (.inl rfl)) (pss_cons (ps_set (i := 8) nd rfl (.inl rfl) (pe_cg c_read_tables (by exact hG) (by exact hr) (by decide) (by rfl) (pa_cons (pv 5) pa_nil)))
    (pss_cons (ps_if (pt_not (pt_val (pe_cg c__law_alike (by exact hG) (by exact hr) (by decide) (by rfl) (pa_cons (pe_lstN (pa_cons (pv 8) (pa_cons (pe_cg c_show_tables (by exact hG) (by exact hr) (by decide) (by rfl) (pa_cons (pv 8) pa_nil)) pa_nil))) (pa_cons (pe_lstN (pa_cons (pv 6) (pa_cons (pv 4) pa_nil))) pa_nil))))) (pss_one (ps_ret pe_bl)) pss_nil)
    (pss_one (ps_dput (by exact Nat.lt_of_le_of_lt (Nat.add_le_add_left (by decide : 1 ≤ 64) _) hr.units) (pv 8) pe_str pe_non (by rfl))))))
    (pss_one (ps_if (pt_not (pt_val (pe_cg c__law_alike (by exact hG) (by exact hr) (by decide) (by rfl) (pa_cons (pe_cg c_read_tables (by exact hG) (by exact hr) (by decide) (by rfl) (pa_cons (pv 4) pa_nil)) (pa_cons (pv 6) pa_nil))))) (pss_one (ps_ret pe_bl)) pss_nil))))))))
    (pss_one (ps_ret pe_bl)))), ?_⟩
  refine ⟨.ref a, rfl, a, ns, rfl, hS, hlen, fun b c H1 k1 nb nc hB => ?_⟩
  clear hS hlen k1 nb nc
  refine ⟨4, rfl, by decide, by decide, ?_⟩
  refine for_range (n := 4) (fun _ σ G => (∃ (y2 y3 y4 y5 y6 y7 y8 : Option V), σ = [some (.ref a), some (.ref b), y2, y3, y4, y5, y6, y7, y8]) ∧ Bag G b c) ⟨⟨_, _, _, _, _, _, _, rfl⟩, hB⟩ (fun it σ G _ hp => ?_) (fun σ G hp => ?_)
  · clear hB
    obtain ⟨⟨y2, y3, y4, y5, y6, y7, y8, rfl⟩, hB⟩ := hp
    refine ⟨.ref b, rfl, b, c, 8, rfl, hB, by decide, fun d ts G1 k1 hB1 nd db dc hT hg => ?_⟩
    obtain ⟨kvs, hd, htk⟩ := id hT
    have gnm : ∀ q ∈ ts, q.1 ∈ nm4 := fun q hq => (hg.2.2 q hq).1
    refine ⟨.ref d, rfl, .inr (.inr (.inl ⟨rfl, .inl ⟨kvs, hd⟩⟩)), d, kvs, rfl, rfl, hd, fun pv npv => ?_⟩
    have kv := put_new npv (itemsO pv d)
    refine ⟨pv, d, kvs, ts, rfl, upd_same, kv _ _ hd, htk.mono (TupK.same kv), hg.1, gnm, by have := hg.2.1; omega, fun l acc ts' G2 k2 nl hl hE pm en => ?_⟩
    have K2' := kv.trans k2
    obtain ⟨ps, kvs2, eacc, hps, htk2⟩ := pairs_kv hE
    subst eacc
    refine ⟨l, ps, kvs2, rfl, SqL.of hl, hps, fun du ndu => ?_⟩
    have hg' := goodTs_perm pm hg
    rw [mergeK_nodup (kvs := []) (htk2.nodup hg'.1)]
    have K3 := K2'.trans (put_new ndu (.dK kvs2))
    have hTu : TabsAt K (upd G2 du (.dK kvs2)) du ts' := ⟨kvs2, upd_same, htk2.mono (TupK.new ndu _)⟩
    have hTd : TabsAt K (upd G2 du (.dK kvs2)) d ts := ⟨kvs, K3 _ _ hd, htk.mono (TupK.same K3)⟩
    have hB3 := hB1.same K3
    have dub := bag_ne (hB1.same K2') ndu
    rw [List.nil_append]
    generalize upd G2 du (.dK kvs2) = G3 at *
    have shT := (okTs hg).shows (by decide) (by decide)
    have shS := (okText hg).shows (by decide) (by decide)
    refine ⟨.ref d, rfl, .ref d, _, rfl, hTd.dv hg.1, shT, _, _, rfl, ?_⟩
    refine ⟨⟨_, rfl⟩, .ref d, rfl, d, ts, rfl, hTd, hg, fun pl G4 k4 npl hpl => ?_⟩
    have l1 : (Str.ofString "\n").length = 1 := by decide +kernel
    have e10 : (Str.ofString "\n") = SX.S [10] := by decide +kernel
    have gm : ∀ k ∈ ts.map (·.1), k ∈ nm4 := fun k hk => by
      obtain ⟨q, hq, rfl⟩ := List.mem_map.mp hk
      exact gnm q hq
    have hin : ∀ n ∈ canon (ts.map (·.1)), (n, tabOf ts n) ∈ ts := fun n hn => by
      obtain ⟨q, hq, rfl⟩ := List.mem_map.mp ((canon_perm hg.1 gm).mem_iff.mp hn)
      rw [tabOf_mem hg.1 hq]
      exact hq
    have lo := lines_ok hg (cs := canon (ts.map (·.1))) hin
    have lc := lines_count hg (cs := canon (ts.map (·.1))) hin
    have lcs : (canon (ts.map (·.1))).length ≤ 3 := by rw [(canon_perm hg.1 gm).length_eq, List.length_map]; exact hg.2.1
    refine ⟨Str.ofString "\n", pl, (linesOf ts (canon (ts.map (·.1)))).map SX.S, rfl, rfl, .inl (SqL.of ?_), ?_, ?_⟩
    · rw [List.map_map]
      exact hpl
    · rw [l1, SX.lens, List.length_map]
      have := sum_le (n := 14) (l := (linesOf ts (canon (ts.map (·.1)))).map (·.length)) fun x hx => by
        obtain ⟨l, hl, rfl⟩ := List.mem_map.mp hx
        exact (lo l hl).1
      rw [List.length_map] at this
      omega
    rw [show Txt.join (Str.ofString "\n") ((linesOf ts (canon (ts.map (·.1)))).map SX.S) = SX.S (textL ts) by rw [e10, SX.join_S]; rfl]
    have hT4 : TabsAt K G4 d ts := by
      obtain ⟨x, h1, h2⟩ := hTd
      exact ⟨x, k4 _ _ h1, h2.mono (TupK.same k4)⟩
    have hU4 : TabsAt K G4 du ts' := by
      obtain ⟨x, h1, h2⟩ := hTu
      exact ⟨x, k4 _ _ h1, h2.mono (TupK.same k4)⟩
    have hB4 := hB3.same k4
    refine ⟨.ref d, rfl, d, ts, rfl, hT4, hg, fun G5 k5 => ?_⟩
    refine ⟨.str (SX.S (textL ts)), rfl, .str (SX.S (textL ts)), .str (SX.S (textL ts)), .str (SX.S (textL ts)), rfl, .str _, .str _, shS, _, rfl, ite2 (fun e => absurd e (by decide)) (fun _ => ?_)⟩
    have hT5 : TabsAt K G5 d ts := by
      obtain ⟨x, h1, h2⟩ := hT4
      exact ⟨x, k5 _ _ h1, h2.mono (TupK.same k5)⟩
    have hU5 : TabsAt K G5 du ts' := by
      obtain ⟨x, h1, h2⟩ := hU4
      exact ⟨x, k5 _ _ h1, h2.mono (TupK.same k5)⟩
    have hB5 := hB4.same k5
    refine ⟨.ref d, rfl, .ref d, _, rfl, hT5.dv hg.1, shT, .str _, rfl, rfl, _, rfl, ?_⟩
    rw [decide_eq_true rfl]
    refine ite2 (fun e => absurd e (by decide)) (fun _ => ?_)
    clear hTd hTu hB3 hT4 hU4 hB4 k1 kv k2 K2' K3 hd htk hpl k4 k5 hps htk2 hE hl
    obtain ⟨cls0, BK0, tx0, bo0, lc0, lt0⟩ := text_shown hg
    have s0 : Says ts (.str (SX.S (textL ts))) := ⟨_, cls0, BK0, rfl, tx0, bo0⟩
    have s2 : Says ts (.str (SX.S (10 :: (textL ts ++ 10 :: (32 :: (10 :: [])))))) := ⟨_, _, BK0, rfl, text_wrap tx0 lc0 lt0, bo0⟩
    refine ⟨.str (SX.S (textL ts)), rfl, .ref b, rfl, .ref d, rfl, b, c, d, ts, rfl, hB5, db, hT5, hg, fun T1 cls1 BK1 G6 k6 hB6 tx1 bo1 => ?_⟩
    have s1 : Says ts (.str (SX.S T1)) := ⟨T1, cls1, BK1, rfl, tx1, bo1⟩
    have hT6 : TabsAt K G6 d ts := by
      obtain ⟨x, h1, h2⟩ := hT5
      exact ⟨x, k6 _ _ db h1, h2.mono (bag_tk hB5 k6)⟩
    have hU6 : TabsAt K G6 du ts' := by
      obtain ⟨x, h1, h2⟩ := hU5
      exact ⟨x, k6 _ _ dub.1 h1, h2.mono (bag_tk hB5 k6)⟩
    refine ⟨.str (SX.S (textL ts)), rfl, _, _, rfl, rfl, ?_, _, _, rfl, rfl, ?_, by show 3 ≤ sizeLine; decide, fun pt npt => ?_⟩
    · rw [l1, SX.S_len]
      exact Nat.le_trans (Nat.add_le_add_left lt0 1) (by decide)
    · have l3 : (Str.ofString "\n \n").length = 3 := by decide +kernel
      rw [len_cat, l1, l3, SX.S_len]
      exact Nat.le_trans (Nat.add_le_add_right (Nat.add_le_add_left lt0 1) 3) (by decide)
    have e3 : Str.ofString "\n \n" = SX.S (10 :: (32 :: (10 :: []))) := by decide +kernel
    have e4 : Str.ofString "\n" ++ SX.S (textL ts) ++ Str.ofString "\n \n" = SX.S (10 :: (textL ts ++ 10 :: (32 :: (10 :: [])))) := by
      rw [e10, e3, SX.S_cat, SX.S_cat]
      rfl
    rw [e4]
    have kt := put_new npt (.tup [.str (SX.S (textL ts)), .str (SX.S T1), .str (SX.S (10 :: (textL ts ++ 10 :: (32 :: (10 :: [])))))])
    have hT7 := tabs_same hT6 kt
    have hU7 := tabs_same hU6 kt
    have hB7 := hB6.same kt
    have hpt : upd G6 pt (.tup [.str (SX.S (textL ts)), .str (SX.S T1), .str (SX.S (10 :: (textL ts ++ 10 :: (32 :: (10 :: [])))))]) pt = some (.tup [.str (SX.S (textL ts)), .str (SX.S T1), .str (SX.S (10 :: (textL ts ++ 10 :: (32 :: (10 :: [])))))]) := upd_same
    have say : ∀ x ∈ [V.str (SX.S (textL ts)), V.str (SX.S T1), V.str (SX.S (10 :: (textL ts ++ 10 :: (32 :: (10 :: [])))))], Says ts x := by
      intro x hx
      simp only [List.mem_cons, List.not_mem_nil, or_false] at hx
      rcases hx with rfl | rfl | rfl
      · exact s0
      · exact s1
      · exact s2
    generalize upd G6 pt (.tup [.str (SX.S (textL ts)), .str (SX.S T1), .str (SX.S (10 :: (textL ts ++ 10 :: (32 :: (10 :: [])))))]) = G7 at *
    generalize [V.str (SX.S (textL ts)), V.str (SX.S T1), V.str (SX.S (10 :: (textL ts ++ 10 :: (32 :: (10 :: [])))))] = TX at *
    refine ⟨pt, rfl, ⟨_, SqT.of hpt⟩, ?_⟩
    refine for_tup (K := K) (a := pt) (xs := TX) (fun _ σ G => (∃ (z5 z8 : Option V), σ = [some (.ref a), some (.ref b), some (.int (0 + (it : Nat))), some (.ref d), some (.str (SX.S (textL ts))), z5, some (.ref du), some (.str (PyData.shown (.dict (encKv ts)))), z8]) ∧ Same G7 G) ⟨⟨_, _, rfl⟩, Same.refl _⟩ (fun i σ G _ hp => ?_) (fun i x σ G hx hp => ?_) (fun σ G hp => ?_)
    · exact SqT.of (hp.2 _ _ hpt)
    · obtain ⟨⟨z5, z8, rfl⟩, k⟩ := hp
      obtain ⟨T, cls, BK, rfl, tx, bo⟩ := say x (List.mem_of_getElem? hx)
      refine ⟨.str (SX.S T), rfl, T, cls, BK, rfl, tx.1, tx.2.1, tx.2.2.1, tx.2.2.2.1, tx.2.2.2.2, fun dt tts G8 k8 ndt hTt en2 hall => ?_⟩
      have ett := read_eq hg bo en2 hall pm en
      subst ett
      have ndt7 : G7 dt = none := by
        cases e : G7 dt with
        | none => rfl
        | some o => rw [k _ _ e] at ndt; cases ndt
      refine ⟨.ref dt, rfl, .ref dt, rfl, dt, tts, rfl, hTt, hg', fun G9 k9 => ?_⟩
      rw [textL_perm pm hg.1]
      refine ⟨by show 2 ≤ sizeLine; decide, fun p1 n1 m1 => ?_⟩
      have e1 : upd G9 p1 (.lst [.ref dt, .str (SX.S (textL ts))]) p1 = some (.lst [.ref dt, .str (SX.S (textL ts))]) := upd_same
      have k10 := k9.trans (put_new n1 (.lst [.ref dt, .str (SX.S (textL ts))]))
      generalize upd G9 p1 (.lst [.ref dt, .str (SX.S (textL ts))]) = G10 at *
      refine ⟨.ref du, rfl, .str (SX.S (textL ts)), rfl, by show 2 ≤ sizeLine; decide, fun p2 n2 m2 => ?_⟩
      have kp2 := put_new n2 (.lst [.ref du, .str (SX.S (textL ts))])
      have k11 := k10.trans kp2
      have hD1 := (tabs_same hTt k11).dv hg'.1
      have hD2 := (tabs_same hU7 (k.trans (k8.trans k11))).dv hg'.1
      have okl := (OkW.list ((okTs hg').cons' (((okText hg).mono (Nat.le_refl _) (Nat.zero_le 4)).cons' (OkWAll.nil 4)))).shows (by decide) (by decide)
      refine ⟨.ref p1, .ref p2, .list [.dict (encKv tts), .str (SX.S (textL ts))], rfl, ?_⟩
      refine And.intro (.lst (kp2 _ _ e1) m1 (.cons hD1 (.cons (.str _) .nil))) (And.intro (.lst upd_same m2 (.cons hD2 (.cons (.str _) .nil))) (And.intro okl ?_))
      refine ⟨_, rfl, ite2 (fun e => absurd e (by decide)) (fun _ => ?_)⟩
      obtain ⟨kvt, hkt, tkt⟩ := tabs_same hTt k11
      have lkt : kvt.length ≤ 3 := by
        have h1 := tkt.length
        have h2 := hg'.2.1
        omega
      exact ⟨.ref dt, rfl, dt, _, rfl, DPut.k (k := (.inr (Str.ofString "zz"))) hkt (small1000 (by omega)), ⟨_, _, rfl⟩, same_upd (k.trans (k8.trans k11)) ndt7⟩
    · obtain ⟨⟨z5, z8, rfl⟩, k⟩ := hp
      refine ⟨.str (SX.S (textL ts)), rfl, textL ts, cls0, BK0, rfl, tx0.1, tx0.2.1, tx0.2.2.1, tx0.2.2.2.1, tx0.2.2.2.2, fun dt tts G8 k8 ndt hTt en2 hall => ?_⟩
      have ett := read_eq hg bo0 en2 hall pm en
      subst ett
      have hD1 := hTt.dv hg'.1
      have hD2 := (tabs_same hU7 (k.trans k8)).dv hg'.1
      have okl := (okTs hg').shows (by decide) (by decide)
      refine ⟨.ref du, rfl, .ref dt, .ref du, .dict (encKv tts), rfl, ?_⟩
      refine And.intro hD1 (And.intro hD2 (And.intro okl ?_))
      exact ⟨_, rfl, ⟨_, _, _, _, _, _, _, rfl⟩, hB7.same (k.trans k8)⟩
  · obtain ⟨⟨y2, y3, y4, y5, y6, y7, y8, rfl⟩, hB⟩ := hp
    exact q _

end LW

namespace LW
open PySem PySem.Spec PyProof.Rows L2 GL
theorem all_mk {l : PySem.W.OpenLaw} {w : World} {K : PySem.W.Frag} {h : Heap} {mg : Str → Option Value} {fa f0 f1 f2 f3 f4 f5 f6 f7 f8 f9 f10 f11 f12 f13 f14 f15 f16 f17 : Addr} (X : K.In h) (G : h.Ns mainGlobals mg) (hfa : mg "law" = some (.ref fa))
    {od0 an0 od1 an1 od2 an2 od3 an3 od4 an4 od5 an5 od6 an6 od7 an7 od8 an8 od9 an9 od10 an10 od11 an11 od12 an12 od13 an13 od14 an14 od15 an15 od16 an16 od17 an17 : Option Addr} {sl0 sl1 sl2 sl3 sl4 sl5 sl6 sl7 sl8 sl9 sl10 sl11 sl12 sl13 sl14 sl15 sl16 sl17 : Array (Option Value)} {oc0 kV0 dc0 pm0 cd0 ct0 oc1 kV1 dc1 pm1 cd1 ct1 oc2 kV2 dc2 pm2 cd2 ct2 oc3 kV3 dc3 pm3 cd3 ct3 oc4 kV4 dc4 pm4 cd4 ct4 oc5 kV5 dc5 pm5 cd5 ct5 oc6 kV6 dc6 pm6 cd6 ct6 oc7 kV7 dc7 pm7 cd7 ct7 oc8 kV8 dc8 pm8 cd8 ct8 oc9 kV9 dc9 pm9 cd9 ct9 oc10 kV10 dc10 pm10 cd10 ct10 oc11 kV11 dc11 pm11 cd11 ct11 oc12 kV12 dc12 pm12 cd12 ct12 oc13 kV13 dc13 pm13 cd13 ct13 oc14 kV14 dc14 pm14 cd14 ct14 oc15 kV15 dc15 pm15 cd15 ct15 oc16 kV16 dc16 pm16 cd16 ct16 oc17 kV17 dc17 pm17 cd17 ct17 u_LETTERS u_MOST_DIGITS u_MOST_NAME_SIGNS u_NAME_SIGNS : Value}
    (a0 : PySem.W.nsIn K mainGlobals "_law_bag" = some (some (.ref f0))) (l0 : K.lookup f0 = some ⟨oc0, od0, .func (PySem.W.fnOf "_law_bag" "_law_bag" (defArgs s_law_bag) (defBody s_law_bag) (defScope s_law_bag) .none kV0 dc0 pm0 an0 cd0 ct0), sl0⟩) (c0 : PySem.W.codeIn K cd0 "_law_bag" = true) (k0 : PySem.W.keepIn K (.ref f0) = true)
    (a1 : PySem.W.nsIn K mainGlobals "_law_take" = some (some (.ref f1))) (l1 : K.lookup f1 = some ⟨oc1, od1, .func (PySem.W.fnOf "_law_take" "_law_take" (defArgs s_law_take) (defBody s_law_take) (defScope s_law_take) .none kV1 dc1 pm1 an1 cd1 ct1), sl1⟩) (c1 : PySem.W.codeIn K cd1 "_law_take" = true) (k1 : PySem.W.keepIn K (.ref f1) = true)
    (a2 : PySem.W.nsIn K mainGlobals "_law_some" = some (some (.ref f2))) (l2 : K.lookup f2 = some ⟨oc2, od2, .func (PySem.W.fnOf "_law_some" "_law_some" (defArgs s_law_some) (defBody s_law_some) (defScope s_law_some) .none kV2 dc2 pm2 an2 cd2 ct2), sl2⟩) (c2 : PySem.W.codeIn K cd2 "_law_some" = true) (k2 : PySem.W.keepIn K (.ref f2) = true)
    (a3 : PySem.W.nsIn K mainGlobals "_law_alike" = some (some (.ref f3))) (l3 : K.lookup f3 = some ⟨oc3, od3, .func (PySem.W.fnOf "_law_alike" "_law_alike" (defArgs s_law_alike) (defBody s_law_alike) (defScope s_law_alike) .none kV3 dc3 pm3 an3 cd3 ct3), sl3⟩) (c3 : PySem.W.codeIn K cd3 "_law_alike" = true) (k3 : PySem.W.keepIn K (.ref f3) = true)
    (a4 : PySem.W.nsIn K mainGlobals "_law_mixed" = some (some (.ref f4))) (l4 : K.lookup f4 = some ⟨oc4, od4, .func (PySem.W.fnOf "_law_mixed" "_law_mixed" (defArgs s_law_mixed) (defBody s_law_mixed) (defScope s_law_mixed) .none kV4 dc4 pm4 an4 cd4 ct4), sl4⟩) (c4 : PySem.W.codeIn K cd4 "_law_mixed" = true) (k4 : PySem.W.keepIn K (.ref f4) = true)
    (a5 : PySem.W.nsIn K mainGlobals "_law_some_table" = some (some (.ref f5))) (l5 : K.lookup f5 = some ⟨oc5, od5, .func (PySem.W.fnOf "_law_some_table" "_law_some_table" (defArgs s_law_some_table) (defBody s_law_some_table) (defScope s_law_some_table) .none kV5 dc5 pm5 an5 cd5 ct5), sl5⟩) (c5 : PySem.W.codeIn K cd5 "_law_some_table" = true) (k5 : PySem.W.keepIn K (.ref f5) = true)
    (a6 : PySem.W.nsIn K mainGlobals "_law_some_tables" = some (some (.ref f6))) (l6 : K.lookup f6 = some ⟨oc6, od6, .func (PySem.W.fnOf "_law_some_tables" "_law_some_tables" (defArgs s_law_some_tables) (defBody s_law_some_tables) (defScope s_law_some_tables) .none kV6 dc6 pm6 an6 cd6 ct6), sl6⟩) (c6 : PySem.W.codeIn K cd6 "_law_some_tables" = true) (k6 : PySem.W.keepIn K (.ref f6) = true)
    (a7 : PySem.W.nsIn K mainGlobals "show_row" = some (some (.ref f7))) (l7 : K.lookup f7 = some ⟨oc7, od7, .func (PySem.W.fnOf "show_row" "show_row" (defArgs sshow_row) (defBody sshow_row) (defScope sshow_row) .none kV7 dc7 pm7 an7 cd7 ct7), sl7⟩) (c7 : PySem.W.codeIn K cd7 "show_row" = true) (k7 : PySem.W.keepIn K (.ref f7) = true)
    (a8 : PySem.W.nsIn K mainGlobals "show_tables" = some (some (.ref f8))) (l8 : K.lookup f8 = some ⟨oc8, od8, .func (PySem.W.fnOf "show_tables" "show_tables" (defArgs sshow_tables) (defBody sshow_tables) (defScope sshow_tables) .none kV8 dc8 pm8 an8 cd8 ct8), sl8⟩) (c8 : PySem.W.codeIn K cd8 "show_tables" = true) (k8 : PySem.W.keepIn K (.ref f8) = true)
    (a9 : PySem.W.nsIn K mainGlobals "_law_table_lines" = some (some (.ref f9))) (l9 : K.lookup f9 = some ⟨oc9, od9, .func (PySem.W.fnOf "_law_table_lines" "_law_table_lines" (defArgs s_law_table_lines) (defBody s_law_table_lines) (defScope s_law_table_lines) .none kV9 dc9 pm9 an9 cd9 ct9), sl9⟩) (c9 : PySem.W.codeIn K cd9 "_law_table_lines" = true) (k9 : PySem.W.keepIn K (.ref f9) = true)
    (a10 : PySem.W.nsIn K mainGlobals "words_of" = some (some (.ref f10))) (l10 : K.lookup f10 = some ⟨oc10, od10, .func (PySem.W.fnOf "words_of" "words_of" (defArgs swords_of) (defBody swords_of) (defScope swords_of) .none kV10 dc10 pm10 an10 cd10 ct10), sl10⟩) (c10 : PySem.W.codeIn K cd10 "words_of" = true) (k10 : PySem.W.keepIn K (.ref f10) = true)
    (a11 : PySem.W.nsIn K mainGlobals "read_integer" = some (some (.ref f11))) (l11 : K.lookup f11 = some ⟨oc11, od11, .func (PySem.W.fnOf "read_integer" "read_integer" (defArgs sread_integer) (defBody sread_integer) (defScope sread_integer) .none kV11 dc11 pm11 an11 cd11 ct11), sl11⟩) (c11 : PySem.W.codeIn K cd11 "read_integer" = true) (k11 : PySem.W.keepIn K (.ref f11) = true)
    (a12 : PySem.W.nsIn K mainGlobals "read_row" = some (some (.ref f12))) (l12 : K.lookup f12 = some ⟨oc12, od12, .func (PySem.W.fnOf "read_row" "read_row" (defArgs sread_row) (defBody sread_row) (defScope sread_row) .none kV12 dc12 pm12 an12 cd12 ct12), sl12⟩) (c12 : PySem.W.codeIn K cd12 "read_row" = true) (k12 : PySem.W.keepIn K (.ref f12) = true)
    (a13 : PySem.W.nsIn K mainGlobals "is_name" = some (some (.ref f13))) (l13 : K.lookup f13 = some ⟨oc13, od13, .func (PySem.W.fnOf "is_name" "is_name" (defArgs sis_name) (defBody sis_name) (defScope sis_name) .none kV13 dc13 pm13 an13 cd13 ct13), sl13⟩) (c13 : PySem.W.codeIn K cd13 "is_name" = true) (k13 : PySem.W.keepIn K (.ref f13) = true)
    (a14 : PySem.W.nsIn K mainGlobals "_read_head" = some (some (.ref f14))) (l14 : K.lookup f14 = some ⟨oc14, od14, .func (PySem.W.fnOf "_read_head" "_read_head" (defArgs s_read_head) (defBody s_read_head) (defScope s_read_head) .none kV14 dc14 pm14 an14 cd14 ct14), sl14⟩) (c14 : PySem.W.codeIn K cd14 "_read_head" = true) (k14 : PySem.W.keepIn K (.ref f14) = true)
    (a15 : PySem.W.nsIn K mainGlobals "read_tables" = some (some (.ref f15))) (l15 : K.lookup f15 = some ⟨oc15, od15, .func (PySem.W.fnOf "read_tables" "read_tables" (defArgs sread_tables) (defBody sread_tables) (defScope sread_tables) .none kV15 dc15 pm15 an15 cd15 ct15), sl15⟩) (c15 : PySem.W.codeIn K cd15 "read_tables" = true) (k15 : PySem.W.keepIn K (.ref f15) = true)
    (a16 : PySem.W.nsIn K mainGlobals "_law_loose" = some (some (.ref f16))) (l16 : K.lookup f16 = some ⟨oc16, od16, .func (PySem.W.fnOf "_law_loose" "_law_loose" (defArgs s_law_loose) (defBody s_law_loose) (defScope s_law_loose) .none kV16 dc16 pm16 an16 cd16 ct16), sl16⟩) (c16 : PySem.W.codeIn K cd16 "_law_loose" = true) (k16 : PySem.W.keepIn K (.ref f16) = true)
    (a17 : PySem.W.nsIn K mainGlobals "law" = some (some (.ref f17))) (l17 : K.lookup f17 = some ⟨oc17, od17, .func (PySem.W.fnOf "law" "law" (defArgs slaw) (defBody slaw) (defScope slaw) .none kV17 dc17 pm17 an17 cd17 ct17), sl17⟩) (c17 : PySem.W.codeIn K cd17 "law" = true) (k17 : PySem.W.keepIn K (.ref f17) = true)
    (z_abs : PySem.W.nsIn K mainGlobals "abs" = some none)
    (z_all : PySem.W.nsIn K mainGlobals "all" = some none)
    (z_dict : PySem.W.nsIn K mainGlobals "dict" = some none)
    (z_enumerate : PySem.W.nsIn K mainGlobals "enumerate" = some none)
    (z_int : PySem.W.nsIn K mainGlobals "int" = some none)
    (z_isinstance : PySem.W.nsIn K mainGlobals "isinstance" = some none)
    (z_len : PySem.W.nsIn K mainGlobals "len" = some none)
    (z_list : PySem.W.nsIn K mainGlobals "list" = some none)
    (z_range : PySem.W.nsIn K mainGlobals "range" = some none)
    (z_repr : PySem.W.nsIn K mainGlobals "repr" = some none)
    (z_set : PySem.W.nsIn K mainGlobals "set" = some none)
    (z_sorted : PySem.W.nsIn K mainGlobals "sorted" = some none)
    (z_str : PySem.W.nsIn K mainGlobals "str" = some none)
    (z_tuple : PySem.W.nsIn K mainGlobals "tuple" = some none)
    (z_zip : PySem.W.nsIn K mainGlobals "zip" = some none)
    (y_LETTERS : PySem.W.nsIn K mainGlobals "LETTERS" = some (some u_LETTERS)) (r_LETTERS : RelV (V.str lettersS) u_LETTERS)
    (y_MOST_DIGITS : PySem.W.nsIn K mainGlobals "MOST_DIGITS" = some (some u_MOST_DIGITS)) (r_MOST_DIGITS : RelV (V.int 4300) u_MOST_DIGITS)
    (y_MOST_NAME_SIGNS : PySem.W.nsIn K mainGlobals "MOST_NAME_SIGNS" = some (some u_MOST_NAME_SIGNS)) (r_MOST_NAME_SIGNS : RelV (V.int 20) u_MOST_NAME_SIGNS)
    (y_NAME_SIGNS : PySem.W.nsIn K mainGlobals "NAME_SIGNS" = some (some u_NAME_SIGNS)) (r_NAME_SIGNS : RelV (V.str signsS) u_NAME_SIGNS) :
    ∃ fd : FuncData, (∀ (s : Shared) (v : Value), BindsTo s fd ⟨[v], []⟩ [("script", v)]) ∧ ∀ base : Heap, K.In base → base.Ns mainGlobals mg → Fn0 l.prog w K mg base CX0 5 fa fd ["script"] (spLaw K) := by
  have e := hfa.symm.trans (PySem.W.mg_of X G a17)
  cases e
  have F0 := fun_mk (st := s_law_bag) l0 c0 k0
  have b0 := F0.binds (ps := ["script"]) fun _ _ _ _ _ _ us hl => match us, hl with | [_], _ => rfl
  have D0 : DefAt K mg "_law_bag" s_law_bag ["script"] := def_at X G a0 F0 b0
  have F1 := fun_mk (st := s_law_take) l1 c1 k1
  have b1 := F1.binds (ps := ["bag", "many"]) fun _ _ _ _ _ _ us hl => match us, hl with | [_, _], _ => rfl
  have D1 : DefAt K mg "_law_take" s_law_take ["bag", "many"] := def_at X G a1 F1 b1
  have F2 := fun_mk (st := s_law_some) l2 c2 k2
  have b2 := F2.binds (ps := ["bag", "things"]) fun _ _ _ _ _ _ us hl => match us, hl with | [_, _], _ => rfl
  have D2 : DefAt K mg "_law_some" s_law_some ["bag", "things"] := def_at X G a2 F2 b2
  have F3 := fun_mk (st := s_law_alike) l3 c3 k3
  have b3 := F3.binds (ps := ["found", "due"]) fun _ _ _ _ _ _ us hl => match us, hl with | [_, _], _ => rfl
  have D3 : DefAt K mg "_law_alike" s_law_alike ["found", "due"] := def_at X G a3 F3 b3
  have F4 := fun_mk (st := s_law_mixed) l4 c4 k4
  have b4 := F4.binds (ps := ["bag", "things"]) fun _ _ _ _ _ _ us hl => match us, hl with | [_, _], _ => rfl
  have D4 : DefAt K mg "_law_mixed" s_law_mixed ["bag", "things"] := def_at X G a4 F4 b4
  have F5 := fun_mk (st := s_law_some_table) l5 c5 k5
  have b5 := F5.binds (ps := ["bag", "most"]) fun _ _ _ _ _ _ us hl => match us, hl with | [_, _], _ => rfl
  have D5 : DefAt K mg "_law_some_table" s_law_some_table ["bag", "most"] := def_at X G a5 F5 b5
  have F6 := fun_mk (st := s_law_some_tables) l6 c6 k6
  have b6 := F6.binds (ps := ["bag", "most"]) fun _ _ _ _ _ _ us hl => match us, hl with | [_, _], _ => rfl
  have D6 : DefAt K mg "_law_some_tables" s_law_some_tables ["bag", "most"] := def_at X G a6 F6 b6
  have F7 := fun_mk (st := sshow_row) l7 c7 k7
  have b7 := F7.binds (ps := ["row"]) fun _ _ _ _ _ _ us hl => match us, hl with | [_], _ => rfl
  have D7 : DefAt K mg "show_row" sshow_row ["row"] := def_at X G a7 F7 b7
  have F8 := fun_mk (st := sshow_tables) l8 c8 k8
  have b8 := F8.binds (ps := ["tables"]) fun _ _ _ _ _ _ us hl => match us, hl with | [_], _ => rfl
  have D8 : DefAt K mg "show_tables" sshow_tables ["tables"] := def_at X G a8 F8 b8
  have F9 := fun_mk (st := s_law_table_lines) l9 c9 k9
  have b9 := F9.binds (ps := ["tables"]) fun _ _ _ _ _ _ us hl => match us, hl with | [_], _ => rfl
  have D9 : DefAt K mg "_law_table_lines" s_law_table_lines ["tables"] := def_at X G a9 F9 b9
  have F10 := fun_mk (st := swords_of) l10 c10 k10
  have b10 := F10.binds (ps := ["line"]) fun _ _ _ _ _ _ us hl => match us, hl with | [_], _ => rfl
  have D10 : DefAt K mg "words_of" swords_of ["line"] := def_at X G a10 F10 b10
  have F11 := fun_mk (st := sread_integer) l11 c11 k11
  have b11 := F11.binds (ps := ["word"]) fun _ _ _ _ _ _ us hl => match us, hl with | [_], _ => rfl
  have D11 : DefAt K mg "read_integer" sread_integer ["word"] := def_at X G a11 F11 b11
  have F12 := fun_mk (st := sread_row) l12 c12 k12
  have b12 := F12.binds (ps := ["words"]) fun _ _ _ _ _ _ us hl => match us, hl with | [_], _ => rfl
  have D12 : DefAt K mg "read_row" sread_row ["words"] := def_at X G a12 F12 b12
  have F13 := fun_mk (st := sis_name) l13 c13 k13
  have b13 := F13.binds (ps := ["thing"]) fun _ _ _ _ _ _ us hl => match us, hl with | [_], _ => rfl
  have D13 : DefAt K mg "is_name" sis_name ["thing"] := def_at X G a13 F13 b13
  have F14 := fun_mk (st := s_read_head) l14 c14 k14
  have b14 := F14.binds (ps := ["words"]) fun _ _ _ _ _ _ us hl => match us, hl with | [_], _ => rfl
  have D14 : DefAt K mg "_read_head" s_read_head ["words"] := def_at X G a14 F14 b14
  have F15 := fun_mk (st := sread_tables) l15 c15 k15
  have b15 := F15.binds (ps := ["text"]) fun _ _ _ _ _ _ us hl => match us, hl with | [_], _ => rfl
  have D15 : DefAt K mg "read_tables" sread_tables ["text"] := def_at X G a15 F15 b15
  have F16 := fun_mk (st := s_law_loose) l16 c16 k16
  have b16 := F16.binds (ps := ["bag", "tables"]) fun _ _ _ _ _ _ us hl => match us, hl with | [_, _], _ => rfl
  have D16 : DefAt K mg "_law_loose" s_law_loose ["bag", "tables"] := def_at X G a16 F16 b16
  have F17 := fun_mk (st := slaw) l17 c17 k17
  have g_LETTERS : ∃ u, mg "LETTERS" = some u ∧ RelV (V.str lettersS) u := ⟨_, PySem.W.mg_of X G y_LETTERS, r_LETTERS⟩
  have g_MOST_DIGITS : ∃ u, mg "MOST_DIGITS" = some u ∧ RelV (V.int 4300) u := ⟨_, PySem.W.mg_of X G y_MOST_DIGITS, r_MOST_DIGITS⟩
  have g_MOST_NAME_SIGNS : ∃ u, mg "MOST_NAME_SIGNS" = some u ∧ RelV (V.int 20) u := ⟨_, PySem.W.mg_of X G y_MOST_NAME_SIGNS, r_MOST_NAME_SIGNS⟩
  have g_NAME_SIGNS : ∃ u, mg "NAME_SIGNS" = some u ∧ RelV (V.str signsS) u := ⟨_, PySem.W.mg_of X G y_NAME_SIGNS, r_NAME_SIGNS⟩
  have m_abs : mg "abs" = none := PySem.W.mg_none_of X G z_abs
  have m_all : mg "all" = none := PySem.W.mg_none_of X G z_all
  have m_dict : mg "dict" = none := PySem.W.mg_none_of X G z_dict
  have m_enumerate : mg "enumerate" = none := PySem.W.mg_none_of X G z_enumerate
  have m_int : mg "int" = none := PySem.W.mg_none_of X G z_int
  have m_isinstance : mg "isinstance" = none := PySem.W.mg_none_of X G z_isinstance
  have m_len : mg "len" = none := PySem.W.mg_none_of X G z_len
  have m_list : mg "list" = none := PySem.W.mg_none_of X G z_list
  have m_range : mg "range" = none := PySem.W.mg_none_of X G z_range
  have m_repr : mg "repr" = none := PySem.W.mg_none_of X G z_repr
  have m_set : mg "set" = none := PySem.W.mg_none_of X G z_set
  have m_sorted : mg "sorted" = none := PySem.W.mg_none_of X G z_sorted
  have m_str : mg "str" = none := PySem.W.mg_none_of X G z_str
  have m_tuple : mg "tuple" = none := PySem.W.mg_none_of X G z_tuple
  have m_zip : mg "zip" = none := PySem.W.mg_none_of X G z_zip
  refine ⟨PySem.W.fnOf "law" "law" (defArgs slaw) (defBody slaw) (defScope slaw) .none kV17 dc17 pm17 an17 cd17 ct17, fun s v => .of_eq rfl, fun base _ _ => ?_⟩
  have C__law_bag : Cal l.prog w K mg base 1 "_law_bag" (spBag K) := ok_law_bag D0 m_abs
  have C__law_take : Cal l.prog w K mg base 1 "_law_take" spTake := ok_law_take D1 m_int
  have C__law_some : Cal l.prog w K mg base 2 "_law_some" (spSome K) := ok_law_some D2 C__law_take m_len
  have C__law_alike : Cal l.prog w K mg base 1 "_law_alike" (spAlikeW K) := ok_law_alike D3 m_repr
  have C__law_mixed : Cal l.prog w K mg base 2 "_law_mixed" (spMixed K) := ok_law_mixed D4 C__law_take m_len
  have C__law_some_table : Cal l.prog w K mg base 3 "_law_some_table" (spTab K) := ok_law_some_table D5 C__law_some C__law_take m_int m_range m_set m_sorted m_tuple
  have C__law_some_tables : Cal l.prog w K mg base 4 "_law_some_tables" (spTabs K) := ok_law_some_tables D6 C__law_mixed C__law_some_table C__law_take m_dict
  have C_show_row : Cal l.prog w K mg base 1 "show_row" (spShowRow K) := okshow_row D7 m_str
  have C_show_tables : Cal l.prog w K mg base 2 "show_tables" (spShowTs K) := okshow_tables D8 C_show_row m_sorted
  have C__law_table_lines : Cal l.prog w K mg base 1 "_law_table_lines" (spLines K) := ok_law_table_lines D9 m_sorted m_str
  have C_words_of : Cal l.prog w K mg base 1 "words_of" (spWords K) := okwords_of D10
  have C_read_integer : Cal l.prog w K mg base 1 "read_integer" spRI := okread_integer D11 m_int m_len m_str g_MOST_DIGITS
  have C_read_row : Cal l.prog w K mg base 2 "read_row" (spRR K) := okread_row D12 C_read_integer m_tuple
  have C_is_name : Cal l.prog w K mg base 1 "is_name" spNm := okis_name D13 m_all m_isinstance m_len m_str g_LETTERS g_MOST_NAME_SIGNS g_NAME_SIGNS
  have C__read_head : Cal l.prog w K mg base 2 "_read_head" (spRH K) := ok_read_head D14 C_is_name C_read_integer m_len
  have C_read_tables : Cal l.prog w K mg base 3 "read_tables" (spRT K) := okread_tables D15 C__read_head C_read_row C_words_of m_enumerate m_isinstance m_len m_sorted m_str m_tuple
  have C__law_loose : Cal l.prog w K mg base 3 "_law_loose" (spLoose K) := ok_law_loose D16 C__law_mixed C__law_some C__law_take m_int m_list m_str m_zip
  exact oklaw F17 C__law_alike C__law_bag C__law_loose C__law_some_tables C__law_table_lines C_read_tables C_show_tables m_dict m_range m_repr m_sorted
end LW
open PySem PySem.W PyProof.Rows
set_option maxRecDepth 100000 in
set_option maxHeartbeats 0 in
theorem PySem.Challenge.cw_enoughlooks_k04_whole_texts_of_tables_an_holds : PySem.Challenge.rw_enoughlooks_k04_whole_texts_of_tables_an.Holds := by
  w_on; o_law; k_head; (case hw => w_witness2)
  k_fill
  refine GL.walk0 (l := PySem.Challenge.rw_enoughlooks_k04_whole_texts_of_tables_an) (n := 63) (k := 5) (x := "script") (sp := fun w => LW.spLaw _) rfl (by decide) rfl ⟨rfl, by decide, by decide⟩ (fun w h Y => PySem.W.kIn_of Y) ?F (fun _ _ a ns hl _ hS => ⟨a, ns, rfl, hS, hl, fun _ => rfl⟩)
  case F =>
    intro w mg fa h KX G hmg
    refine' LW.all_mk KX G hmg ?a0 ?l0 ?c0 ?k0 ?a1 ?l1 ?c1 ?k1 ?a2 ?l2 ?c2 ?k2 ?a3 ?l3 ?c3 ?k3 ?a4 ?l4 ?c4 ?k4 ?a5 ?l5 ?c5 ?k5 ?a6 ?l6 ?c6 ?k6 ?a7 ?l7 ?c7 ?k7 ?a8 ?l8 ?c8 ?k8 ?a9 ?l9 ?c9 ?k9 ?a10 ?l10 ?c10 ?k10 ?a11 ?l11 ?c11 ?k11 ?a12 ?l12 ?c12 ?k12 ?a13 ?l13 ?c13 ?k13 ?a14 ?l14 ?c14 ?k14 ?a15 ?l15 ?c15 ?k15 ?a16 ?l16 ?c16 ?k16 ?a17 ?l17 ?c17 ?k17 ?z_abs ?z_all ?z_dict ?z_enumerate ?z_int ?z_isinstance ?z_len ?z_list ?z_range ?z_repr ?z_set ?z_sorted ?z_str ?z_tuple ?z_zip ?y_LETTERS ?r_LETTERS ?y_MOST_DIGITS ?r_MOST_DIGITS ?y_MOST_NAME_SIGNS ?r_MOST_NAME_SIGNS ?y_NAME_SIGNS ?r_NAME_SIGNS
    (case a0 => k_is); (case l0 => k_is); (case c0 => k_is); (case k0 => k_is)
    (case a1 => k_is); (case l1 => k_is); (case c1 => k_is); (case k1 => k_is)
    (case a2 => k_is); (case l2 => k_is); (case c2 => k_is); (case k2 => k_is)
    (case a3 => k_is); (case l3 => k_is); (case c3 => k_is); (case k3 => k_is)
    (case a4 => k_is); (case l4 => k_is); (case c4 => k_is); (case k4 => k_is)
    (case a5 => k_is); (case l5 => k_is); (case c5 => k_is); (case k5 => k_is)
    (case a6 => k_is); (case l6 => k_is); (case c6 => k_is); (case k6 => k_is)
    (case a7 => k_is); (case l7 => k_is); (case c7 => k_is); (case k7 => k_is)
    (case a8 => k_is); (case l8 => k_is); (case c8 => k_is); (case k8 => k_is)
    (case a9 => k_is); (case l9 => k_is); (case c9 => k_is); (case k9 => k_is)
    (case a10 => k_is); (case l10 => k_is); (case c10 => k_is); (case k10 => k_is)
    (case a11 => k_is); (case l11 => k_is); (case c11 => k_is); (case k11 => k_is)
    (case a12 => k_is); (case l12 => k_is); (case c12 => k_is); (case k12 => k_is)
    (case a13 => k_is); (case l13 => k_is); (case c13 => k_is); (case k13 => k_is)
    (case a14 => k_is); (case l14 => k_is); (case c14 => k_is); (case k14 => k_is)
    (case a15 => k_is); (case l15 => k_is); (case c15 => k_is); (case k15 => k_is)
    (case a16 => k_is); (case l16 => k_is); (case c16 => k_is); (case k16 => k_is)
    (case a17 => k_is); (case l17 => k_is); (case c17 => k_is); (case k17 => k_is)
    (case z_abs => k_is)
    (case z_all => k_is)
    (case z_dict => k_is)
    (case z_enumerate => k_is)
    (case z_int => k_is)
    (case z_isinstance => k_is)
    (case z_len => k_is)
    (case z_list => k_is)
    (case z_range => k_is)
    (case z_repr => k_is)
    (case z_set => k_is)
    (case z_sorted => k_is)
    (case z_str => k_is)
    (case z_tuple => k_is)
    (case z_zip => k_is)
    (case y_LETTERS => k_is); (case r_LETTERS => exact ⟨_, rfl⟩)
    (case y_MOST_DIGITS => k_is); (case r_MOST_DIGITS => exact ⟨_, rfl⟩)
    (case y_MOST_NAME_SIGNS => k_is); (case r_MOST_NAME_SIGNS => exact ⟨_, rfl⟩)
    (case y_NAME_SIGNS => k_is); (case r_NAME_SIGNS => exact ⟨_, rfl⟩)
