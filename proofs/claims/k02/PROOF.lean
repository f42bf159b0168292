import PyProof.Rows.All
import Wide.All
import OpenK.AllK
import Wide.FinOn
import HandS.ForMost
import HandS.TupSets
import KE.SortData
import HandS.SortKw
import HandS.Codes
import HandS.SetFor
import HandS.Strs
import HandS.TupAny
import HandS.Conv
import PySem.Challenge.RW_enoughlooks_k02_tables_and_nearest_value
set_option Elab.async false
set_option linter.all false
set_option maxRecDepth 100000
set_option maxHeartbeats 4000000
/-! a def's promise, for calls around which no repr runs; repr of data -/
namespace GL
open PySem PySem.Spec PyProof.Rows L2

structure Fn0 (P : Program) (w : World) (K : PySem.W.Frag) (mg : Str → Option Value)
    (base : Heap) (CX : CXT) (k : Nat) (f : Addr) (fd : FuncData) (ps : List Str) (sp : Sp) : Prop where
  len : ∀ vs H Q E, sp vs H Q E → vs.length = ps.length
  go : ∀ (A : Around) (outer : List Env) (s : Shared) (H : Hp) (args : Args) (us : List Value) (vs : List V)
    (Q : VK) (E : XK), A.guards = some [] → Room k A → Env0 P w K mg base A outer s H →
    BindsTo s fd args (ps.zip us) → Vals vs us → sp vs H Q E →
    codeAny (model P w) A (.call (.ref f) args) (CR CX outer P w H s Q E) s

section
variable {P : Program} {w : World} {K : PySem.W.Frag} {mg : Str → Option Value} {base : Heap}
theorem fn0_up {CX : CXT} {k : Nat} {f : Addr} {fd : FuncData} {ps : List Str} {sp : Sp}
    (F : FnOk P w K mg base CX k f fd ps sp) : Fn0 P w K mg base CX k f fd ps sp :=
  ⟨F.len, fun A outer s H args us vs Q E _ hr he hb hv hs => F.run A outer s H args us vs Q E hr he hb hv hs⟩
theorem fn0_mono {CX : CXT} {j k : Nat} {f : Addr} {fd : FuncData} {ps : List Str} {sp : Sp}
    (F : Fn0 P w K mg base CX j f fd ps sp) (h : j ≤ k) : Fn0 P w K mg base CX k f fd ps sp :=
  ⟨F.len, fun A outer s H args us vs Q E hg hr => F.go A outer s H args us vs Q E hg (hr.mono h)⟩

theorem fn0_of {x qual : Str} {st : Stmt} {f : Addr} {fd : FuncData} {N ps : List Str} {k : Nat} {sp : Sp}
    (F : Fun K x qual st f fd) (S : FnScope N ps (defScope st)) (len : ∀ vs H Q E, sp vs H Q E → vs.length = ps.length)
    (body : ∀ (cdv : Value) (A : Around) (outer : List Env) (s : Shared) (H : Hp) (vs : List V) (Q : VK) (E : XK),
      A.guards = some [] →
      Room k (A.deeper (envOfC qual (defScope st) s.heap.objs.size f cdv)) → sp vs H Q E →
      ∃ t, PSs (cxOf CX0 P w K mg base N qual (defScope st) f cdv A outer s H E).nox (defBody st) t ∧
        t { nx := fun _ H' => Q .non H', rt := Q } (start N vs) H) :
    Fn0 P w K mg base CX0 (k + 1) f fd ps sp := by
  obtain ⟨oc, od, kV, doc, pm, an, cdv, ct, osl, rfl, lk, hcd⟩ := F.ex
  refine ⟨len, fun A outer s H args us vs Q E hG hr e0 hb r hsp => ?_⟩
  have L1 := len _ _ _ _ hsp
  have bk : ∀ b o, base.get? b = some o → s.heap.get? b = some o := fun b o e => (e0.bs b o e).1
  have inS : K.In s.heap := e0.mod.kin.keeps bk
  have lim : s.heap.NoLimit := e0.mod.nolimit.keeps bk
  have kinds : ∀ y ∈ ps.zip us, (defScope st).names.lookup y.1 = some .local ∨
      ((defScope st).names.lookup y.1 = some .cell ∧
        ((cellsFrom (s.heap.objs.size + 1) (defScope st).names []).lookup y.1).isSome = true) := by
    rintro ⟨n, v⟩ hy
    have hn := (List.of_mem_zip hy).1
    cases S.par n hn with
    | inl q => exact .inl q
    | inr q => exact .inr ⟨q, PySem.W.cellsFrom_some _ _ _ (.inl q)⟩
  refine codeAny_call_function hr.depth (inS _ _ lk) rfl S.co S.gen rfl (PySem.W.codeRec_of inS hcd) (hb _ _ _ _ ?_)
  refine wpAny_newFunctionEnv_cells S.kind kinds fun env he s1 x => ?_
  subst he
  refine ⟨lim.keeps x.toInCall.keep, codeAny_func ?_⟩
  obtain ⟨t, ht0, hq⟩ := body cdv A outer s H vs Q E hG (hr.deeper _) hsp
  have ht := ht0.nox
  have I0 : Inv (cxOf CX0 P w K mg base N qual (defScope st) f cdv A outer s H E) [] (start N vs) H s1 :=
    inv_start S hr.hd e0 L1 r x
  refine wpAny_mono (ht.run [] s1 (start N vs) H _ I0 hq) (fun fl s' hs => ?_) fun _ _ z => z
  cases fl with
  | ret u =>
    obtain ⟨v, σ', H', J, rv, q⟩ := hs
    exact ⟨v, H', J.os, J.bare, J.base, J.hok, rv, q⟩
  | next =>
    obtain ⟨σ', H', J, q⟩ := hs
    exact ⟨.non, H', J.os, J.bare, J.base, J.hok, rfl, q⟩
  | brk => obtain ⟨_, _, _, q⟩ := hs; exact q.elim
  | cont => obtain ⟨_, _, _, q⟩ := hs; exact q.elim
end

section
variable {X : Cx} {CX : CXT} {k : Nat} {f : Addr} {fd : FuncData} {ps : List Str} {sp : Sp} {dvs : List V} {ds : List Value} {E : XK}
  {x : Str} {p pos : Pos} {e : Expr} {es : List Expr} {t : TA}
theorem go_fn {pins : List (Addr × Obj)} {σ : L2.St} {H : Hp} {s : Shared} {Q : VK} {us : List Value} {vs : List V}
    (F : Fn0 X.prog X.w X.K X.mg X.base CX k f fd ps sp) (hG : X.A.guards = some []) (hr : Room k X.A)
    (hb : Binds X.K fd ps ds) (hd : Vals dvs ds) (hx : Passes CX X E)
    (I : Inv X pins σ H s) (r : Vals vs us) (h : sp (vs ++ dvs) H Q E) :
    wpAny (model X.prog X.w) X.A (call (.ref f) us) (EP X pins σ Q) X.xe s := by
  have r2 : Vals (vs ++ dvs) (us ++ ds) := r.append hd
  have hl := F.len _ _ _ _ h
  rw [r2.length] at hl
  have run := F.go X.A X.stack s H ⟨us, []⟩ (us ++ ds) (vs ++ dvs) Q E hG hr I.env0 (hb s us I.kIn hl) r2 h
  refine wpAny_call (codeAny_mono run fun r s' hq => ?_)
  cases r with
  | error e => exact hx pins σ H s e s' I hq
  | ok fl => cases fl with
    | ret u => exact I.after hq
    | next => exact hq.elim
    | brk => exact hq.elim
    | cont => exact hq.elim

theorem pe_call0g (F : Fn0 X.prog X.w X.K X.mg X.base CX k f fd ps sp) (hG : X.A.guards = some []) (hr : Room k X.A)
    (hg : Gl X x) (hm : X.mg x = some (.ref f)) (hk : PySem.W.keepIn X.K (.ref f) = true)
    (hb : Binds X.K fd ps ds) (hd : Vals dvs ds) (hx : Passes CX X E) (ha : PA X (e :: es) t)
    (hdb : (x == ("__debug__" : Str)) = false := by decide)
    (he : starEach (e :: es) X.env = (false, eval e X.env) :: starEach es X.env := by rfl)
    (hpl : (backTo pos (starEach es X.env)).any (·.1) = false := by rfl) :
    PE X (.Call (.Name x p) (e :: es) [] pos) (tCall sp dvs E t) := by
  constructor
  intro pins s σ H Q I h
  refine wpAny_Call_Name_kw (ld_glob I hg hm ?_ hdb)
  refine PySem.W.callWith_K (h₀ := X.base) I.ok.mod.kin hk ?_ he hpl
  refine thn (ha.run pos pins s σ H _ I h) ?_
  rintro us s1 ⟨vs, H1, I1, r, q⟩
  exact ⟨I1.kIn, go_fn F hG hr hb hd hx I1 r q⟩
end

/-! ### repr of data -/
/-- the text of a datum fits -/
def Shows (d : PyData) : Prop := d.showable = true ∧ d.hasDict = false ∧ d.depth ≤ 60 ∧ d.shown.length ≤ sizeLine
def rRepr (K : PySem.W.Frag) : List V → Hp → VK → Prop := fun xs H Q => ∃ x d, xs = [x] ∧ Dp K H x d ∧ Shows d ∧ (∃ a, x = .ref a) ∧ Q (.str d.shown) H
theorem call_reprD {X : Cx} (hG : X.A.guards = some []) (hu : X.A.units + 64 < cLine) : CallR X (.builtin "repr") (rRepr X.K) := by
  intro pins s σ H xs us Q I r h
  obtain ⟨x, d, rfl, hd, ⟨h1, h2, h3, h4⟩, ⟨a, rfl⟩, q⟩ := h
  cases r with
  | cons rx rn =>
    cases rn
    cases rx
    obtain ⟨as, hr⟩ := Dp.reads I d _ _ hd rfl
    refine repr_of_reads' hr h1 (fun z => by rw [h2] at z; cases z) hG (by omega) (fun _ _ e => e) (fun h' u tk hk => ?_) h4
    exact ⟨.str d.shown, H, I.kept hk, ⟨_, rfl⟩, q⟩
end GL

namespace GL
open PySem PySem.Spec PyProof.Rows L2

section
variable {P : Program} {w : World} {K : PySem.W.Frag} {mg mb : Str → Option Value} {k : Nat} {fa a : Addr} {fd : FuncData} {x : Str}
  {sp : Sp} {s1 : Shared} {vs : List Value} {ns : List Int}
/-- what is wanted behind the law's call -/
def Good (s1 : Shared) (r : Result) (s' : Shared) : Prop :=
  r = .ok (.ret (.bool true)) ∧ PySem.OldK s1.heap s'.heap ∧ s'.os = s1.os ∧ AllBare s'.gens

theorem law0_core (KX : K.In s1.heap) (hns : s1.heap.Ns mainGlobals mg) (hb : s1.heap.Ns builtinsNs mb)
    (hbb : ∀ y : Str, y ≠ "__name__" → mb y = bootBuiltins y) (hlim : s1.heap.NoLimit) (hg : s1.gens = #[])
    (ha : s1.heap.get? a = some { cls := .type "list", data := .seq vs.toArray }) (hr : Room k callerA)
    (F : ∀ base : Heap, K.In base → base.Ns mainGlobals mg → Fn0 P w K mg base CX0 k fa fd [x] sp)
    (bind : ∀ (s : Shared) (u : Value), BindsTo s fd ⟨[u], []⟩ [(x, u)])
    (H : Hp) (hO : Only H) (want : sp [.ref a] H (fun v _ => v = .bl true) fun _ _ _ => False)
    (hok : HOk P w H s1.heap) (hA : ∀ b, H b ≠ none → b = a) (hK : H a ≠ none → K.lookup a = none) :
    codeAny (model P w) callerA (.call (.ref fa) ⟨[.ref a], []⟩) (Good s1) s1 := by
  have off : ∀ {b : Addr} {o : Obj}, s1.heap.get? b = some o → b ≠ a ∨ H b = none → (hidT s1.heap H).get? b = some o := by
    intro b o e z
    refine hidT_get e ?_
    rcases z with z | z
    · cases q : H b with
      | none => rfl
      | some u => exact absurd (hA b (by simp [q])) z
    · exact z
  have dictNe : ∀ {b : Addr} {o : Obj} {es : Array DictEntry} {ep : Nat}, s1.heap.get? b = some o → o.data = .dict es ep → b ≠ a := by
    intro b o es ep e d z
    subst z
    rw [ha] at e
    cases e
    cases d
  have nsK : ∀ {b : Addr} {m : Str → Option Value}, s1.heap.Ns b m → (hidT s1.heap H).Ns b m := by
    rintro b m ⟨o, es, ep, e, d, r⟩
    exact ⟨o, es, ep, off e (.inl (dictNe e d)), d, r⟩
  have inB : K.In (hidT s1.heap H) := by
    intro b o e
    refine off (KX b o e) ?_
    by_cases z : b = a
    · subst z
      cases q : H b with
      | none => exact .inr rfl
      | some u =>
        have := hK (by simp [q])
        rw [this] at e
        cases e
    · exact .inl z
  obtain ⟨mc, l1, l2⟩ := hlim
  have M : Mod K mg (hidT s1.heap H) := ⟨inB, nsK hns, ⟨mb, nsK hb, hbb⟩, ⟨mc, nsK l1, l2⟩⟩
  have e0 : Env0 P w K mg (hidT s1.heap H) callerA [] s1 H :=
    { frames := rfl, mod := M, bs := fun b o e => of_hidT e, bsz := Nat.le_of_eq (hidT_size _ _), funs := trivial,
      frf := fun b z => absurd (show b ∈ ([] : List Addr) from z) (by simp), hok := hok, bare := .of_eq hg }
  have run := (F _ inB (nsK hns)).go callerA [] s1 H ⟨[.ref a], []⟩ [.ref a] [.ref a] _ _ rfl hr e0 (bind s1 (.ref a)) (.cons rfl .nil) want
  refine codeAny_mono run fun r s' h => ?_
  match r, h with
  | .error e, h => exact (h : False).elim
  | .ok .next, h => exact (h : False).elim
  | .ok .brk, h => exact (h : False).elim
  | .ok .cont, h => exact (h : False).elim
  | .ok (.ret u), h =>
    obtain ⟨v, H', os, bare, un, hok', rv, q⟩ := h
    have q' : v = .bl true := q
    subst q'
    have eu : u = Value.bool true := rv
    subst eu
    refine ⟨rfl, OldK.of_keep fun b o e => ?_, os, bare⟩
    rcases hO b with z | ⟨ob, xs, z⟩
    · exact un.keep b o e z (fun n => nomatch n) (fun n => nomatch n)
    · have h1 := (hok b _ z).1
      have h2 := (hok' b _ (un.frzs b ob _ z)).1
      rw [e] at h1
      cases h1
      exact h2

theorem law0_call (KX : K.In s1.heap) (hns : s1.heap.Ns mainGlobals mg) (hb : s1.heap.Ns builtinsNs mb)
    (hbb : ∀ y : Str, y ≠ "__name__" → mb y = bootBuiltins y) (hlim : s1.heap.NoLimit) (hg : s1.gens = #[])
    (ha : s1.heap.get? a = some { cls := .type "list", data := .seq vs.toArray }) (hi : IntsAre vs ns) (hl : ns.length ≤ sizeLine)
    (hr : Room k callerA)
    (F : ∀ base : Heap, K.In base → base.Ns mainGlobals mg → Fn0 P w K mg base CX0 k fa fd [x] sp)
    (bind : ∀ (s : Shared) (u : Value), BindsTo s fd ⟨[u], []⟩ [(x, u)])
    (want : ∀ H : Hp, Only H → SqL K H a (ns.map V.int) → sp [.ref a] H (fun v _ => v = .bl true) fun _ _ _ => False) :
    codeAny (model P w) callerA (.call (.ref fa) ⟨[.ref a], []⟩) (Good s1) s1 := by
  have rv := vals_ints hi
  have lenV := hi.length
  cases hk : K.lookup a with
  | some o =>
    have e := KX a o hk
    rw [ha] at e
    cases e
    have hO : Only (fun _ => none) := fun _ => .inl rfl
    have hS : SqL K (fun _ => none) a (ns.map V.int) :=
      .inr ⟨_, vs.toArray, _, hk, rfl, rfl, rfl, by rw [List.size_toArray, lenV]; exact hl, by simpa using rv⟩
    exact law0_core KX hns hb hbb hlim hg ha hr F bind _ hO (want _ hO hS)
      (fun b u z => by have z' : (none : Option HO) = some u := z; cases z') (fun b z => absurd rfl z) fun z => absurd rfl z
  | none =>
    let H0 : Hp := fun b => if b = a then some (.frz { cls := .type "list", data := .seq vs.toArray } (.lst (ns.map V.int))) else none
    have at0 : H0 a = some (.frz { cls := .type "list", data := .seq vs.toArray } (.lst (ns.map V.int))) := if_pos rfl
    have ne0 : ∀ b, b ≠ a → H0 b = none := fun b z => if_neg z
    have hO : Only H0 := by
      intro b
      by_cases z : b = a
      · subst z; exact .inr ⟨_, _, at0⟩
      · exact .inl (ne0 b z)
    have hS : SqL K H0 a (ns.map V.int) := .inl (.inr ⟨_, at0⟩)
    refine law0_core KX hns hb hbb hlim hg ha hr F bind H0 hO (want H0 hO hS) (fun b u z => ?_) (fun b z => ?_) fun _ => hk
    · by_cases q : b = a
      · subst q
        rw [at0] at z
        cases z
        exact ⟨ha, by rw [List.length_map]; exact hl, vs, _, rv, ha⟩
      · rw [ne0 b q] at z
        cases z
    · exact Classical.byContradiction fun q => z (ne0 b q)
end

theorem walk0 {l : PySem.W.OpenLaw} {n k : Nat} {q : Program} {loose : List Str} {XP : (Str → Option Value) → Heap → Prop}
    {YP : World → Heap → Prop} {d : DefRec} {K : Params → PySem.W.Frag} {sp : World → Sp} {x : Str}
    (hn : l.most = some n) (hn2 : n ≤ sizeLine) (hdf : d.params.defaults = []) (hr : Room k callerA)
    (hY : ∀ (w : World) (h : Heap), YP w h → (K w.params).In h)
    (F : ∀ (w : World) (mg : Str → Option Value) (fa : Addr) (h : Heap), (K w.params).In h → h.Ns mainGlobals mg →
      mg d.name = some (.ref fa) → ∃ fd : FuncData, (∀ (s : Shared) (u : Value), BindsTo s fd ⟨[u], []⟩ [(x, u)]) ∧
        ∀ base : Heap, (K w.params).In base → base.Ns mainGlobals mg → Fn0 l.prog w (K w.params) mg base CX0 k fa fd [x] (sp w))
    (want : ∀ (w : World) (H : Hp) (a : Addr) (ns : List Int), ns.length ≤ n → Only H → SqL (K w.params) H a (ns.map V.int) →
      sp w [.ref a] H (fun v _ => v = .bl true) fun _ _ _ => False) :
    PySem.W.WalkO q loose XP YP l.row.toRowW d [] (fun f vs => PySem.call f vs) := by
  refine Att.attach_call hn hdf ?_
  intro w s0 s1 mg mb fa o pm cd doc a vs ns G Y ho hd hcd hmg hobj hints hlen hg
  have KX := hY w _ Y
  obtain ⟨fd, hb, hF⟩ := F w mg fa _ KX G.T.g hmg
  exact law0_call KX G.T.g G.T.b G.T.builtins G.T.nolimit hg hobj hints (Nat.le_trans hlen hn2) hr hF hb
    fun H hO hS => want w H a ns hlen hO hS
end GL

/-! sorted of lists, tuples, sets of tuples of whole numbers (any sign) -/
namespace GL
open PySem PySem.Spec PyProof.Rows L2

abbrev encR : List Int → PyData := fun r => .tuple (r.map .int)

theorem perm_lift {α β : Type} (f : α → β) : ∀ (out : List β) (l : List α), out.Perm (l.map f) → ∃ l' : List α, l'.map f = out ∧ l'.Perm l
  | [], l, h => by
    have e : l.map f = [] := List.Perm.eq_nil h.symm
    have e' : l = [] := List.map_eq_nil_iff.mp e
    exact ⟨[], rfl, by rw [e']⟩
  | y :: out, l, h => by
    have hm : y ∈ l.map f := h.mem_iff.mp List.mem_cons_self
    obtain ⟨b, hb, rfl⟩ := List.mem_map.mp hm
    obtain ⟨l1, l2, rfl⟩ := List.append_of_mem hb
    have h2 : (f b :: out).Perm (f b :: (l1 ++ l2).map f) := by
      refine h.trans ?_
      rw [List.map_append, List.map_cons, List.map_append]
      exact List.perm_middle
    obtain ⟨l', e, p⟩ := perm_lift f out (l1 ++ l2) h2.cons_inv
    exact ⟨b :: l', by rw [List.map_cons, e], (p.cons b).trans List.perm_middle.symm⟩

theorem dataLe_encR {β : Type} (x : β → List Int) : PySem.W.dataLe false (fun b => encR (x b)) = fun p q => decide (x p ≤ x q) := by
  funext p q
  show (!PySem.W.dataLt (.tuple ((x q).map .int)) (.tuple ((x p).map .int))) = _
  rw [PySem.W.dataLt_tuple]
  show (!PySem.W.rowLt ((x q).map .int) ((x p).map .int)) = _
  rw [PySem.W.dataLt_ints]
  rcases Classical.em (x q < x p) with h | h
  · simp [h, fun r : x p ≤ x q => List.not_lt.mpr r h]
  · simp [h, List.not_lt.mp h]

theorem each_fst {β γ : Type} : ∀ (l : List (β × γ)), PySem.W.EachIs (fun v b => v = b.1) (l.map (·.1)) l
  | [] => .nil
  | b :: l => .cons rfl (each_fst l)
theorem fst_each {β γ : Type} : ∀ {vs : List β} {l : List (β × γ)}, PySem.W.EachIs (fun v b => v = b.1) vs l → vs = l.map (·.1)
  | _, _, .nil => rfl
  | _, _, .cons e t => by rw [List.map_cons, e, fst_each t]
theorem each_of {β γ : Type} {R : β → β × γ → Prop} : ∀ {l : List (β × γ)}, (∀ b ∈ l, R b.1 b) → PySem.W.EachIs R (l.map (·.1)) l
  | [], _ => .nil
  | b :: l, h => .cons (h b List.mem_cons_self) (each_of fun c hc => h c (List.mem_cons_of_mem _ hc))

section
variable {prog : Program} {w : World} {A : Around} {E : Value → Shared → Prop} {s : Shared}
theorem sorted_gather {x : Value} {Q : Value → Shared → Prop} {bs : List (Value × List Int)}
    (hcol : ∀ (E' : Value → Shared → Prop) (Q' : List Value → Shared → Prop),
      (∀ s' out, (∀ b o, s.heap.get? b = some o → s'.heap.get? b = some o) → s.heap.objs.size ≤ s'.heap.objs.size → s'.gens = s.gens → s'.os = s.os →
        out.Perm (bs.map (·.1)) → Q' out s') → wpAny (model prog w) A.in1 (collect x) Q' E' s)
    (hr : ∀ b ∈ bs, b.2 ≠ [] ∧ ∃ as, Reads s.heap b.1 (encR b.2) as) (hL : bs.length ≤ sizeLine) (hu : A.units + 64 < cLine)
    (h : ∀ s' p c (bs' : List (Value × List Int)), (∀ b o, s.heap.get? b = some o → s'.heap.get? b = some o) → s'.gens = s.gens → s'.os = s.os →
      s.heap.objs.size ≤ p → s'.heap.get? p = some (seqObj "list" (bs'.map (·.1)).toArray c) → bs'.Perm bs → (bs'.map (·.2)).Pairwise (· ≤ ·) → Q (.ref p) s') :
    wpAny (model prog w) A (call (.builtin "sorted") [x]) Q E s := by
  refine Calls.call_function_entry kind_sorted plain_sorted entry_sorted (args_sorted1 _) ?_
  unfold Builtin.«sorted»
  refine wpAny_bind (m := checkCount "sorted" 1 1 _) (wpAny_pure ?_)
  refine wpAny_bind (hcol _ _ fun s1 out k1 z1 g1 o1 pm => ?_)
  obtain ⟨b1, e1, p1⟩ := perm_lift _ out bs pm
  subst e1
  have l1 : (b1.map (·.1)).length ≤ sizeLine := by rw [List.length_map, p1.length_eq]; exact hL
  refine wpAny_bind (wpAny_newList ?_ l1)
  have ho : (s1.heap.push (seqObj "list" (b1.map (·.1)).toArray 0)).get? s1.heap.objs.size = some (seqObj "list" (b1.map (·.1)).toArray 0) := Heap.get?_push_size _ rfl
  have old : ∀ b o, s.heap.get? b = some o → (PySem.W.sortingHeap (s1.heap.push (seqObj "list" (b1.map (·.1)).toArray 0)) s1.heap.objs.size (b1.map (·.1))).get? b = some o := by
    intro b o e
    have e2 := k1 b o e
    exact PySem.W.sortingHeap_old (Nat.ne_of_lt (Heap.lt_size e2)) (Heap.get?_push_of_some _ e2)
  have er : PySem.W.EachIs (fun v (b : Value × List Int) => ∃ as, Reads (PySem.W.sortingHeap (s1.heap.push (seqObj "list" (b1.map (·.1)).toArray 0)) s1.heap.objs.size (b1.map (·.1))) v (encR b.2) as) (b1.map (·.1)) b1 :=
    each_of fun b hb => by
      obtain ⟨_, as, r⟩ := hr b (p1.mem_iff.mp hb)
      exact ⟨as, PyProof.Rows.Reads.keeps old r⟩
  have hal : PySem.W.AllAlike (b1.map fun b => encR b.2) := PySem.W.AllAlike.of fun b c => by
    show PySem.W.alike (.tuple _) (.tuple _) = true
    rw [PySem.W.alike]
    exact PySem.W.alike_ints _ _
  have hk : PySem.W.Sortable (b1.map fun b => encR b.2) := .inl fun d hd => by
    obtain ⟨b, hb, rfl⟩ := List.mem_map.mp hd
    obtain ⟨n0, _⟩ := hr b (p1.mem_iff.mp hb)
    obtain ⟨_, r⟩ := b
    cases r with
    | nil => exact absurd rfl n0
    | cons i r => exact ⟨_, _, rfl⟩
  have S := PySem.W.SortsAt.data (prog := prog) (w := w) (A := A.in1.in1) (s := { s1 with heap := PySem.W.sortingHeap (s1.heap.push (seqObj "list" (b1.map (·.1)).toArray 0)) s1.heap.objs.size (b1.map (·.1)) })
    (PySem.W.each_map (R := fun v d => ∃ as, Reads (PySem.W.sortingHeap (s1.heap.push (seqObj "list" (b1.map (·.1)).toArray 0)) s1.heap.objs.size (b1.map (·.1))) v d as) (fun b : Value × List Int => encR b.2) er) hal hk (fun d hd => by
      obtain ⟨b, _, rfl⟩ := List.mem_map.mp hd
      have dp : (encR b.2).depth = 1 := by
        show PyData.depth (.tuple _) = 1
        rw [PyData.depth, PySem.W.depth_ints]
      rw [dp]
      show A.units + 1 + 1 + 1 < cLine
      omega)
  refine wpAny_bind (wpAny_holding (wpAny_call_entry slot_list_sort ⟨_, ho, rfl⟩ entry_list_sort ?body (args_list_sort _)))
  case body =>
    refine PySem.W.list_sort_vals (s := { s1 with heap := s1.heap.push (seqObj "list" (b1.map (·.1)).toArray 0) }) ho S l1 ⟨_, rfl, wpAny_pure ⟨_, rfl, ?_⟩⟩
    have eo := PySem.W.sortVals_data (R := fun (v : Value) (b : Value × List Int) => v = b.1) false (each_fst b1) er hal
    have eo2 := fst_each eo
    rw [eo2]
    obtain ⟨c, hc⟩ := PyProof.Rows.sortedHeap_at (vs := b1.map (·.1)) (out := ((b1.mergeSort (PySem.W.dataLe false fun b => encR b.2)).map (·.1)).toArray) ho
    refine h _ s1.heap.objs.size c (b1.mergeSort (PySem.W.dataLe false fun b => encR b.2)) (fun b o e => ?_) g1 o1 z1 hc ((List.mergeSort_perm _ _).trans p1) ?_
    · have e2 := k1 b o e
      have e3 : (s1.heap.push (seqObj "list" (b1.map (·.1)).toArray 0)).get? b = some o := Heap.get?_push_of_some _ e2
      exact (PyProof.Rows.sortedHeap_old (Nat.ne_of_lt (Heap.lt_size e2)) (Heap.lt_size e3)).trans e3
    · have pw := PySem.W.sort_pairwise (le := PySem.W.dataLe false fun b : Value × List Int => encR b.2) (PySem.W.sortLe_total _ _ _) b1
      rw [List.pairwise_map]
      refine pw.imp fun {a b} hab => ?_
      have hab' : PySem.W.dataLe false (fun b : Value × List Int => encR b.2) a b = true := hab
      rw [dataLe_encR (fun b : Value × List Int => b.2)] at hab'
      exact of_decide_eq_true hab'

theorem collect_tup {l : Addr} {vs : List Value} {Q : List Value → Shared → Prop} (hl : IsTup s.heap l vs.toArray)
    (h : Q vs { s with heap := (s.heap.push (seqObj "list" #[] 0)).update s.heap.objs.size (Obj.mapSeq (· ++ vs.toArray)) }) (hsz : vs.length ≤ sizeLine) :
    wpAny (model prog w) A (collect (.ref l)) Q E s := by
  obtain ⟨o, ho, hc, n, hd⟩ := id hl
  unfold collect
  refine wpAny_bind (wpAny_runValue (codeAny_builtin entry_proto_collect' ?_))
  show wpAny _ _ (newList [] >>= fun l' => again (.builtin "list.__iadd__" ⟨[l', .ref l], []⟩)) _ _ s
  refine wpAny_bind (wpAny_newList (wpAny_pure ⟨Code.quiet_builtin _ (by decide +kernel), codeAny_builtin entry_list_iadd' ?_⟩))
  have hne : s.heap.objs.size ≠ l := Nat.ne_of_gt (Heap.lt_size ho)
  show wpAny _ _ (Builtin.List.listExtendWith (.ref s.heap.objs.size) (.ref l) (.ref s.heap.objs.size)) _ _ { s with heap := s.heap.push (seqObj "list" #[] 0) }
  unfold Builtin.List.listExtendWith
  have ho' : (s.heap.push (seqObj "list" #[] 0)).get? l = some o := Heap.get?_push_of_some _ ho
  refine wpAny_bind (wpAny_typeOf (T := "tuple") ⟨o, ho', hc⟩ ?_)
  have t1 : (Value.type "tuple" == Value.type "list") = false := by decide
  have t2 : (Value.type "tuple" == Value.type "tuple") = true := by decide
  rw [if_pos (by rw [t1, t2]; simp)]
  refine wpAny_bind (listItems_at ho' hd ?_)
  have h0 : (s.heap.push (seqObj "list" #[] 0)).get? s.heap.objs.size = some (seqObj "list" #[] 0) := Heap.get?_push_size _ rfl
  refine wpAny_bind (listItems_at (xs := #[]) (n := 0) h0 rfl ?_)
  rw [if_neg (by simp)]
  have sz : (#[] ++ vs.toArray).size ≤ sizeLine + 1 := by
    simp only [Array.size_append, List.size_toArray, List.length_nil]
    omega
  refine wpAny_bind (listUpdate_at (xs := #[]) (n := 0) h0 rfl ?_ (Nat.zero_le _) sz)
  refine wpAny_pure ?_
  refine wpAny_bind (wpAny_load (get?_update_seq h0 _) ?_)
  show wpAny _ _ (pure ((#[] : Array Value) ++ vs.toArray).toList) Q E _
  have e : ((#[] : Array Value) ++ vs.toArray).toList = vs := by simp
  rw [e]
  exact wpAny_pure h
end

/-! ### the rule -/
abbrev tV (t : V × Value × List Int) : V × List Int := (t.1, t.2.2)
abbrev tU (t : V × Value × List Int) : Value × List Int := (t.2.1, t.2.2)
theorem trip : ∀ {bs : List (V × List Int)} {us : List Value}, Vals (bs.map (·.1)) us →
    ∃ ts : List (V × Value × List Int), bs = ts.map tV ∧ us = ts.map (·.2.1) ∧ ∀ t ∈ ts, RelV t.1 t.2.1
  | [], _, h => by
    have h' : Vals [] _ := h
    cases h'
    exact ⟨[], rfl, rfl, fun _ z => nomatch z⟩
  | c :: l, _, h => by
    have h' : Vals (c.1 :: l.map (·.1)) _ := h
    cases h' with
    | cons r t =>
      rename_i u us
      obtain ⟨ts, e1, e2, e3⟩ := trip t
      refine ⟨(c.1, u, c.2) :: ts, by rw [List.map_cons, ← e1], by rw [List.map_cons, ← e2], fun b hb => ?_⟩
      rcases List.mem_cons.mp hb with rfl | hb
      · exact r
      · exact e3 b hb

/-- rows: tuples of whole numbers, one at least -/
def RowAt (K : PySem.W.Frag) (H : Hp) (b : V × List Int) : Prop := ∃ t, b.1 = .ref t ∧ SqT K H t (b.2.map V.int) ∧ b.2 ≠ []
/-- what is sorted: a list or a tuple of rows, a set of them -/
def RowsIn (K : PySem.W.Frag) (P : Program) (w : World) (H : Hp) (a : Addr) (bs : List (V × List Int)) : Prop :=
  SqL K H a (bs.map (·.1)) ∨ SqT K H a (bs.map (·.1)) ∨
    ∃ L : List (Addr × List Int), H a = some (SetTO P w a L) ∧ bs = L.map fun p => (V.ref p.1, p.2)
def rSortRows (K : PySem.W.Frag) (P : Program) (w : World) : List V → Hp → VK → Prop := fun vs H Q =>
  ∃ a bs, vs = [.ref a] ∧ RowsIn K P w H a bs ∧ (∀ b ∈ bs, RowAt K H b) ∧
    ∀ (p : Addr) (bs' : List (V × List Int)), H p = none → bs'.Perm bs → (bs'.map (·.2)).Pairwise (· ≤ ·) → Q (.ref p) (upd H p (.lst (bs'.map (·.1))))

section
variable {X : Cx} {pins : List (Addr × Obj)} {σ : L2.St} {H : Hp} {s : Shared}
theorem row_reads (I : Inv X pins σ H s) {b : V × List Int} {u : Value} (r : RelV b.1 u) (h : RowAt X.K H b) : b.2 ≠ [] ∧ ∃ as, Reads s.heap u (encR b.2) as := by
  obtain ⟨t, e, ht, hne⟩ := h
  refine ⟨hne, ?_⟩
  have all : ∀ l : List Int, DpAll X.K H (l.map V.int) (l.map PyData.int) := by
    intro l
    induction l with
    | nil => exact .nil
    | cons i l ih => exact .cons (.int i) ih
  exact Dp.reads I (encR b.2) b.1 u (by rw [e]; exact .tup ht (all _)) r

/-- the end of each kind -/
theorem sort_fin (I : Inv X pins σ H s) (hu : X.A.units + 64 < cLine) {a : Addr} {Q : VK} {ts : List (V × Value × List Int)} (hz : ts.length ≤ sizeLine)
    (rel : ∀ t ∈ ts, RelV t.1 t.2.1) (hrow : ∀ b ∈ ts.map tV, RowAt X.K H b)
    (q : ∀ (p : Addr) (bs' : List (V × List Int)), H p = none → bs'.Perm (ts.map tV) → (bs'.map (·.2)).Pairwise (· ≤ ·) → Q (.ref p) (upd H p (.lst (bs'.map (·.1)))))
    (hcol : ∀ (E' : Value → Shared → Prop) (Q' : List Value → Shared → Prop),
      (∀ s' out, (∀ b o, s.heap.get? b = some o → s'.heap.get? b = some o) → s.heap.objs.size ≤ s'.heap.objs.size → s'.gens = s.gens → s'.os = s.os →
        out.Perm (ts.map (·.2.1)) → Q' out s') → wpAny (model X.prog X.w) X.A.in1 (collect (.ref a)) Q' E' s) :
    wpAny (model X.prog X.w) X.A (call (.builtin "sorted") [.ref a]) (EP X pins σ Q) X.xe s := by
  refine sorted_gather (bs := ts.map tU) (fun E' Q' k => hcol E' Q' fun s' out k1 z1 g1 o1 pm => k s' out k1 z1 g1 o1 (by rw [List.map_map]; exact pm))
    (fun b hb => ?_) (by rw [List.length_map]; exact hz) hu fun s' p c bs' k1 g1 o1 hp hg pm pw => ?_
  · obtain ⟨t, ht, rfl⟩ := List.mem_map.mp hb
    exact row_reads I (b := tV t) (rel t ht) (hrow _ (List.mem_map.mpr ⟨t, ht, rfl⟩))
  · obtain ⟨ts', e1, p1⟩ := perm_lift tU bs' ts pm
    subst e1
    have hn : H p = none := I.hok.fresh hp
    have rel' : ∀ l : List (V × Value × List Int), (∀ t ∈ l, t ∈ ts) → Vals ((l.map tV).map (·.1)) ((l.map tU).map (·.1)) := by
      intro l
      induction l with
      | nil => intro _; exact .nil
      | cons t l ih => intro hl; exact .cons (rel t (hl t List.mem_cons_self)) (ih fun b hb => hl b (List.mem_cons_of_mem _ hb))
    have hv := rel' ts' fun t ht => p1.mem_iff.mp ht
    have hlen : ((ts'.map tV).map (·.1)).length ≤ sizeLine := by
      rw [List.length_map, List.length_map, p1.length_eq]
      exact hz
    have J : Inv X pins σ (upd H p (.lst ((ts'.map tV).map (·.1)))) { s with heap := s'.heap, gens := s'.gens, drawn := s'.drawn, toks := s'.toks } :=
      I.call (ch := []) (Un.laid k1 hp hn) (I.hok.laid k1 hp ⟨hlen, _, c, hv, hg⟩) (by rw [g1]; exact I.bare) (fun _ z => nomatch z)
    have e : s' = { s with heap := s'.heap, gens := s'.gens, drawn := s'.drawn, toks := s'.toks } := by
      cases s'
      cases s
      cases o1
      rfl
    rw [e]
    refine ⟨.ref p, _, J, rfl, q p (ts'.map tV) hn (p1.map tV) ?_⟩
    have e2 : (ts'.map tV).map (·.2) = (ts'.map tU).map (·.2) := by rw [List.map_map, List.map_map]; rfl
    rw [e2]
    exact pw

theorem cr_sortRows (hc : X.calm = true) (hu : X.A.units + 64 < cLine) : CallR X (.builtin "sorted") (rSortRows X.K X.prog X.w) := by
  intro pins s σ H vs us Q I r h
  obtain ⟨a, bs, rfl, hin, hrow, q⟩ := h
  rw [Vals.ref1 r]
  rcases hin with hs | hs | ⟨L, hs, rfl⟩
  · obtain ⟨its, rv, pl, hz⟩ := I.list hs
    obtain ⟨ts, rfl, rfl, rel⟩ := trip rv
    have hz' : ts.length ≤ sizeLine := by rw [List.length_map, List.length_map] at hz; exact hz
    refine sort_fin I hu hz' rel hrow q fun E' Q' k => collect_list pl.isList ?_ (by rw [List.length_map]; exact hz')
    refine k _ _ (fun b o e => ?_) ?_ rfl rfl (List.Perm.refl _)
    · exact (Heap.get?_update_other _ _ (Nat.ne_of_gt (Heap.lt_size e))).trans (Heap.get?_push_of_some _ e)
    · show s.heap.objs.size ≤ (Heap.update _ _ _).objs.size
      rw [Heap.size_update, size_push']
      exact Nat.le_succ _
  · obtain ⟨its, rv, pl, hz⟩ := I.tuple hs
    obtain ⟨ts, rfl, rfl, rel⟩ := trip rv
    have hz' : ts.length ≤ sizeLine := by rw [List.length_map, List.length_map] at hz; exact hz
    refine sort_fin I hu hz' rel hrow q fun E' Q' k => collect_tup pl ?_ (by rw [List.length_map]; exact hz')
    refine k _ _ (fun b o e => ?_) ?_ rfl rfl (List.Perm.refl _)
    · exact (Heap.get?_update_other _ _ (Nat.ne_of_gt (Heap.lt_size e))).trans (Heap.get?_push_of_some _ e)
    · show s.heap.objs.size ≤ (Heap.update _ _ _).objs.size
      rw [Heap.size_update, size_push']
      exact Nat.le_succ _
  · have hk : ∀ p ∈ L, SqT X.K H p.1 (p.2.map V.int) := by
      intro p hp
      obtain ⟨t, e, ht, _⟩ := hrow _ (List.mem_map.mpr ⟨p, hp, rfl⟩)
      cases e
      exact ht
    have R0 : SetT0 X.prog X.w s.heap a L := (I.hok a _ hs).1
    obtain ⟨es, ep, t, R⟩ := R0.full fun p hp => I.isT (hk p hp)
    obtain ⟨o, ho, hex, hd⟩ := R.ob
    have hsz := R.size
    have hfew := R.few
    let ts : List (V × Value × List Int) := L.map fun p => (V.ref p.1, Value.ref p.1, p.2)
    have ets : L.map (fun p => (V.ref p.1, p.2)) = ts.map tV := by rw [List.map_map]; rfl
    rw [ets] at hrow q
    refine sort_fin I hu (ts := ts) (by rw [List.length_map, sizeLine_eq]; omega) (fun t ht => ?_) hrow q fun E' Q' k => ?_
    · obtain ⟨p, _, rfl⟩ := List.mem_map.mp ht
      exact rfl
    · refine collect_set (A := X.A.in1) (I.ok.hd hc) ⟨o, ho, hex.1, hd⟩ R.fits (by unfold scanBound; omega) R.tab.ris R.led fun s1 vs k1 hz g1 o1 pm => k s1 vs k1 hz g1 o1 ?_
      have hes : es.toList.map (·.2) = ts.map (·.2.1) := by
        rw [R.rows]
        unfold rowsOf
        rw [List.map_map, List.map_map] <;> rfl
      rw [← hes]
      exact pm

/-- sorted(s), s a set of rows -/
def rSortSet (K : PySem.W.Frag) (P : Program) (w : World) : List V → Hp → VK → Prop := fun vs H Q =>
  ∃ (a : Addr) (L : List (Addr × List Int)), vs = [.ref a] ∧ H a = some (SetTO P w a L) ∧ (∀ p ∈ L, SqT K H p.1 (p.2.map V.int) ∧ p.2 ≠ []) ∧
    ∀ (p : Addr) (bs' : List (V × List Int)), H p = none → bs'.Perm (L.map fun p => (V.ref p.1, p.2)) → (bs'.map (·.2)).Pairwise (· ≤ ·) → (L.map (·.2)).Nodup →
      Q (.ref p) (upd H p (.lst (bs'.map (·.1))))
theorem cr_sortSet (hc : X.calm = true) (hu : X.A.units + 64 < cLine) : CallR X (.builtin "sorted") (rSortSet X.K X.prog X.w) := by
  intro pins s σ H vs us Q I r h
  obtain ⟨a, L, e, hs, hk, q⟩ := h
  have R0 : SetT0 X.prog X.w s.heap a L := (I.hok a _ hs).1
  obtain ⟨es, ep, t, R⟩ := R0.full fun p hp => I.isT (hk p hp).1
  exact cr_sortRows hc hu pins s σ H vs us Q I r ⟨a, _, e, .inr (.inr ⟨L, hs, rfl⟩), fun b hb => by
    obtain ⟨p, hp, rfl⟩ := List.mem_map.mp hb
    exact ⟨p.1, rfl, (hk p hp).1, (hk p hp).2⟩, fun p bs' h1 h2 h3 => q p bs' h1 h2 h3 R.nd⟩
end
end GL

/-! min and max of a list of whole numbers, with default= -/
namespace GL
open PySem PySem.Spec PyProof.Rows L2
abbrev dkw (d : Value) : List (Str × Value) := [(Str.ofString "default", d)]

section
variable {prog : Program} {w : World} {A : Around} {E : Value → Shared → Prop} {s : Shared}
/-- how a built-in's own end is read -/
def EndR (prog : Program) (w : World) (A : Around) (Q E : Value → Shared → Prop) (fin : PySem.Fin) (s' : Shared) : Prop :=
  match fin with
  | .done f => (match (Except.ok f : Result) with | .ok (.ret v) => Q v s' | .ok _ => False | .error e => E e s')
  | .again c => c.quiet = true ∧ codeAny (model prog w) A c (fun r s' => match r with | .ok (.ret v) => Q v s' | .ok _ => False | .error e => E e s') s'
theorem call_treeK {id : String} {b : Builtin} {as : List Value} {kw : List (Str × Value)} {Q : Value → Shared → Prop} (k : builtinKind id = none) (p : plainId id = true)
    (e : entryFor table id = some b) (ok : argsOk id ⟨as, kw⟩) (run : wpAny (model prog w) A.in1 (b ⟨as, kw⟩) (EndR prog w A Q E) E s) :
    wpAny (model prog w) A (call (.builtin id) as kw) Q E s := by
  refine wpAny_call (codeAny_call_builtin p e ?_)
  simp only [checkBuiltinCall, k]
  cases sg : Manifest.signature? id with
  | none => exact wpAny_pure run
  | some sig =>
    have c : Bind.checkArgs id sig ⟨as, kw⟩ = pure () := by simpa only [argsOk, sg] using ok
    simp only [c]
    exact wpAny_pure run
end

section
variable {prog : Program} {w : World} {A : Around} {R : Result → Shared → Prop} {I : Addr} {fp wr : List Addr} {n : Nat}
  {P : Nat → Value → Prop} {St : Nat → Heap → Prop}
theorem dl_min (W : Walks prog w A.in1 I fp wr n P St) (bt : Nat → Nat → Bool) (cmp : CmpOf prog w A.in1 .Lt P bt) (S : Addr) (off : S ∉ fp) (d : Value) :
    ∀ (k j : Nat) (s : Shared) (vb : Value) (c : Nat), n - (j + 1) = k → j + 1 ≤ n → St (j + 1) s.heap → P (argBest bt j) vb →
    s.heap.get? S = some { cls := .type "list", dict := none, data := .seq #[vb, vb] c, slots := #[] } →
    (∀ v h' tk, P (argBest bt (n - 1)) v → (∀ b o, b ∉ wr → b ≠ S → s.heap.get? b = some o → h'.get? b = some o) →
      R (.ok (.ret v)) { s with heap := h', toks := tk }) →
    codeAny (model prog w) A (.builtin "min.loop" ⟨[.ref I, .none, .ref S], dkw d⟩) R s := by
  have offW : S ∉ wr := fun z => off (W.sub _ z)
  have nm : (toString "min" ++ toString ".loop" : String) = "min.loop" := by decide
  intro k
  induction k with
  | zero =>
    intro j s vb c hk hj hst hb hS hR
    have hin : j + 1 = n := by omega
    refine codeAny_builtin F.entry_min_loop ?_
    rw [Around.under_plainId F.plain_min_loop _]
    show wpAny _ A.in1 (seqItems? (.ref S) >>= _) _ _ s
    refine wpAny_bind (wpAny_seqItems hS rfl ?_)
    show wpAny _ A.in1 (tryCatch (pyNext (.ref I)) _ >>= _) _ _ s
    refine wpAny_bind (wpAny_tryCatch (W.done s _ _ (hin ▸ hst) fun h' tk keep => ?_))
    have hS' := keep S _ offW hS
    show wpAny _ A.in1 (updateSeq S (fun _ => #[]) >>= _) _ _ _
    refine wpAny_bind ?_
    refine wpAny_updateSeq hS' rfl (wpAny_bind (wpAny_letGo (wpAny_pure ?_)))
    rw [← hin] at hR
    exact hR vb _ tk hb fun b o h1 h2 e => (Heap.get?_update_other _ _ (Ne.symm h2)).trans (keep b o h1 e)
  | succ k ih =>
    intro j s vb c hk hj hst hb hS hR
    have hlt : j + 1 < n := by omega
    refine codeAny_builtin F.entry_min_loop ?_
    rw [Around.under_plainId F.plain_min_loop _]
    show wpAny _ A.in1 (seqItems? (.ref S) >>= _) _ _ s
    refine wpAny_bind (wpAny_seqItems hS rfl ?_)
    show wpAny _ A.in1 (tryCatch (pyNext (.ref I)) _ >>= _) _ _ s
    refine wpAny_bind (wpAny_tryCatch (W.item (j + 1) s _ _ hlt hst fun v h' tk hv hst' keep => ?_))
    have hS' := keep S _ offW hS
    show wpAny _ A.in1 (tryCatch (holding [v, v] (richCompare .Lt v vb >>= _)) _ >>= _) _ _ _
    refine wpAny_bind (wpAny_tryCatch (wpAny_holding (wpAny_bind (cmp (j + 1) (argBest bt j) v vb _ _ _ hv hb ?_))))
    refine wpAny_bind (wpAny_holding (wpAny_truthy_bool ?_))
    refine wpAny_bind (wpAny_letGo (wpAny_pure ?_))
    cases q : bt (j + 1) (argBest bt j) with
    | true =>
      simp only [if_true]
      refine wpAny_bind ?_
      refine wpAny_updateSeq hS' rfl (wpAny_bind (wpAny_letGo ?_))
      rw [nm]
      have st2 := W.frame _ _ (h'.update S (Obj.mapSeq fun _ => #[v, v])) hst' fun b hbf o e =>
        (Heap.get?_update_other _ _ (fun z : S = b => off (by rw [z]; exact hbf))).trans e
      refine wpAny_pure ⟨plainId_quiet F.plain_min_loop _, ih (j + 1) _ v _ (by omega) hlt st2 (by simp only [argBest, q, if_true]; exact hv)
        (Heap.get?_update_self _ hS' rfl) fun v' h'' tk'' hP' keep' => ?_⟩
      exact hR v' h'' tk'' hP' fun b o h1 h2 e => keep' b o h1 h2 ((Heap.get?_update_other _ _ (Ne.symm h2)).trans (keep b o h1 e))
    | false =>
      simp only [Bool.false_eq_true, if_false]
      refine wpAny_bind (wpAny_letGo ?_)
      rw [nm]
      refine wpAny_pure ⟨plainId_quiet F.plain_min_loop _, ih (j + 1) _ vb c (by omega) hlt hst'
        (by simp only [argBest, q, Bool.false_eq_true, if_false]; exact hb) hS' fun v' h'' tk'' hP' keep' => ?_⟩
      exact hR v' h'' tk'' hP' fun b o h1 h2 e => keep' b o h1 h2 (keep b o h1 e)

theorem dl_min0 (W : Walks prog w A.in1 I fp wr n P St) (bt : Nat → Nat → Bool) (cmp : CmpOf prog w A.in1 .Lt P bt) (S : Addr) (off : S ∉ fp) (d : Value)
    {s : Shared} {c : Nat} (hst : St 0 s.heap) (hS : s.heap.get? S = some { cls := .type "list", dict := none, data := .seq #[] c, slots := #[] })
    (hR : ∀ v h' tk, (n = 0 → v = d) → (0 < n → P (argBest bt (n - 1)) v) → (∀ b o, b ∉ wr → b ≠ S → s.heap.get? b = some o → h'.get? b = some o) →
      R (.ok (.ret v)) { s with heap := h', toks := tk }) :
    codeAny (model prog w) A (.builtin "min.loop" ⟨[.ref I, .none, .ref S], dkw d⟩) R s := by
  have offW : S ∉ wr := fun z => off (W.sub _ z)
  have nm : (toString "min" ++ toString ".loop" : String) = "min.loop" := by decide
  refine codeAny_builtin F.entry_min_loop ?_
  rw [Around.under_plainId F.plain_min_loop _]
  show wpAny _ A.in1 (seqItems? (.ref S) >>= _) _ _ s
  refine wpAny_bind (wpAny_seqItems hS rfl ?_)
  show wpAny _ A.in1 (tryCatch (pyNext (.ref I)) _ >>= _) _ _ s
  by_cases hn : 0 < n
  · refine wpAny_bind (wpAny_tryCatch (W.item 0 s _ _ hn hst fun v h' tk hv hst' keep => ?_))
    have hS' := keep S _ offW hS
    show wpAny _ A.in1 (updateSeq S (fun _ => #[v, v]) >>= _) _ _ _
    refine wpAny_bind ?_
    refine wpAny_updateSeq hS' rfl ?_
    rw [nm]
    have st2 := W.frame _ _ (h'.update S (Obj.mapSeq fun _ => #[v, v])) hst' fun b hbf o e =>
      (Heap.get?_update_other _ _ (fun z : S = b => off (by rw [z]; exact hbf))).trans e
    refine wpAny_pure ⟨plainId_quiet F.plain_min_loop _, dl_min W bt cmp S off d _ 0 _ v _ rfl hn st2 hv (Heap.get?_update_self _ hS' rfl) fun v' h'' tk'' hP' keep' => ?_⟩
    exact hR v' h'' tk'' (fun z => by omega) (fun _ => hP') fun b o h1 h2 e => keep' b o h1 h2 ((Heap.get?_update_other _ _ (Ne.symm h2)).trans (keep b o h1 e))
  · have h0 : 0 = n := by omega
    refine wpAny_bind (wpAny_tryCatch (W.done s _ _ (h0 ▸ hst) fun h' tk keep => ?_))
    show wpAny _ A.in1 (rule _ >>= _) _ _ _
    refine wpAny_bind (wpAny_rule ?_)
    exact wpAny_pure (hR d h' tk (fun _ => rfl) (fun z => absurd z hn) fun b o h1 _ e => keep b o h1 e)
end

section
variable {prog : Program} {w : World} {A : Around} {E : Value → Shared → Prop} {s : Shared}
theorem args_mind (a d : Value) : argsOk "min" ⟨[a], dkw d⟩ := by unfold argsOk; kernel_rfl
theorem min_dflt {l : Addr} {its : List Value} {ns : List Int} {d : Value} {Q : Value → Shared → Prop} (hh : A.handled = none)
    (hl : s.heap.IsList l its.toArray) (hi : IntsAre its ns)
    (h : ∀ v h' tk, (ns = [] → v = d) → (ns ≠ [] → ∃ M t, v = .int M t ∧ M ∈ ns ∧ ∀ a ∈ ns, M ≤ a) → (∀ b o, s.heap.get? b = some o → h'.get? b = some o) →
      Q v { s with heap := h', toks := tk }) :
    wpAny (model prog w) A (call (.builtin "min") [.ref l] (dkw d)) Q E s := by
  have nm : (toString "min" ++ toString ".loop" : String) = "min.loop" := by decide
  obtain ⟨xs, e⟩ := hi.allInts.items
  have hn : numsOf (intItems xs).toList = ns := by rw [← e]; exact hi.numsOf
  rw [nums_intItems] at hn
  subst hn
  rw [e] at hl
  refine call_treeK F.kind_min F.plain_min F.entry_min (args_mind _ _) ?_
  show wpAny _ A.in1 (Builtin.Builtins.bindParams "min" ["key", "default"] 0 ⟨[], dkw d⟩ >>= _) _ _ s
  refine wpAny_bind (wpAny_of_eq (show Builtin.Builtins.bindParams "min" ["key", "default"] 0 ⟨[], dkw d⟩ = pure [none, some d] from rfl) ?_)
  refine wpAny_bind (wpAny_pure ?_)
  refine wpAny_bind (iter_intList hl fun s2 es st hfp hlI => ?_)
  subst es
  refine wpAny_bind (wpAny_newObj_type ?_)
  rw [nm]
  have W := Walks.list (prog := prog) (w := w) (A := A.in1) hh _ l hlI (intItems xs)
  refine wpAny_pure ⟨plainId_quiet F.plain_min_loop _, dl_min0 W _ (CmpOf.ints_lt (numAt xs) (fun _ _ => intItems_at)) _ (fun z => Nat.lt_irrefl _ (hfp _ z)) d
    (W.frame _ _ _ st fun b _ o e => Heap.get?_push_of_some _ e) (Heap.get?_push_size _ rfl) fun v h' tk h0 h1 keep => ?_⟩
  have hz : (intItems xs).size = xs.size := by simp [intItems]
  refine h v h' tk (fun z => h0 ?_) (fun z => ?_) ?_
  · have z2 := congrArg List.length z
    rw [List.length_map, Array.length_toList] at z2
    rw [hz]
    exact z2
  · have hp : 0 < xs.size := by
      cases q : xs.toList with
      | nil => rw [q] at z; exact absurd rfl z
      | cons a r =>
        rw [← Array.length_toList, q]
        exact Nat.succ_pos _
    have hv := h1 (by rw [hz]; exact hp)
    rw [hz] at hv
    obtain ⟨t, rfl⟩ := intItems_at hv
    obtain ⟨g1, g2⟩ := argBest_lt (numAt xs) (xs.size - 1)
    refine ⟨_, t, rfl, ?_, fun a ha => ?_⟩
    · rw [numAt_eq]
      exact PySem.getD_mem (by rw [List.length_map, Array.length_toList]; omega)
    · obtain ⟨j, hj, rfl⟩ := mem_getD ha
      rw [List.length_map, Array.length_toList] at hj
      rw [← numAt_eq]
      exact g2 j (by omega)
  · exact old_kept fun b o hb e2 => keep b o hb (Nat.ne_of_lt (Heap.lt_size e2)) (Heap.get?_push_of_some _ e2)
end

section
variable {prog : Program} {w : World} {A : Around} {R : Result → Shared → Prop} {I : Addr} {fp wr : List Addr} {n : Nat}
  {P : Nat → Value → Prop} {St : Nat → Heap → Prop}
theorem dl_max (W : Walks prog w A.in1 I fp wr n P St) (bt : Nat → Nat → Bool) (cmp : CmpOf prog w A.in1 .Gt P bt) (S : Addr) (off : S ∉ fp) (d : Value) :
    ∀ (k j : Nat) (s : Shared) (vb : Value) (c : Nat), n - (j + 1) = k → j + 1 ≤ n → St (j + 1) s.heap → P (argBest bt j) vb →
    s.heap.get? S = some { cls := .type "list", dict := none, data := .seq #[vb, vb] c, slots := #[] } →
    (∀ v h' tk, P (argBest bt (n - 1)) v → (∀ b o, b ∉ wr → b ≠ S → s.heap.get? b = some o → h'.get? b = some o) →
      R (.ok (.ret v)) { s with heap := h', toks := tk }) →
    codeAny (model prog w) A (.builtin "max.loop" ⟨[.ref I, .none, .ref S], dkw d⟩) R s := by
  have offW : S ∉ wr := fun z => off (W.sub _ z)
  have nm : (toString "max" ++ toString ".loop" : String) = "max.loop" := by decide
  intro k
  induction k with
  | zero =>
    intro j s vb c hk hj hst hb hS hR
    have hin : j + 1 = n := by omega
    refine codeAny_builtin F.entry_max_loop ?_
    rw [Around.under_plainId F.plain_max_loop _]
    show wpAny _ A.in1 (seqItems? (.ref S) >>= _) _ _ s
    refine wpAny_bind (wpAny_seqItems hS rfl ?_)
    show wpAny _ A.in1 (tryCatch (pyNext (.ref I)) _ >>= _) _ _ s
    refine wpAny_bind (wpAny_tryCatch (W.done s _ _ (hin ▸ hst) fun h' tk keep => ?_))
    have hS' := keep S _ offW hS
    show wpAny _ A.in1 (updateSeq S (fun _ => #[]) >>= _) _ _ _
    refine wpAny_bind ?_
    refine wpAny_updateSeq hS' rfl (wpAny_bind (wpAny_letGo (wpAny_pure ?_)))
    rw [← hin] at hR
    exact hR vb _ tk hb fun b o h1 h2 e => (Heap.get?_update_other _ _ (Ne.symm h2)).trans (keep b o h1 e)
  | succ k ih =>
    intro j s vb c hk hj hst hb hS hR
    have hlt : j + 1 < n := by omega
    refine codeAny_builtin F.entry_max_loop ?_
    rw [Around.under_plainId F.plain_max_loop _]
    show wpAny _ A.in1 (seqItems? (.ref S) >>= _) _ _ s
    refine wpAny_bind (wpAny_seqItems hS rfl ?_)
    show wpAny _ A.in1 (tryCatch (pyNext (.ref I)) _ >>= _) _ _ s
    refine wpAny_bind (wpAny_tryCatch (W.item (j + 1) s _ _ hlt hst fun v h' tk hv hst' keep => ?_))
    have hS' := keep S _ offW hS
    show wpAny _ A.in1 (tryCatch (holding [v, v] (richCompare .Gt v vb >>= _)) _ >>= _) _ _ _
    refine wpAny_bind (wpAny_tryCatch (wpAny_holding (wpAny_bind (cmp (j + 1) (argBest bt j) v vb _ _ _ hv hb ?_))))
    refine wpAny_bind (wpAny_holding (wpAny_truthy_bool ?_))
    refine wpAny_bind (wpAny_letGo (wpAny_pure ?_))
    cases q : bt (j + 1) (argBest bt j) with
    | true =>
      simp only [if_true]
      refine wpAny_bind ?_
      refine wpAny_updateSeq hS' rfl (wpAny_bind (wpAny_letGo ?_))
      rw [nm]
      have st2 := W.frame _ _ (h'.update S (Obj.mapSeq fun _ => #[v, v])) hst' fun b hbf o e =>
        (Heap.get?_update_other _ _ (fun z : S = b => off (by rw [z]; exact hbf))).trans e
      refine wpAny_pure ⟨plainId_quiet F.plain_max_loop _, ih (j + 1) _ v _ (by omega) hlt st2 (by simp only [argBest, q, if_true]; exact hv)
        (Heap.get?_update_self _ hS' rfl) fun v' h'' tk'' hP' keep' => ?_⟩
      exact hR v' h'' tk'' hP' fun b o h1 h2 e => keep' b o h1 h2 ((Heap.get?_update_other _ _ (Ne.symm h2)).trans (keep b o h1 e))
    | false =>
      simp only [Bool.false_eq_true, if_false]
      refine wpAny_bind (wpAny_letGo ?_)
      rw [nm]
      refine wpAny_pure ⟨plainId_quiet F.plain_max_loop _, ih (j + 1) _ vb c (by omega) hlt hst'
        (by simp only [argBest, q, Bool.false_eq_true, if_false]; exact hb) hS' fun v' h'' tk'' hP' keep' => ?_⟩
      exact hR v' h'' tk'' hP' fun b o h1 h2 e => keep' b o h1 h2 (keep b o h1 e)

theorem dl_max0 (W : Walks prog w A.in1 I fp wr n P St) (bt : Nat → Nat → Bool) (cmp : CmpOf prog w A.in1 .Gt P bt) (S : Addr) (off : S ∉ fp) (d : Value)
    {s : Shared} {c : Nat} (hst : St 0 s.heap) (hS : s.heap.get? S = some { cls := .type "list", dict := none, data := .seq #[] c, slots := #[] })
    (hR : ∀ v h' tk, (n = 0 → v = d) → (0 < n → P (argBest bt (n - 1)) v) → (∀ b o, b ∉ wr → b ≠ S → s.heap.get? b = some o → h'.get? b = some o) →
      R (.ok (.ret v)) { s with heap := h', toks := tk }) :
    codeAny (model prog w) A (.builtin "max.loop" ⟨[.ref I, .none, .ref S], dkw d⟩) R s := by
  have offW : S ∉ wr := fun z => off (W.sub _ z)
  have nm : (toString "max" ++ toString ".loop" : String) = "max.loop" := by decide
  refine codeAny_builtin F.entry_max_loop ?_
  rw [Around.under_plainId F.plain_max_loop _]
  show wpAny _ A.in1 (seqItems? (.ref S) >>= _) _ _ s
  refine wpAny_bind (wpAny_seqItems hS rfl ?_)
  show wpAny _ A.in1 (tryCatch (pyNext (.ref I)) _ >>= _) _ _ s
  by_cases hn : 0 < n
  · refine wpAny_bind (wpAny_tryCatch (W.item 0 s _ _ hn hst fun v h' tk hv hst' keep => ?_))
    have hS' := keep S _ offW hS
    show wpAny _ A.in1 (updateSeq S (fun _ => #[v, v]) >>= _) _ _ _
    refine wpAny_bind ?_
    refine wpAny_updateSeq hS' rfl ?_
    rw [nm]
    have st2 := W.frame _ _ (h'.update S (Obj.mapSeq fun _ => #[v, v])) hst' fun b hbf o e =>
      (Heap.get?_update_other _ _ (fun z : S = b => off (by rw [z]; exact hbf))).trans e
    refine wpAny_pure ⟨plainId_quiet F.plain_max_loop _, dl_max W bt cmp S off d _ 0 _ v _ rfl hn st2 hv (Heap.get?_update_self _ hS' rfl) fun v' h'' tk'' hP' keep' => ?_⟩
    exact hR v' h'' tk'' (fun z => by omega) (fun _ => hP') fun b o h1 h2 e => keep' b o h1 h2 ((Heap.get?_update_other _ _ (Ne.symm h2)).trans (keep b o h1 e))
  · have h0 : 0 = n := by omega
    refine wpAny_bind (wpAny_tryCatch (W.done s _ _ (h0 ▸ hst) fun h' tk keep => ?_))
    show wpAny _ A.in1 (rule _ >>= _) _ _ _
    refine wpAny_bind (wpAny_rule ?_)
    exact wpAny_pure (hR d h' tk (fun _ => rfl) (fun z => absurd z hn) fun b o h1 _ e => keep b o h1 e)
end

section
variable {prog : Program} {w : World} {A : Around} {E : Value → Shared → Prop} {s : Shared}
theorem args_maxd (a d : Value) : argsOk "max" ⟨[a], dkw d⟩ := by unfold argsOk; kernel_rfl
theorem max_dflt {l : Addr} {its : List Value} {ns : List Int} {d : Value} {Q : Value → Shared → Prop} (hh : A.handled = none)
    (hl : s.heap.IsList l its.toArray) (hi : IntsAre its ns)
    (h : ∀ v h' tk, (ns = [] → v = d) → (ns ≠ [] → ∃ M t, v = .int M t ∧ M ∈ ns ∧ ∀ a ∈ ns, a ≤ M) → (∀ b o, s.heap.get? b = some o → h'.get? b = some o) →
      Q v { s with heap := h', toks := tk }) :
    wpAny (model prog w) A (call (.builtin "max") [.ref l] (dkw d)) Q E s := by
  have nm : (toString "max" ++ toString ".loop" : String) = "max.loop" := by decide
  obtain ⟨xs, e⟩ := hi.allInts.items
  have hn : numsOf (intItems xs).toList = ns := by rw [← e]; exact hi.numsOf
  rw [nums_intItems] at hn
  subst hn
  rw [e] at hl
  refine call_treeK F.kind_max F.plain_max F.entry_max (args_maxd _ _) ?_
  show wpAny _ A.in1 (Builtin.Builtins.bindParams "max" ["key", "default"] 0 ⟨[], dkw d⟩ >>= _) _ _ s
  refine wpAny_bind (wpAny_of_eq (show Builtin.Builtins.bindParams "max" ["key", "default"] 0 ⟨[], dkw d⟩ = pure [none, some d] from rfl) ?_)
  refine wpAny_bind (wpAny_pure ?_)
  refine wpAny_bind (iter_intList hl fun s2 es st hfp hlI => ?_)
  subst es
  refine wpAny_bind (wpAny_newObj_type ?_)
  rw [nm]
  have W := Walks.list (prog := prog) (w := w) (A := A.in1) hh _ l hlI (intItems xs)
  refine wpAny_pure ⟨plainId_quiet F.plain_max_loop _, dl_max0 W _ (CmpOf.ints_gt (numAt xs) (fun _ _ => intItems_at)) _ (fun z => Nat.lt_irrefl _ (hfp _ z)) d
    (W.frame _ _ _ st fun b _ o e => Heap.get?_push_of_some _ e) (Heap.get?_push_size _ rfl) fun v h' tk h0 h1 keep => ?_⟩
  have hz : (intItems xs).size = xs.size := by simp [intItems]
  refine h v h' tk (fun z => h0 ?_) (fun z => ?_) ?_
  · have z2 := congrArg List.length z
    rw [List.length_map, Array.length_toList] at z2
    rw [hz]
    exact z2
  · have hp : 0 < xs.size := by
      cases q : xs.toList with
      | nil => rw [q] at z; exact absurd rfl z
      | cons a r =>
        rw [← Array.length_toList, q]
        exact Nat.succ_pos _
    have hv := h1 (by rw [hz]; exact hp)
    rw [hz] at hv
    obtain ⟨t, rfl⟩ := intItems_at hv
    obtain ⟨g1, g2⟩ := argBest_gt (numAt xs) (xs.size - 1)
    refine ⟨_, t, rfl, ?_, fun a ha => ?_⟩
    · rw [numAt_eq]
      exact PySem.getD_mem (by rw [List.length_map, Array.length_toList]; omega)
    · obtain ⟨j, hj, rfl⟩ := mem_getD ha
      rw [List.length_map, Array.length_toList] at hj
      rw [← numAt_eq]
      exact g2 j (by omega)
  · exact old_kept fun b o hb e2 => keep b o hb (Nat.ne_of_lt (Heap.lt_size e2)) (Heap.get?_push_of_some _ e2)
end

/-- min(xs, default=d), xs a list of whole numbers -/
def rBestD (K : PySem.W.Frag) (le : Int → Int → Prop) : List V → List V → Hp → VK → Prop := fun vs zs H Q =>
  ∃ (a : Addr) (ns : List Int), vs = [.ref a] ∧ zs = [.non] ∧ SqL K H a (ns.map V.int) ∧
    (ns = [] → Q .non H) ∧ ∀ M, M ∈ ns → (∀ z ∈ ns, le M z) → Q (.int M) H
theorem cr_minD {X : Cx} (hc : X.calm = true) : CallRK X (.builtin "min") [Str.ofString "default"] (rBestD X.K (fun m z => m ≤ z)) := by
  intro pins s σ H vs zs us ws Q I r rz h
  obtain ⟨a, ns, rfl, rfl, hs, q0, q1⟩ := h
  obtain ⟨its, rv, hl, _⟩ := I.list hs
  rw [Vals.ref1 r]
  cases rz with
  | cons rd rn =>
    cases rn
    cases rd
    refine min_dflt (I.ok.hd hc) hl.isList rv.ints fun v h' tk e0 e1 keep => ?_
    by_cases hn : ns = []
    · rw [e0 hn]
      exact ⟨.non, H, I.kept keep, rfl, q0 hn⟩
    · obtain ⟨M, t, rfl, hm, hle⟩ := e1 hn
      exact ⟨.int M, H, I.kept keep, ⟨_, rfl⟩, q1 M hm hle⟩
theorem cr_maxD {X : Cx} (hc : X.calm = true) : CallRK X (.builtin "max") [Str.ofString "default"] (rBestD X.K (fun m z => z ≤ m)) := by
  intro pins s σ H vs zs us ws Q I r rz h
  obtain ⟨a, ns, rfl, rfl, hs, q0, q1⟩ := h
  obtain ⟨its, rv, hl, _⟩ := I.list hs
  rw [Vals.ref1 r]
  cases rz with
  | cons rd rn =>
    cases rn
    cases rd
    refine max_dflt (I.ok.hd hc) hl.isList rv.ints fun v h' tk e0 e1 keep => ?_
    by_cases hn : ns = []
    · rw [e0 hn]
      exact ⟨.non, H, I.kept keep, rfl, q0 hn⟩
    · obtain ⟨M, t, rfl, hm, hle⟩ := e1 hn
      exact ⟨.int M, H, I.kept keep, ⟨_, rfl⟩, q1 M hm hle⟩
end GL

/-! defs by their names, over the guard layer; the draws of a law -/
namespace GL
open PySem PySem.Spec PyProof.Rows L2

/-- a def of the text as the top leaves it -/
structure DefAt (K : PySem.W.Frag) (mg : Str → Option Value) (x : Str) (st : Stmt) (ps : List Str) : Prop where
  ex : ∃ f fd, L2.Fun K x x st f fd ∧ mg x = some (.ref f) ∧ Binds K fd ps []
/-- a def that may be called -/
structure Cal (P : Program) (w : World) (K : PySem.W.Frag) (mg : Str → Option Value) (base : Heap) (k : Nat) (x : Str) (sp : Sp) : Prop where
  ex : ∃ f fd ps, Fn0 P w K mg base CX0 k f fd ps sp ∧ mg x = some (.ref f) ∧ PySem.W.keepIn K (.ref f) = true ∧ Binds K fd ps []

section
variable {P : Program} {w : World} {K : PySem.W.Frag} {mg : Str → Option Value} {base : Heap}
theorem cal_mk {x : Str} {st : Stmt} {N ps : List Str} {k : Nat} {sp : Sp} (D : DefAt K mg x st ps) (S : FnScope N ps (defScope st))
    (len : ∀ vs H Q E, sp vs H Q E → vs.length = ps.length)
    (body : ∀ (f : Addr) (cdv : Value) (A : Around) (outer : List Env) (s : Shared) (H : Hp) (vs : List V) (Q : VK) (E : XK),
      A.guards = some [] → Room k (A.deeper (envOfC x (defScope st) s.heap.objs.size f cdv)) → sp vs H Q E →
      ∃ t, PSs (cxOf CX0 P w K mg base N x (defScope st) f cdv A outer s H E).nox (defBody st) t ∧
        t { nx := fun _ H' => Q .non H', rt := Q } (start N vs) H) :
    Cal P w K mg base (k + 1) x sp := by
  obtain ⟨f, fd, F, m, b⟩ := D.ex
  exact ⟨f, fd, ps, fn0_of F S len (fun cdv A outer s H vs Q E hG hr h => body f cdv A outer s H vs Q E hG hr h), m, F.kp, b⟩
end

section
variable {X : Cx} {k j : Nat} {x : Str} {sp : Sp} {p pos : Pos} {e : Expr} {es : List Expr} {t : TA}
/-- f(e, ..) -/
theorem pe_cg (c : Cal X.prog X.w X.K X.mg X.base k x sp) (hG : X.A.guards = some []) (hr : Room j X.A) (hk : k ≤ j) (hg : Gl X x) (ha : PA X (e :: es) t)
    (hdb : (x == ("__debug__" : Str)) = false := by decide) (he : starEach (e :: es) X.env = (false, eval e X.env) :: starEach es X.env := by rfl)
    (hpl : (backTo pos (starEach es X.env)).any (·.1) = false := by rfl) :
    PE X (.Call (.Name x p) (e :: es) [] pos) (tCall sp [] (fun _ _ _ => False) t) := by
  obtain ⟨f, fd, ps, F, m, kp, b⟩ := c.ex
  exact pe_call0g F hG (hr.mono hk) hg m kp b .nil pass0 ha hdb he hpl
/-- xs[i], for xs[i] += e -/
theorem pg_list : PGet X (fun x y H Q => ∃ p xs i v, x = .ref p ∧ y = .int i ∧ SqL X.K H p xs ∧ 0 ≤ i ∧ xs[i.toNat]? = some v ∧ Q v H) := by
  intro pins s σ H o i ov iv Q I ro ri h
  obtain ⟨p, xs, n, v, rfl, rfl, hq, h0, hv, q⟩ := h
  cases ro
  obtain ⟨t, rfl⟩ := ri
  obtain ⟨its, r, pl, hz⟩ := I.list hq
  obtain ⟨u, hu, ru⟩ := r.get hv
  have hl := r.length
  have hn := line63
  have hlt : n.toNat < its.length := (List.getElem?_eq_some_iff.mp hu).1
  exact wpAny_getItem_list pl.isList h0 (by omega) (by simpa using hu) ⟨v, H, I, ru, q⟩
end

/-! ### heaps -/
/-- all stays but what stands at b -/
def Kp (b : Addr) (H H' : Hp) : Prop := ∀ q o, q ≠ b → H q = some o → H' q = some o
theorem Kp.refl (b : Addr) (H : Hp) : Kp b H H := fun _ _ _ e => e
theorem Kp.trans {b : Addr} {H H' H'' : Hp} (a : Kp b H H') (c : Kp b H' H'') : Kp b H H'' := fun q o n e => c q o n (a q o n e)
theorem Kp.new {b p : Addr} {H : Hp} {o : HO} (h : H p = none) : Kp b H (upd H p o) := fun q u _ e => by
  rw [upd_ne (ne_of_none e h)]
  exact e
theorem Kp.at {b : Addr} {H : Hp} {o : HO} : Kp b H (upd H b o) := fun q u n e => by rw [upd_ne n]; exact e
theorem Kp.tup {b : Addr} {H H' : Hp} (k : Kp b H H') {xs : List V} {t : Addr} {ys : List V} (hb : H b = some (.lst xs)) (h : H t = some (.tup ys)) : H' t = some (.tup ys) :=
  k t _ (ne_of h hb (by intro z; cases z)) h
theorem Kp.sqT {b : Addr} {H H' : Hp} {K : PySem.W.Frag} (k : Kp b H H') {xs : List V} {t : Addr} {ys : List V} (hb : H b = some (.lst xs)) (h : SqT K H t ys) : SqT K H' t ys := by
  rcases h with (h | ⟨o, h⟩) | h
  · exact .inl (.inl (k.tup hb h))
  · exact .inl (.inr ⟨o, k t _ (ne_of h hb (by intro z; cases z)) h⟩)
  · exact .inr h
theorem Kp.sqL {b a : Addr} {H H' : Hp} {K : PySem.W.Frag} (k : Kp b H H') {ys : List V} (hb : a ≠ b) (h : SqL K H a ys) : SqL K H' a ys := by
  rcases h with (h | ⟨o, h⟩) | h
  · exact .inl (.inl (k a _ hb h))
  · exact .inl (.inr ⟨o, k a _ hb h⟩)
  · exact .inr h

theorem put_new {p : Addr} {H : Hp} (h : H p = none) (o : HO) : Same H (upd H p o) := fun q u e => by
  rw [upd_ne (ne_of_none e h)]
  exact e
/-! ### the draws -/
/-- a law's bag stands at b -/
def Bag (H : Hp) (b c : Addr) : Prop := ∃ (s0 s1 s2 : Int) (ns : List Int),
  H b = some (.lst [.int s0, .int s1, .int s2, .ref c]) ∧ H c = some (.lst (ns.map V.int)) ∧ 0 ≤ s1 ∧ s1 < 2147483647 ∧ ns.length ≤ 1000
theorem Bag.lst {H : Hp} {b c : Addr} (h : Bag H b c) : ∃ xs, H b = some (.lst xs) := by
  obtain ⟨_, _, _, _, h, _⟩ := h
  exact ⟨_, h⟩
theorem Bag.cne {H : Hp} {b c : Addr} {s0 s1 s2 : Int} {ns : List Int} (h : H b = some (.lst [.int s0, .int s1, .int s2, .ref c])) (h' : H c = some (.lst (ns.map V.int))) : c ≠ b := by
  refine ne_of h' h fun z => ?_
  have z1 : ns.map V.int = [.int s0, .int s1, .int s2, .ref c] := HO.lst.inj z
  have z2 : V.ref c ∈ ns.map V.int := by rw [z1]; simp
  obtain ⟨n, _, e⟩ := List.mem_map.mp z2
  cases e
theorem Bag.cell {H : Hp} {b c : Addr} (h : Bag H b c) : c ≠ b ∧ ∃ ns : List Int, H c = some (.lst (ns.map V.int)) := by
  obtain ⟨_, _, _, ns, h1, h2, _⟩ := h
  exact ⟨Bag.cne h1 h2, ns, h2⟩
/-- a thing that is not the bag's changes -/
theorem Bag.other {H : Hp} {b c p : Addr} {o : HO} (h : Bag H b c) (h1 : p ≠ b) (h2 : p ≠ c) : Bag (upd H p o) b c := by
  obtain ⟨s0, s1, s2, ns, g1, g2, g3⟩ := h
  exact ⟨s0, s1, s2, ns, by rw [upd_ne h1.symm]; exact g1, by rw [upd_ne h2.symm]; exact g2, g3⟩
/-- nothing but new things: the bag stays -/
theorem Bag.new {H : Hp} {b c p : Addr} {o : HO} (h : Bag H b c) (hp : H p = none) : Bag (upd H p o) b c := by
  obtain ⟨s0, s1, s2, ns, h1, h2, h3⟩ := h
  exact ⟨s0, s1, s2, ns, by rw [upd_ne (ne_of_none h1 hp)]; exact h1, by rw [upd_ne (ne_of_none h2 hp)]; exact h2, h3⟩
theorem Bag.same {H H' : Hp} {b c : Addr} (h : Bag H b c) (k : Same H H') : Bag H' b c := by
  obtain ⟨s0, s1, s2, ns, h1, h2, h3⟩ := h
  exact ⟨s0, s1, s2, ns, k _ _ h1, k _ _ h2, h3⟩
theorem Kp.of {b : Addr} {H H' : Hp} (k : Same H H') : Kp b H H' := fun q o _ e => k q o e

theorem cut_ints (ns : List Int) (lo hi : Option Int) : ∃ ms : List Int, cutV (ns.map V.int) lo hi = ms.map V.int := by
  unfold cutV
  exact ⟨_, by rw [← List.map_drop, ← List.map_take]⟩
theorem len1000 {n : Nat} (h : n ≤ 1000) : n + 1 ≤ sizeLine := small1000 h

def spTake : Sp := fun vs H Q _ => ∃ (b c : Addr) (many : Int), vs = [.ref b, .int many] ∧ Bag H b c ∧ 0 < many ∧ many < 1073741824 ∧
  ∀ (r : Int) H', Kp b H H' → Bag H' b c → 0 ≤ r → r < many → Q (.int r) H'
def spBag (K : PySem.W.Frag) : Sp := fun vs H Q _ => ∃ (a : Addr) (ns : List Int), vs = [.ref a] ∧ SqL K H a (ns.map V.int) ∧ ns.length ≤ 63 ∧
  ∀ b c H', Same H H' → H b = none → H c = none → Bag H' b c → Q (.ref b) H'
def spSome (K : PySem.W.Frag) : Sp := fun vs H Q _ => ∃ (b c t : Addr) (xs : List V), vs = [.ref b, .ref t] ∧ Bag H b c ∧ ((SqL K H t xs ∧ t ≠ b) ∨ SqT K H t xs) ∧ xs ≠ [] ∧ xs.length < 1000000 ∧
  ∀ x H', x ∈ xs → Kp b H H' → Bag H' b c → Q x H'
def spMixed (K : PySem.W.Frag) : Sp := fun vs H Q _ => ∃ (b c t : Addr) (xs : List V), vs = [.ref b, .ref t] ∧ Bag H b c ∧ SqL K H t xs ∧ t ≠ b ∧ xs.length ≤ 1000 ∧
  ∀ (p : Addr) (ys : List V) H', ys.Perm xs → Kp b H H' → Bag H' b c → H p = none → H' p = some (.lst ys) → Q (.ref p) H'
def spAlike (K : PySem.W.Frag) : Sp := fun vs H Q _ => ∃ (a b : Addr) (d : PyData), vs = [.ref a, .ref b] ∧ Dp K H (.ref a) d ∧ Dp K H (.ref b) d ∧
  SeqAt.shaped d = true ∧ Shows d ∧ Q (.bl true) H
end GL

/-! comprehensions by what each turn gives; tuples that stay; rows -/
namespace GL
open PySem PySem.Spec PyProof.Rows L2
open PySem.W (EachIs)

/-- the tuples stay -/
def TupK (H H' : Hp) : Prop := ∀ (K : PySem.W.Frag) (t : Addr) (ys : List V), SqT K H t ys → SqT K H' t ys
theorem TupK.refl (H : Hp) : TupK H H := fun _ _ _ h => h
theorem TupK.trans {H H' H'' : Hp} (a : TupK H H') (b : TupK H' H'') : TupK H H'' := fun K t ys h => b K t ys (a K t ys h)
theorem TupK.same {H H' : Hp} (k : Same H H') : TupK H H' := fun K t ys h => by
  rcases h with (h | ⟨o, h⟩) | h
  · exact .inl (.inl (k _ _ h))
  · exact .inl (.inr ⟨o, k _ _ h⟩)
  · exact .inr h
theorem TupK.kp {b : Addr} {H H' : Hp} {xs : List V} (k : Kp b H H') (hb : H b = some (.lst xs)) : TupK H H' := fun _ _ _ h => k.sqT hb h
theorem TupK.upd {D : Addr} {H : Hp} {acc : List V} {o : HO} (hD : H D = some (.lst acc)) : TupK H (upd H D o) := TupK.kp Kp.at hD
theorem TupK.new {p : Addr} {H : Hp} (h : H p = none) (o : HO) : TupK H (L2.upd H p o) := TupK.same (put_new h o)

theorem each_mono {α β : Type} {R R' : α → β → Prop} (f : ∀ a b, R a b → R' a b) : ∀ {as : List α} {bs : List β}, EachIs R as bs → EachIs R' as bs
  | _, _, .nil => .nil
  | _, _, .cons h t => .cons (f _ _ h) (each_mono f t)
theorem each_snoc {α β : Type} {R : α → β → Prop} {a : α} {b : β} (h : R a b) : ∀ {as : List α} {bs : List β}, EachIs R as bs → EachIs R (as ++ [a]) (bs ++ [b])
  | _, _, .nil => .cons h .nil
  | _, _, .cons h' t => .cons h' (each_snoc h t)

/-- what a comprehension's turns may change -/
structure LcG (H0 : Hp) (D : Addr) (Rel : Hp → Hp → Prop) (G : Hp → Prop) : Prop where
  refl : ∀ H, Rel H H
  trans : ∀ {H H' H''}, Rel H H' → Rel H' H'' → Rel H H''
  tk : ∀ {H'}, Rel H0 H' → TupK H0 H'
  tk2 : ∀ {H H'}, G H → Rel H H' → TupK H H'
  keepD : ∀ {H H' acc}, Rel H H' → H D = some (.lst acc) → H' D = some (.lst acc)
  upd : ∀ {H acc acc'}, Rel H0 H → H D = some (.lst acc) → Rel H0 (L2.upd H D (.lst acc'))
  new : Rel H0 (L2.upd H0 D (.lst []))
  gU : ∀ {H acc acc'}, G H → H D = some (.lst acc) → G (L2.upd H D (.lst acc'))
  g0 : G (L2.upd H0 D (.lst []))
theorem LcG.pure {H0 : Hp} {D : Addr} (h : H0 D = none) : LcG H0 D Same fun _ => True where
  refl := fun _ _ _ e => e
  trans := fun a b => a.trans b
  tk := TupK.same
  tk2 := fun _ k => TupK.same k
  keepD := fun k e => k _ _ e
  upd := fun k e q o z => by rw [upd_ne (ne_of_none z h)]; exact k q o z
  new := put_new h _
  gU := fun _ _ => trivial
  g0 := trivial
theorem LcG.draw {H0 : Hp} {D b c : Addr} (h : H0 D = none) (hB : Bag H0 b c) : LcG H0 D (Kp b) fun H => Bag H b c := by
  obtain ⟨zs, hz⟩ := hB.lst
  obtain ⟨ncb, ns, hc⟩ := hB.cell
  have nb : D ≠ b := fun z => by rw [z, hz] at h; cases h
  have nc : D ≠ c := fun z => by rw [z, hc] at h; cases h
  exact {
    refl := Kp.refl b
    trans := fun a c => a.trans c
    tk := fun k => TupK.kp k hz
    tk2 := fun g k => by
      obtain ⟨ys, hy⟩ := g.lst
      exact TupK.kp k hy
    keepD := fun k e => k _ _ nb e
    upd := fun k e q o n z => by rw [upd_ne (ne_of_none z h)]; exact k q o n z
    new := Kp.new h
    gU := fun g e => g.other nb nc
    g0 := hB.new h }

section
variable {K : PySem.W.Frag} {g : TG} {tt : TT} {te : TE} {vs : List Nat} {σ : L2.St} {H1 : Hp} {D : Addr} {Qd : Hp → Prop} {Rel : Hp → Hp → Prop} {G : Hp → Prop} {β : Type}
/-- one turn: x the item, o what comes of it (none: left out) -/
def Turn (g : TG) (tt : TT) (te : TE) (vs : List Nat) (σ : L2.St) (Rel : Hp → Hp → Prop) (G : Hp → Prop) (Y : Hp → V → β → Prop) (x : V) (o : Option β) (H : Hp) : Prop :=
  ∀ (Qe : VK) (Qn : Hp → Prop), (∀ y H4 b, o = some b → Rel H H4 → G H4 → Y H4 y b → Qe y H4) → (∀ H3, o = none → Rel H H3 → G H3 → Qn H3) →
    g x (wipe σ vs) H fun σ2 H2 => wipe σ2 vs = wipe σ vs ∧ tt σ2 H2 fun b H3 => if b = true then te σ2 H3 Qe else Qn H3
/-- the list so far -/
def Lp (H1 : Hp) (D : Addr) (Rel : Hp → Hp → Prop) (G : Hp → Prop) (Y : Hp → V → β → Prop) (out : Nat → Option β) (i : Nat) (H : Hp) : Prop :=
  ∃ (acc : List V) (bs : List β), Rel H1 H ∧ G H ∧ H D = some (.lst acc) ∧ EachIs (Y H) acc bs ∧ bs = (List.range i).filterMap out
variable {Y : Hp → V → β → Prop} {out : Nat → Option β}
theorem fm_le (out : Nat → Option β) : ∀ i, ((List.range i).filterMap out).length ≤ i
  | i => Nat.le_trans (List.length_filterMap_le _ _) (by rw [List.length_range]; exact Nat.le_refl _)
theorem Lp.zero (L : LcG H1 D Rel G) : Lp H1 D Rel G Y out 0 (upd H1 D (.lst [])) := ⟨[], [], L.new, L.g0, upd_same, .nil, rfl⟩
theorem Lp.turn (L : LcG H1 D Rel G) (mono : ∀ H H' v b, TupK H H' → Y H v b → Y H' v b) {i : Nat} {x : V} {H : Hp} (hi : i < 1000) (hp : Lp H1 D Rel G Y out i H)
    (step : Rel H1 H → G H → Turn g tt te vs σ Rel G Y x (out i) H) :
    g x (wipe σ vs) H fun σ2 H2 => wipe σ2 vs = wipe σ vs ∧ tt σ2 H2 fun b H3 =>
      if b = true then te σ2 H3 fun y H4 => ∃ acc, H4 D = some (.lst acc) ∧ acc.length < sizeLine ∧ Lp H1 D Rel G Y out (i + 1) (upd H4 D (.lst (acc ++ [y])))
      else Lp H1 D Rel G Y out (i + 1) H3 := by
  obtain ⟨acc, bs, r1, g1, hD, ea, rfl⟩ := hp
  refine step r1 g1 _ _ (fun y H4 b eo r4 g4 hy => ?_) fun H3 eo r3 g3 => ?_
  · have hD4 := L.keepD r4 hD
    have t4 := (L.tk2 g1 r4).trans (TupK.upd (o := .lst (acc ++ [y])) hD4)
    refine ⟨acc, hD4, small1000 ?_, acc ++ [y], _, L.upd (L.trans r1 r4) hD4, L.gU g4 hD4, upd_same,
      each_snoc (mono _ _ _ _ (TupK.upd hD4) hy) (each_mono (fun v b => mono _ _ _ _ t4) ea), ?_⟩
    · have l1 := ea.length
      have l2 := fm_le out i
      omega
    · rw [List.range_succ, List.filterMap_append]
      simp [eo]
  · refine ⟨acc, _, L.trans r1 r3, g3, L.keepD r3 hD, each_mono (fun v b => mono _ _ _ _ (L.tk2 g1 r3)) ea, ?_⟩
    rw [List.range_succ, List.filterMap_append]
    simp [eo]

theorem lcg_tup {a : Addr} {xs : List V} (L : LcG H1 D Rel G) (mono : ∀ H H' v b, TupK H H' → Y H v b → Y H' v b) (src : SqT K H1 a xs) (hl : xs.length ≤ 1000)
    (step : ∀ i x H, xs[i]? = some x → Rel H1 H → G H → Turn g tt te vs σ Rel G Y x (out i) H)
    (fin : ∀ H acc bs, Rel H1 H → G H → H D = some (.lst acc) → EachIs (Y H) acc bs → bs = (List.range xs.length).filterMap out → Qd H) :
    ∃ W : Nat → Nat → Hp → Prop, (∃ m, W 0 m (upd H1 D (.lst []))) ∧ ∀ i m H, W i m H →
      ((Itt K a).stop i H ∧ Qd H) ∨ ((Itt K a).go i H ∧ ∃ Nx : Hp → Prop, (∀ H', Nx H' → ∃ m', m' < m ∧ W (i + 1) m' H') ∧ ∀ x H', (Itt K a).yld i H x H' → g x (wipe σ vs) H' fun σ2 H2 =>
        wipe σ2 vs = wipe σ vs ∧ tt σ2 H2 fun b H3 => if b = true then te σ2 H3 fun y H4 => ∃ acc, H4 D = some (.lst acc) ∧ acc.length < sizeLine ∧ Nx (upd H4 D (.lst (acc ++ [y]))) else Nx H3) := by
  refine lc_tup (K := K) (a := a) (xs := xs) (Lp H1 D Rel G Y out) (Lp.zero L) (fun i H _ hp => ?_) (fun i x H hx hp => ?_) (fun H hp => ?_)
  · obtain ⟨_, _, r1, _⟩ := hp
    exact L.tk r1 K a xs src
  · have hi : i < xs.length := (List.getElem?_eq_some_iff.mp hx).1
    exact Lp.turn L mono (by omega) hp fun r g => step i x H hx r g
  · obtain ⟨acc, bs, r1, g1, hD, ea, e⟩ := hp
    exact fin H acc bs r1 g1 hD ea e
theorem lcg_list {a : Addr} {xs : List V} (L : LcG H1 D Rel G) (mono : ∀ H H' v b, TupK H H' → Y H v b → Y H' v b) (src : ∀ H, Rel H1 H → SqL K H a xs) (hl : xs.length ≤ 1000)
    (step : ∀ i x H, xs[i]? = some x → Rel H1 H → G H → Turn g tt te vs σ Rel G Y x (out i) H)
    (fin : ∀ H acc bs, Rel H1 H → G H → H D = some (.lst acc) → EachIs (Y H) acc bs → bs = (List.range xs.length).filterMap out → Qd H) :
    ∃ W : Nat → Nat → Hp → Prop, (∃ m, W 0 m (upd H1 D (.lst []))) ∧ ∀ i m H, W i m H →
      ((Itl K a).stop i H ∧ Qd H) ∨ ((Itl K a).go i H ∧ ∃ Nx : Hp → Prop, (∀ H', Nx H' → ∃ m', m' < m ∧ W (i + 1) m' H') ∧ ∀ x H', (Itl K a).yld i H x H' → g x (wipe σ vs) H' fun σ2 H2 =>
        wipe σ2 vs = wipe σ vs ∧ tt σ2 H2 fun b H3 => if b = true then te σ2 H3 fun y H4 => ∃ acc, H4 D = some (.lst acc) ∧ acc.length < sizeLine ∧ Nx (upd H4 D (.lst (acc ++ [y]))) else Nx H3) := by
  refine lc_list (K := K) (a := a) (xs := xs) (Lp H1 D Rel G Y out) (Lp.zero L) (fun i H _ hp => ?_) (fun i x H hx hp => ?_) (fun H hp => ?_)
  · obtain ⟨_, _, r1, _⟩ := hp
    exact src H r1
  · have hi : i < xs.length := (List.getElem?_eq_some_iff.mp hx).1
    exact Lp.turn L mono (by omega) hp fun r g => step i x H hx r g
  · obtain ⟨acc, bs, r1, g1, hD, ea, e⟩ := hp
    exact fin H acc bs r1 g1 hD ea e
theorem lcg_range {lo : Int} {n : Nat} (L : LcG H1 D Rel G) (mono : ∀ H H' v b, TupK H H' → Y H v b → Y H' v b) (hl : n ≤ 1000)
    (step : ∀ i H, i < n → Rel H1 H → G H → Turn g tt te vs σ Rel G Y (.int (lo + i)) (out i) H)
    (fin : ∀ H acc bs, Rel H1 H → G H → H D = some (.lst acc) → EachIs (Y H) acc bs → bs = (List.range n).filterMap out → Qd H) :
    ∃ W : Nat → Nat → Hp → Prop, (∃ m, W 0 m (upd H1 D (.lst []))) ∧ ∀ i m H, W i m H →
      ((Itr lo n).stop i H ∧ Qd H) ∨ ((Itr lo n).go i H ∧ ∃ Nx : Hp → Prop, (∀ H', Nx H' → ∃ m', m' < m ∧ W (i + 1) m' H') ∧ ∀ x H', (Itr lo n).yld i H x H' → g x (wipe σ vs) H' fun σ2 H2 =>
        wipe σ2 vs = wipe σ vs ∧ tt σ2 H2 fun b H3 => if b = true then te σ2 H3 fun y H4 => ∃ acc, H4 D = some (.lst acc) ∧ acc.length < sizeLine ∧ Nx (upd H4 D (.lst (acc ++ [y]))) else Nx H3) := by
  refine lc_range (lo := lo) (n := n) (Lp H1 D Rel G Y out) (Lp.zero L) (fun i H hi hp => ?_) (fun H hp => ?_)
  · exact Lp.turn L mono (by omega) hp fun r g => step i H hi r g
  · obtain ⟨acc, bs, r1, g1, hD, ea, e⟩ := hp
    exact fin H acc bs r1 g1 hD ea e
end

/-! ### where what comes is drawn -/
section
variable {K : PySem.W.Frag} {g : TG} {tt : TT} {te : TE} {vs : List Nat} {σ : L2.St} {H1 : Hp} {D : Addr} {Qd : Hp → Prop} {Rel : Hp → Hp → Prop} {G : Hp → Prop} {β : Type}
def TurnD (g : TG) (tt : TT) (te : TE) (vs : List Nat) (σ : L2.St) (Rel : Hp → Hp → Prop) (G : Hp → Prop) (Y : Hp → V → β → Prop) (x : V) (H : Hp) : Prop :=
  ∀ (Qe : VK) (Qn : Hp → Prop), (∀ y H4 b, Rel H H4 → G H4 → Y H4 y b → Qe y H4) →
    g x (wipe σ vs) H fun σ2 H2 => wipe σ2 vs = wipe σ vs ∧ tt σ2 H2 fun b H3 => if b = true then te σ2 H3 Qe else Qn H3
def LpD (H1 : Hp) (D : Addr) (Rel : Hp → Hp → Prop) (G : Hp → Prop) (Y : Hp → V → β → Prop) (i : Nat) (H : Hp) : Prop :=
  ∃ (acc : List V) (bs : List β), Rel H1 H ∧ G H ∧ H D = some (.lst acc) ∧ EachIs (Y H) acc bs ∧ bs.length = i
variable {Y : Hp → V → β → Prop}
theorem LpD.turn (L : LcG H1 D Rel G) (mono : ∀ H H' v b, TupK H H' → Y H v b → Y H' v b) {i : Nat} {x : V} {H : Hp} (hi : i < 1000) (hp : LpD H1 D Rel G Y i H)
    (step : Rel H1 H → G H → TurnD g tt te vs σ Rel G Y x H) :
    g x (wipe σ vs) H fun σ2 H2 => wipe σ2 vs = wipe σ vs ∧ tt σ2 H2 fun b H3 =>
      if b = true then te σ2 H3 fun y H4 => ∃ acc, H4 D = some (.lst acc) ∧ acc.length < sizeLine ∧ LpD H1 D Rel G Y (i + 1) (upd H4 D (.lst (acc ++ [y])))
      else LpD H1 D Rel G Y (i + 1) H3 := by
  obtain ⟨acc, bs, r1, g1, hD, ea, rfl⟩ := hp
  refine step r1 g1 _ _ fun y H4 b r4 g4 hy => ?_
  have hD4 := L.keepD r4 hD
  have t4 := (L.tk2 g1 r4).trans (TupK.upd (o := .lst (acc ++ [y])) hD4)
  exact ⟨acc, hD4, small1000 (by have := ea.length; omega), acc ++ [y], bs ++ [b], L.upd (L.trans r1 r4) hD4, L.gU g4 hD4, upd_same,
    each_snoc (mono _ _ _ _ (TupK.upd hD4) hy) (each_mono (fun v b => mono _ _ _ _ t4) ea), by rw [List.length_append]; rfl⟩
theorem lcd_range {lo : Int} {n : Nat} (L : LcG H1 D Rel G) (mono : ∀ H H' v b, TupK H H' → Y H v b → Y H' v b) (hl : n ≤ 1000)
    (step : ∀ i H, i < n → Rel H1 H → G H → TurnD g tt te vs σ Rel G Y (.int (lo + i)) H)
    (fin : ∀ H acc bs, Rel H1 H → G H → H D = some (.lst acc) → EachIs (Y H) acc bs → bs.length = n → Qd H) :
    ∃ W : Nat → Nat → Hp → Prop, (∃ m, W 0 m (upd H1 D (.lst []))) ∧ ∀ i m H, W i m H →
      ((Itr lo n).stop i H ∧ Qd H) ∨ ((Itr lo n).go i H ∧ ∃ Nx : Hp → Prop, (∀ H', Nx H' → ∃ m', m' < m ∧ W (i + 1) m' H') ∧ ∀ x H', (Itr lo n).yld i H x H' → g x (wipe σ vs) H' fun σ2 H2 =>
        wipe σ2 vs = wipe σ vs ∧ tt σ2 H2 fun b H3 => if b = true then te σ2 H3 fun y H4 => ∃ acc, H4 D = some (.lst acc) ∧ acc.length < sizeLine ∧ Nx (upd H4 D (.lst (acc ++ [y]))) else Nx H3) := by
  refine lc_range (lo := lo) (n := n) (LpD H1 D Rel G Y) ⟨[], [], L.new, L.g0, upd_same, .nil, rfl⟩ (fun i H hi hp => ?_) (fun H hp => ?_)
  · exact LpD.turn L mono (by omega) hp fun r g => step i H hi r g
  · obtain ⟨acc, bs, r1, g1, hD, ea, e⟩ := hp
    exact fin H acc bs r1 g1 hD ea e
theorem lcd_list {a : Addr} {xs : List V} (L : LcG H1 D Rel G) (mono : ∀ H H' v b, TupK H H' → Y H v b → Y H' v b) (src : ∀ H, Rel H1 H → SqL K H a xs) (hl : xs.length ≤ 1000)
    (step : ∀ (i : Nat) (x : V) (H : Hp), xs[i]? = some x → Rel H1 H → G H → TurnD g tt te vs σ Rel G Y x H)
    (fin : ∀ H acc bs, Rel H1 H → G H → H D = some (.lst acc) → EachIs (Y H) acc bs → bs.length = xs.length → Qd H) :
    ∃ W : Nat → Nat → Hp → Prop, (∃ m, W 0 m (upd H1 D (.lst []))) ∧ ∀ i m H, W i m H →
      ((Itl K a).stop i H ∧ Qd H) ∨ ((Itl K a).go i H ∧ ∃ Nx : Hp → Prop, (∀ H', Nx H' → ∃ m', m' < m ∧ W (i + 1) m' H') ∧ ∀ x H', (Itl K a).yld i H x H' → g x (wipe σ vs) H' fun σ2 H2 =>
        wipe σ2 vs = wipe σ vs ∧ tt σ2 H2 fun b H3 => if b = true then te σ2 H3 fun y H4 => ∃ acc, H4 D = some (.lst acc) ∧ acc.length < sizeLine ∧ Nx (upd H4 D (.lst (acc ++ [y]))) else Nx H3) := by
  refine lc_list (K := K) (a := a) (xs := xs) (LpD H1 D Rel G Y) ⟨[], [], L.new, L.g0, upd_same, .nil, rfl⟩ (fun i H _ hp => ?_) (fun i x H hx hp => ?_) (fun H hp => ?_)
  · obtain ⟨_, _, r1, _⟩ := hp
    exact src H r1
  · have hi : i < xs.length := (List.getElem?_eq_some_iff.mp hx).1
    exact LpD.turn L mono (by omega) hp fun r g => step i x H hx r g
  · obtain ⟨acc, bs, r1, g1, hD, ea, e⟩ := hp
    exact fin H acc bs r1 g1 hD ea e
end

/-! ### rows -/
theorem dp_ints {K : PySem.W.Frag} {H : Hp} : ∀ l : List Int, DpAll K H (l.map V.int) (l.map PyData.int)
  | [] => .nil
  | i :: l => .cons (.int i) (dp_ints l)
/-- a tuple of whole numbers -/
def TI (K : PySem.W.Frag) (H : Hp) (v : V) (r : List Int) : Prop := ∃ t, v = .ref t ∧ SqT K H t (r.map V.int)
theorem TI.mono {K : PySem.W.Frag} {H H' : Hp} {v : V} {r : List Int} (k : TupK H H') (h : TI K H v r) : TI K H' v r := by
  obtain ⟨t, e, h⟩ := h
  exact ⟨t, e, k _ _ _ h⟩
theorem TI.dp {K : PySem.W.Frag} {H : Hp} {v : V} {r : List Int} (h : TI K H v r) : Dp K H v (encR r) := by
  obtain ⟨t, rfl, h⟩ := h
  exact .tup h (dp_ints r)
/-- a tuple of rows, bs: the items with what they are -/
def RowsAt (K : PySem.W.Frag) (H : Hp) (a : Addr) (bs : List (V × List Int)) : Prop := SqT K H a (bs.map (·.1)) ∧ ∀ b ∈ bs, TI K H b.1 b.2
theorem RowsAt.mono {K : PySem.W.Frag} {H H' : Hp} {a : Addr} {bs : List (V × List Int)} (k : TupK H H') (h : RowsAt K H a bs) : RowsAt K H' a bs :=
  ⟨k _ _ _ h.1, fun b hb => (h.2 b hb).mono k⟩
theorem dp_rows {K : PySem.W.Frag} {H : Hp} : ∀ {bs : List (V × List Int)}, (∀ b ∈ bs, TI K H b.1 b.2) → DpAll K H (bs.map (·.1)) (bs.map fun b => encR b.2)
  | [], _ => .nil
  | b :: bs, h => .cons (h b List.mem_cons_self).dp (dp_rows fun c hc => h c (List.mem_cons_of_mem _ hc))
abbrev encRs (rs : List (List Int)) : PyData := .tuple (rs.map encR)
theorem RowsAt.dp {K : PySem.W.Frag} {H : Hp} {a : Addr} {bs : List (V × List Int)} (h : RowsAt K H a bs) : Dp K H (.ref a) (encRs (bs.map (·.2))) := by
  refine .tup h.1 ?_
  rw [List.map_map]
  exact dp_rows h.2
/-- a table -/
def TabAt (K : PySem.W.Frag) (H : Hp) (t : Addr) (many : Int) (a : Addr) (bs : List (V × List Int)) : Prop := SqT K H t [.int many, .ref a] ∧ RowsAt K H a bs
theorem TabAt.mono {K : PySem.W.Frag} {H H' : Hp} {t a : Addr} {many : Int} {bs : List (V × List Int)} (k : TupK H H') (h : TabAt K H t many a bs) : TabAt K H' t many a bs :=
  ⟨k _ _ _ h.1, h.2.mono k⟩
abbrev encT (many : Int) (rs : List (List Int)) : PyData := .tuple [.int many, encRs rs]
theorem TabAt.dp {K : PySem.W.Frag} {H : Hp} {t a : Addr} {many : Int} {bs : List (V × List Int)} (h : TabAt K H t many a bs) : Dp K H (.ref t) (encT many (bs.map (·.2))) :=
  .tup h.1 (.cons (.int _) (.cons h.2.dp .nil))
end GL
namespace GL
open PySem PySem.Spec PyProof.Rows L2
theorem units65 {k : Nat} {A : Around} (r : Room k A) : A.units + 65 < cLine := by have := r.un; omega
theorem lay_ints : ∀ l : List Int, PyData.canLayAll0 (l.map .int) = true
  | [] => by simp [PyData.canLayAll0]
  | i :: l => by
    rw [List.map_cons, PyData.canLayAll0, lay_ints l]
    simp [PyData.canLay0]
theorem lay_encR (r : List Int) : (encR r).canLay0 = true := by
  show PyData.canLay0 (.tuple _) = true
  rw [PyData.canLay0]
  exact lay_ints r
theorem depth_encR (r : List Int) : (encR r).depth = 1 := by
  show PyData.depth (.tuple _) = 1
  rw [PyData.depth, PySem.W.depth_ints]
theorem shaped_encR (r : List Int) : SeqAt.shaped (encR r) = true := by
  unfold SeqAt.shaped
  rw [lay_encR, depth_encR]
  rfl
theorem lay_rows : ∀ rs : List (List Int), PyData.canLayAll0 (rs.map encR) = true
  | [] => by simp [PyData.canLayAll0]
  | r :: rs => by
    rw [List.map_cons, PyData.canLayAll0, lay_rows rs, lay_encR]
    rfl
theorem depth_rows : ∀ rs : List (List Int), PyData.depthAll (rs.map encR) ≤ 1
  | [] => by simp [PyData.depthAll]
  | r :: rs => by
    rw [List.map_cons, PyData.depthAll, depth_encR]
    have := depth_rows rs
    omega
theorem lay_encRs (rs : List (List Int)) : (encRs rs).canLay0 = true := by
  show PyData.canLay0 (.tuple _) = true
  rw [PyData.canLay0]
  exact lay_rows rs
theorem depth_encRs (rs : List (List Int)) : (encRs rs).depth ≤ 2 := by
  show PyData.depth (.tuple _) ≤ 2
  rw [PyData.depth]
  have := depth_rows rs
  omega
theorem shaped_encRs (rs : List (List Int)) : SeqAt.shaped (encRs rs) = true := by
  unfold SeqAt.shaped
  rw [lay_encRs, decide_eq_true (Nat.le_trans (depth_encRs rs) (by decide))]
  rfl
theorem eqvs_ints : ∀ a b : List Int, PyData.eqvAll (a.map .int) (b.map .int) = decide (a = b)
  | [], [] => by simp [PyData.eqvAll]
  | [], _ :: _ => by simp [PyData.eqvAll]
  | _ :: _, [] => by simp [PyData.eqvAll]
  | x :: a, y :: b => by
    rw [List.map_cons, List.map_cons, PyData.eqvAll, eqvs_ints a b]
    by_cases h : x = y <;> simp [PyData.eqv, h]
theorem eqv_encR (a b : List Int) : PyData.eqv (encR a) (encR b) = decide (a = b) := by
  show PyData.eqv (.tuple _) (.tuple _) = _
  rw [PyData.eqv]
  exact eqvs_ints a b
theorem any_encR (rs : List (List Int)) (r : List Int) : ((rs.map encR).any fun z => PyData.eqv z (encR r)) = decide (r ∈ rs) := by
  induction rs with
  | nil => simp
  | cons a rs ih =>
    rw [List.map_cons, List.any_cons, ih, eqv_encR]
    by_cases h : a = r
    · simp [h]
    · have h' : ¬ r = a := fun e => h e.symm
      simp [h, h']
end GL

set_option maxHeartbeats 8000000
/-! set(xs) of a list of whole numbers; row in t, t a tuple of data -/
namespace GL
open PySem PySem.Spec PyProof.Rows L2
/-- an empty set as it is made -/
abbrev eSet (w : World) : Obj := { cls := .type "set", dict := none, data := .set #[] 0 (.fresh 0 0 (!w.params.followText "set-order")) }

section
variable {P : Program} {w : World} {A : Around} {E : Value → Shared → Prop} {s : Shared}
theorem set_of_list {l : Addr} {its : List Value} {ns : List Int} {Q : Value → Shared → Prop} (hd0 : A.handled = none)
    (hl : s.heap.IsList l its.toArray) (hi : IntsAre its ns) (few : ns.length + 1 < scanBound)
    (fin : ∀ (h' : Heap) (tk c : Nat), SetR w h' s.heap.objs.size (fun j => decide (j ∈ ns)) c → c ≤ ns.length →
      (∀ b o, s.heap.get? b = some o → h'.get? b = some o) → Q (.ref s.heap.objs.size) { s with heap := h', toks := tk }) :
    wpAny (model P w) A (call (.type "set") [.ref l]) Q E s := by
  have sz : its.toArray.size = ns.length := by rw [List.size_toArray]; exact hi.length
  obtain ⟨c, tl, hmro⟩ := F.called_set.mro
  have i1 := F.called_set.made
  have i2 := F.called_set.sub
  refine wpAny_call (codeAny_of_tree ?_)
  show wpAny _ _ (callAny (.type "set") _) _ _ _
  refine wpAny_pure ⟨Code.quiet_builtin _ (by decide +kernel), codeAny_builtin F.entry_type_call ?_⟩
  rw [Around.under_plain (weight_type_call_type "set" [.ref l] []) rfl]
  have i3 := F.called_set.notType
  have i4 := F.called_set.canCreate
  have i5 := F.typeCall_set_1 (.ref l)
  repeat (any_goals (first | assumption | wp_step))
  have made := code_set_led1 (P := P) (w := w) (A := A.in1) (s := s) (.ref l) (E := E)
    (Q₁ := fun x s1 => x = .ref s.heap.objs.size ∧ s1 = { s with heap := s.heap.push (eSet w) }) ⟨rfl, rfl⟩
  refine codeAny_mono made fun r s1 hr => ?_
  match r, hr with
  | .error e, hr => exact hr
  | .ok .next, hr => exact hr.elim
  | .ok .brk, hr => exact hr.elim
  | .ok .cont, hr => exact hr.elim
  | .ok (.ret x), hr =>
    obtain ⟨rfl, rfl⟩ := hr
    have g0 : (s.heap.push (eSet w)).get? s.heap.objs.size = some (eSet w) := Heap.get?_push_size _ rfl
    have ty : Shared.TypeIs { s with heap := s.heap.push (eSet w) } (.ref s.heap.objs.size) "set" := ⟨_, g0, rfl⟩
    have j1 := F.called_set.init.lookup
    have j2 := F.called_set.init.bind (.ref s.heap.objs.size)
    repeat (any_goals (first | assumption | wp_step))
    refine codeAny_mono (codeAny_call_builtin (R := wants (fun r s2 => r = .none ∧ ∃ h' tk c, s2 = { s with heap := h', toks := tk } ∧
      SetR w h' s.heap.objs.size (fun j => decide (j ∈ ns)) c ∧ c ≤ ns.length ∧ (∀ b o, s.heap.get? b = some o → h'.get? b = some o)) E)
      F.called_set.init.plain F.entry_set_init (check_set_init_1 ty ?_)) fun r2 s2 hr2 => ?_
    · obtain ⟨ol, hol, hcl, nl, hdl⟩ := hl
      obtain ⟨k1, k2, k3, k4⟩ := ol
      simp only at hcl hdl
      subst hcl; subst hdl
      have hol' : (s.heap.push (eSet w)).get? l = some { cls := .type "list", dict := k2, data := .seq its.toArray nl, slots := k4 } := Heap.get?_push_of_some _ hol
      have n1 := F.sub_list_set
      have n2 := F.sub_list_frozenset
      have n3 : (Value.type "list" == Value.type "dict") = false := by decide
      have lst1 : (s.heap.push (eSet w)).IsList l its.toArray := ⟨_, hol', rfl, nl, rfl⟩
      unfold Builtin.«set.__init__» noKeywords Builtin.Frozenset.updateFrom
      generalize e0 : pyIter = it0
      wp_walk
      subst e0
      refine wpAny_pyIter_list lst1 ?_
      refine wpAny_bind (wpAny_runValue ?_)
      have lS : l < s.heap.objs.size := Heap.lt_size hol
      have hd3 : A.in1.in1.in1.handled = none := by simp [hd0]
      have z1 : (s.heap.push (eSet w)).objs.size = s.heap.objs.size + 1 := Heap.size_push ..
      have neI : l ≠ (s.heap.push (eSet w)).objs.size := by rw [z1]; exact Nat.ne_of_lt (Nat.lt_succ_of_lt lS)
      have off : s.heap.objs.size ∉ [(s.heap.push (eSet w)).objs.size, l] := by
        rw [z1]
        intro m
        rcases List.mem_cons.mp m with q | m
        · exact absurd q (Nat.ne_of_lt (Nat.lt_succ_self _))
        · exact absurd (List.mem_singleton.mp m) (Nat.ne_of_gt lS)
      have val : ∀ (i : Nat) (v : Value), its.toArray[i]? = some v → ∃ k t, ns[i]? = some k ∧ v = .int k t := fun i v hv => by
        have lt : i < ns.length := by rw [← sz]; exact (Array.getElem?_eq_some_iff.mp hv).1
        obtain ⟨t, e⟩ := PyProof.Rows.IntsAre.int_at hi i v (by simpa using hv)
        refine ⟨ns[i], t, List.getElem?_eq_getElem lt, ?_⟩
        rw [e, List.getD_eq_getElem?_getD, List.getElem?_eq_getElem lt] <;> rfl
      refine set_update_ints ((Walks.list hd3 _ l neI its.toArray).toS) s.heap.objs.size off ns sz few val (its.toArray.size - 0) 0 _ (by omega) (Nat.zero_le _)
        ⟨⟨_, Heap.get?_push_size _ rfl, rfl, rfl⟩, lst1.push _⟩ ?hz0 ?hz1
      case hz0 => exact ⟨0, Nat.le_refl 0, setR_new_at (Heap.get?_push_of_some _ g0)⟩
      case hz1 =>
        intro s' c' hm hc' hS'
        obtain ⟨h', g2, d', tk', os'⟩ := s'
        have eg : g2 = s.gens := hm.gens
        have ed : d' = s.drawn := hm.drawn
        have eo : os' = s.os := hm.os
        subst eg; subst ed; subst eo
        refine wpAny_pure ?_
        rw [sz] at hc'
        refine wpAny_pure ⟨rfl, h', tk', c', rfl, hS', hc', fun b o e => ?_⟩
        have b0 : b < s.heap.objs.size := Heap.lt_size e
        refine hm.heap b o (fun m => ?_) (Heap.get?_push_of_some _ (Heap.get?_push_of_some _ e))
        rcases List.mem_cons.mp m with q | m
        · exact absurd q (Nat.ne_of_lt b0)
        · exact absurd (List.mem_singleton.mp m) (by rw [z1]; exact Nat.ne_of_lt (Nat.lt_succ_of_lt b0))
    · match r2, hr2 with
      | .error e, hr2 => exact hr2
      | .ok .next, hr2 => exact hr2.elim
      | .ok .brk, hr2 => exact hr2.elim
      | .ok .cont, hr2 => exact hr2.elim
      | .ok (.ret x), hr2 =>
        obtain ⟨rfl, h', tk, c', rfl, hS', hc', hk'⟩ := hr2
        repeat (any_goals (first | assumption | wp_step))
        exact fin _ _ _ hS' hc' hk'
end

section
variable {X : Cx}
/-- set(xs), xs a list of whole numbers -/
def rSetInts (K : PySem.W.Frag) (w : World) : List V → Hp → VK → Prop := fun vs H Q => ∃ (a : Addr) (ns : List Int), vs = [.ref a] ∧ SqL K H a (ns.map V.int) ∧ ns.length ≤ 1000 ∧
  ∀ p c, H p = none → c ≤ ns.length → Q (.ref p) (upd H p (SetO w p (fun j => decide (j ∈ ns)) c))
theorem cr_setInts (hc : X.calm = true) : CallR X (.type "set") (rSetInts X.K X.w) := by
  intro pins s σ H vs us Q I r h
  obtain ⟨a, ns, rfl, hs, hl, q⟩ := h
  obtain ⟨its, rv, pl, hz⟩ := I.list hs
  rw [Vals.ref1 r]
  refine set_of_list (I.ok.hd hc) pl.isList rv.ints (by unfold scanBound; omega) fun h' tk c R hc' k => ?_
  have hn : H s.heap.objs.size = none := I.hok.fresh (Nat.le_refl _)
  exact ⟨.ref s.heap.objs.size, upd H s.heap.objs.size (SetO X.w s.heap.objs.size (fun j => decide (j ∈ ns)) c), I.laid (t' := tk) k (Nat.le_refl _) (setO_new R), rfl, q _ _ hn hc'⟩
/-- x in t, x and the items of the tuple t data -/
def rInT (K : PySem.W.Frag) : R2 := fun x y H Q => ∃ d ds, Dp K H x d ∧ Dp K H y (.tuple ds) ∧ SeqAt.shaped d = true ∧ SeqAt.shaped (.tuple ds) = true ∧
  Q (.bl (ds.any fun z => PyData.eqv z d)) H
theorem op_inTD (hu : X.A.units + 65 < cLine) : OpR X (compareOp .In) (rInT X.K) := by
  intro pins s σ H x y v u Q I rx ry h
  obtain ⟨d, ds, hd, he, sd, se, q⟩ := h
  obtain ⟨as, q1⟩ := Dp.reads I d x v hd rx
  obtain ⟨bs, q2⟩ := Dp.reads I (.tuple ds) y u he ry
  exact SeqAt.in_tuple_reads q2 q1 (SeqAt.canLay_of_shaped se) (SeqAt.canLay_of_shaped sd) (room_in_shaped sd hu) ⟨.bl _, H, I, rfl, q⟩
end
end GL

/-! rows in order: plain mathematics -/
namespace K2
abbrev Rw := List Int
theorem le_anti {a b : Rw} (h : a ≤ b) (h' : b ≤ a) : a = b := List.le_antisymm h h'
theorem sorted_unique : ∀ {l m : List Rw}, l.Pairwise (· ≤ ·) → m.Pairwise (· ≤ ·) → l.Perm m → l = m
  | [], m, _, _, p => (List.Perm.eq_nil p.symm).symm
  | a :: l, [], _, _, p => absurd (List.Perm.eq_nil p) (by simp)
  | a :: l, b :: m, hl, hm, p => by
    rw [List.pairwise_cons] at hl hm
    have e : a = b := by
      have ha : a ∈ b :: m := p.mem_iff.mp List.mem_cons_self
      have hb : b ∈ a :: l := p.mem_iff.mpr List.mem_cons_self
      rcases List.mem_cons.mp ha with e | ha
      · exact e
      · rcases List.mem_cons.mp hb with e | hb
        · exact e.symm
        · exact le_anti (hl.1 b hb) (hm.1 a ha)
    subst e
    rw [sorted_unique hl.2 hm.2 p.cons_inv]
/-- a lot of rows: ascending, none twice -/
def Lot (rs : List Rw) : Prop := rs.Pairwise (· < ·)
theorem Lot.le {rs : List Rw} (h : Lot rs) : rs.Pairwise (· ≤ ·) := h.imp fun h => List.le_of_lt h
theorem Lot.nodup {rs : List Rw} (h : Lot rs) : rs.Nodup := h.imp fun h e => by subst e; exact List.lt_irrefl _ h
theorem lot_of {rs : List Rw} (h : rs.Pairwise (· ≤ ·)) (n : rs.Nodup) : Lot rs := by
  have := h.and n
  exact this.imp fun {a b} ⟨h1, h2⟩ => by
    rcases Classical.em (a < b) with q | q
    · exact q
    · exact absurd (le_anti h1 (List.not_lt.mp q)) h2
theorem filter_ne_of {rs : List Rw} {r : Rw} (h : r ∉ rs) : rs.filter (fun x => decide (x ≠ r)) = rs :=
  List.filter_eq_self.mpr fun a ha => decide_eq_true fun e => h (e ▸ ha)
theorem perm_filter_ne {rs : List Rw} {r : Rw} (n : rs.Nodup) (h : r ∈ rs) : (rs.filter (fun x => decide (x ≠ r)) ++ [r]).Perm rs := by
  induction rs with
  | nil => cases h
  | cons a l ih =>
    rw [List.nodup_cons] at n
    by_cases e : a = r
    · subst e
      rw [List.filter_cons_of_neg (by simp), filter_ne_of n.1]
      exact List.perm_append_singleton _ _
    · rw [List.filter_cons_of_pos (by simpa using e), List.cons_append]
      exact (ih n.2 ((List.mem_cons.mp h).resolve_left fun z => e z.symm)).cons a
/-- the least, the greatest of some whole numbers -/
def IsLo (ns : List Int) (o : Option Int) : Prop := (ns = [] ∧ o = none) ∨ ∃ m, o = some m ∧ m ∈ ns ∧ ∀ z ∈ ns, m ≤ z
def IsHi (ns : List Int) (o : Option Int) : Prop := (ns = [] ∧ o = none) ∨ ∃ m, o = some m ∧ m ∈ ns ∧ ∀ z ∈ ns, z ≤ m
theorem IsLo.one {ns ms : List Int} {o u : Option Int} (h : IsLo ns o) (h' : IsLo ms u) (e : ∀ z, z ∈ ns ↔ z ∈ ms) : o = u := by
  rcases h with ⟨rfl, rfl⟩ | ⟨m, rfl, h1, h2⟩
  · rcases h' with ⟨rfl, rfl⟩ | ⟨k, rfl, g1, _⟩
    · rfl
    · exact absurd ((e k).mpr g1) (by simp)
  · rcases h' with ⟨rfl, rfl⟩ | ⟨k, rfl, g1, g2⟩
    · exact absurd ((e m).mp h1) (by simp)
    · have := h2 k ((e k).mpr g1)
      have := g2 m ((e m).mp h1)
      exact congrArg some (by omega)
theorem IsHi.one {ns ms : List Int} {o u : Option Int} (h : IsHi ns o) (h' : IsHi ms u) (e : ∀ z, z ∈ ns ↔ z ∈ ms) : o = u := by
  rcases h with ⟨rfl, rfl⟩ | ⟨m, rfl, h1, h2⟩
  · rcases h' with ⟨rfl, rfl⟩ | ⟨k, rfl, g1, _⟩
    · rfl
    · exact absurd ((e k).mpr g1) (by simp)
  · rcases h' with ⟨rfl, rfl⟩ | ⟨k, rfl, g1, g2⟩
    · exact absurd ((e m).mp h1) (by simp)
    · have := h2 k ((e k).mpr g1)
      have := g2 m ((e m).mp h1)
      exact congrArg some (by omega)
theorem lo_first {m : Int} {l : List Int} (h : (m :: l).Pairwise (· < ·)) : IsLo (m :: l) (some m) := .inr ⟨m, rfl, List.mem_cons_self, fun z hz => by
  rcases List.mem_cons.mp hz with rfl | hz
  · exact Int.le_refl _
  · exact Int.le_of_lt ((List.pairwise_cons.mp h).1 z hz)⟩
theorem hi_last {m : Int} {l : List Int} (h : (l ++ [m]).Pairwise (· < ·)) : IsHi (l ++ [m]) (some m) := .inr ⟨m, rfl, by simp, fun z hz => by
  rcases List.mem_append.mp hz with hz | hz
  · exact Int.le_of_lt ((List.pairwise_append.mp h).2.2 z hz m (by simp))
  · rw [List.mem_singleton.mp hz]; exact Int.le_refl _⟩
/-- what stands behind a prefix -/
def behind (rs : List Rw) (pre : Rw) : List Int := (rs.filter fun r => decide (r.take pre.length = pre)).map fun r => r.getD pre.length 0
def there (rs : List Rw) (pre : Rw) : Bool := decide (pre = []) || rs.any fun r => decide (r.take pre.length = pre)
end K2

/-! rules with the written part named, their ends alike -/
namespace GL
open PySem PySem.Spec PyProof.Rows L2

/-- a new tuple, or one that stands: what is wanted of it -/
def TupTo (K : PySem.W.Frag) (H : Hp) (Q : VK) (ys : List V) : Prop := ∀ (p : Addr) H', Same H H' → SqT K H' p ys → Q (.ref p) H'
theorem TupTo.new {K : PySem.W.Frag} {H : Hp} {Q : VK} {ys : List V} (h : TupTo K H Q ys) {p : Addr} (hp : H p = none) : Q (.ref p) (upd H p (.tup ys)) :=
  h p _ (put_new hp _) (SqT.of upd_same)
def rCatU (K : PySem.W.Frag) : R2 := fun x y H Q => ∃ a b xs ys, x = .ref a ∧ y = .ref b ∧ SqT K H a xs ∧ SqT K H b ys ∧ xs.length + ys.length ≤ sizeLine ∧ TupTo K H Q (xs ++ ys)
def rSlU (K : PySem.W.Frag) : V → Option Int → Option Int → Hp → VK → Prop := fun x lo hi H Q => ∃ a xs, x = .ref a ∧ SqT K H a xs ∧ TupTo K H Q (cutV xs lo hi)
def rLen2 (K : PySem.W.Frag) : List V → Hp → VK → Prop := fun xs H Q => ∃ p ys, xs = [.ref p] ∧ (SqL K H p ys ∨ SqT K H p ys) ∧ Q (.int ys.length) H
def rTupOf (K : PySem.W.Frag) : List V → Hp → VK → Prop := fun xs H Q => ∃ p ys, xs = [.ref p] ∧ (SqL K H p ys ∨ SqT K H p ys) ∧ TupTo K H Q ys
section
variable {X : Cx}
theorem op_catU : OpR X (binaryOp .Add) (rCatU X.K) := by
  intro pins s σ H x y v u Q I rx ry h
  obtain ⟨a, b, xs, ys, rfl, rfl, ha, hb, hz, q⟩ := h
  refine op_catA pins s σ H _ _ v u Q I rx ry ⟨a, b, xs, ys, rfl, rfl, ha, hb, hz, fun e => ?_, fun _ e => ?_, fun _ _ p hp => q.new hp⟩
  · subst e
    exact q b H (Same.refl H) hb
  · subst e
    exact q a H (Same.refl H) (by rw [List.append_nil]; exact ha)
theorem sl_tupU : SlR X (rSlU X.K) := by
  intro pins s σ H x v vl vu lo hi sl Q I rx hs pl pu h
  obtain ⟨a, xs, rfl, hx, q⟩ := h
  refine sl_tupA pins s σ H _ v vl vu lo hi sl Q I rx hs pl pu ⟨a, xs, rfl, hx, fun hw => ?_, fun _ p hp => q.new hp⟩
  refine q a H (Same.refl H) ?_
  have e : cutV xs lo hi = xs := by
    unfold cutV
    rw [hw.1, hw.2]
    simp
  rw [e]
  exact hx
theorem call_len2 : CallR X (.builtin "len") (rLen2 X.K) := call_len_seq
theorem call_tup2 : CallR X (.type "tuple") (rTupOf X.K) := by
  intro pins s σ H xs us Q I r h
  obtain ⟨p, ys, rfl, hq, q⟩ := h
  refine call_tuple_of pins s σ H _ us Q I r ⟨p, ys, rfl, ?_⟩
  rcases hq with hq | hq
  · exact .inl ⟨hq, fun l hl => q.new hl⟩
  · exact .inr ⟨hq, q p H (Same.refl H) hq⟩
end
end GL
namespace GL
open PySem PySem.Spec PyProof.Rows L2
open PySem.W (EachIs)
theorem fm_take {α β : Type} (l : List α) (f : α → Option β) : ∀ i, (List.range i).filterMap (fun j => (l[j]?).bind f) = (l.take i).filterMap f
  | 0 => by simp
  | i + 1 => by
    rw [List.range_succ, List.filterMap_append, fm_take l f i, List.take_add_one, List.filterMap_append]
    cases h : l[i]? with
    | none => simp [h]
    | some a => cases h2 : f a <;> simp [h, h2]
theorem fm_all {α β : Type} (l : List α) (f : α → Option β) : (List.range l.length).filterMap (fun j => (l[j]?).bind f) = l.filterMap f := by
  rw [fm_take, List.take_length]
/-- items that are pairs, told by themselves -/
def YP (K : PySem.W.Frag) (H : Hp) (v : V) (b : V × List Int) : Prop := v = b.1 ∧ TI K H b.1 b.2
theorem YP.mono {K : PySem.W.Frag} : ∀ H H' v b, TupK H H' → YP K H v b → YP K H' v b := fun _ _ _ _ k h => ⟨h.1, h.2.mono k⟩
theorem yp_all {K : PySem.W.Frag} {H : Hp} : ∀ {acc : List V} {bs : List (V × List Int)}, EachIs (YP K H) acc bs → acc = bs.map (·.1) ∧ ∀ b ∈ bs, TI K H b.1 b.2
  | _, _, .nil => ⟨rfl, fun _ z => nomatch z⟩
  | _, _, .cons h t => by
    obtain ⟨e, g⟩ := yp_all t
    refine ⟨by rw [List.map_cons, ← e, ← h.1], fun b hb => ?_⟩
    rcases List.mem_cons.mp hb with rfl | hb
    · exact h.2
    · exact g b hb
theorem get_fst {bs : List (V × List Int)} {i : Nat} {x : V} (h : (bs.map (·.1))[i]? = some x) : ∃ b, bs[i]? = some b ∧ x = b.1 ∧ b ∈ bs := by
  rw [List.getElem?_map] at h
  cases e : bs[i]? with
  | none => rw [e] at h; cases h
  | some b =>
    rw [e] at h
    cases h
    exact ⟨b, rfl, rfl, List.mem_of_getElem? e⟩
end GL
namespace GL
open PySem PySem.Spec PyProof.Rows L2
open PySem.W (EachIs)
theorem ti_zip {K : PySem.W.Frag} {H : Hp} : ∀ {acc : List V} {rs : List (List Int)}, EachIs (TI K H) acc rs → ∃ bs : List (V × List Int), acc = bs.map (·.1) ∧ rs = bs.map (·.2) ∧ ∀ b ∈ bs, TI K H b.1 b.2
  | _, _, .nil => ⟨[], rfl, rfl, fun _ z => nomatch z⟩
  | a :: _, r :: _, .cons h t => by
    obtain ⟨bs, rfl, rfl, g⟩ := ti_zip t
    refine ⟨(a, r) :: bs, rfl, rfl, fun b hb => ?_⟩
    rcases List.mem_cons.mp hb with rfl | hb
    · exact h
    · exact g b hb
theorem ti_row {K : PySem.W.Frag} {H : Hp} {b : V × List Int} (h : TI K H b.1 b.2) (n : b.2 ≠ []) : RowAt K H b := by
  obtain ⟨t, e1, e2⟩ := h
  exact ⟨t, e1, e2, n⟩
end GL
namespace GL
open PySem PySem.Spec PyProof.Rows L2
theorem fm_if {α : Type} (p : α → Bool) : ∀ l : List α, (l.filterMap fun v => if p v = true then some v else none) = l.filter p
  | [] => rfl
  | a :: l => by
    have ih := fm_if p l
    by_cases h : p a = true
    · rw [List.filterMap_cons, List.filter_cons_of_pos h, if_pos h, ih]
    · rw [List.filterMap_cons, List.filter_cons_of_neg h, if_neg h, ih]
def oV : Option Int → V
  | none => .non
  | some i => .int i
theorem inV_ints (x : Int) : ∀ ns : List Int, inV (.int x) (ns.map V.int) = decide (x ∈ ns)
  | [] => rfl
  | n :: ns => by
    have ih := inV_ints x ns
    unfold inV at *
    rw [List.map_cons, List.any_cons, ih]
    by_cases h : n = x
    · simp [eqV, h]
    · have h' : ¬ x = n := fun e => h e.symm
      simp [eqV, h, h']
theorem flat_ints : ∀ ns : List Int, (ns.map V.int).all flatV = true
  | [] => rfl
  | n :: ns => by
    rw [List.map_cons, List.all_cons, flat_ints ns]
    rfl
end GL
namespace GL
open PySem PySem.Spec PyProof.Rows L2
/-- min(xs, default=None), max(xs, default=None) -/
def rBestU (K : PySem.W.Frag) (R : List Int → Option Int → Prop) : List V → List V → Hp → VK → Prop := fun vs zs H Q =>
  ∃ (a : Addr) (ns : List Int), vs = [.ref a] ∧ zs = [.non] ∧ SqL K H a (ns.map V.int) ∧ ∀ o, R ns o → Q (oV o) H
theorem cr_minU {X : Cx} (hc : X.calm = true) : CallRK X (.builtin "min") [Str.ofString "default"] (rBestU X.K K2.IsLo) := by
  intro pins s σ H vs zs us ws Q I r rz h
  obtain ⟨a, ns, e1, e2, hs, q⟩ := h
  exact cr_minD hc pins s σ H vs zs us ws Q I r rz ⟨a, ns, e1, e2, hs, fun z => q none (.inl ⟨z, rfl⟩), fun M h1 h2 => q (some M) (.inr ⟨M, rfl, h1, h2⟩)⟩
theorem cr_maxU {X : Cx} (hc : X.calm = true) : CallRK X (.builtin "max") [Str.ofString "default"] (rBestU X.K K2.IsHi) := by
  intro pins s σ H vs zs us ws Q I r rz h
  obtain ⟨a, ns, e1, e2, hs, q⟩ := h
  exact cr_maxD hc pins s σ H vs zs us ws Q I r rz ⟨a, ns, e1, e2, hs, fun z => q none (.inl ⟨z, rfl⟩), fun M h1 h2 => q (some M) (.inr ⟨M, rfl, h1, h2⟩)⟩
end GL
namespace GL
open PySem PySem.Spec PyProof.Rows L2
/-- another reading that says enough -/
theorem pe_imp {X : Cx} {e : Expr} {t t' : TE} (h : PE X e t) (f : ∀ σ H Q, t' σ H Q → t σ H Q) : PE X e t' := ⟨fun pins s σ H Q I hw => h.run pins s σ H Q I (f σ H Q hw)⟩
theorem dp_lints {K : PySem.W.Frag} {H : Hp} {a : Addr} {ns : List Int} (h : SqL K H a (ns.map V.int)) : Dp K H (.ref a) (.list (ns.map .int)) := .lst h (dp_ints ns)
theorem shaped_lints (ns : List Int) : SeqAt.shaped (.list (ns.map .int)) = true := by
  unfold SeqAt.shaped
  rw [PyData.canLay0, lay_ints, PyData.depth, PySem.W.depth_ints]
  rfl
theorem ne_lints (ns : List Int) : (!PyData.eqv (.list (ns.map .int)) (.list [])) = decide (ns ≠ []) := by
  have := eqvs_ints ns []
  rw [PyData.eqv]
  rw [List.map_nil] at this
  rw [this]
  cases ns <;> simp
/-- xs[0] if xs != [] else None; xs[-1] if xs != [] else None: ascending whole numbers -/
def tFirstOr (K : PySem.W.Frag) (i : Nat) : TE := fun σ H Q => ∃ (a : Addr) (ns : List Int), σ[i]? = some (some (.ref a)) ∧ SqL K H a (ns.map V.int) ∧ ns.Pairwise (· < ·) ∧ ∀ o H', Same H H' → K2.IsLo ns o → Q (oV o) H'
def tLastOr (K : PySem.W.Frag) (i : Nat) : TE := fun σ H Q => ∃ (a : Addr) (ns : List Int), σ[i]? = some (some (.ref a)) ∧ SqL K H a (ns.map V.int) ∧ ns.Pairwise (· < ·) ∧ ∀ o H', Same H H' → K2.IsHi ns o → Q (oV o) H'
theorem last_at {ns : List Int} (h : ns ≠ []) : ∃ l m, ns = l ++ [m] ∧ atI (ns.map V.int) (-1) = some (.int m) := by
  refine ⟨ns.dropLast, ns.getLast h, (List.dropLast_concat_getLast h).symm, ?_⟩
  have e : ns.map V.int = ns.dropLast.map V.int ++ [.int (ns.getLast h)] := by
    rw [← List.map_singleton, ← List.map_append, List.dropLast_concat_getLast h]
  rw [e]
  exact atI_last _ _
end GL

/-! small data: what is asked of them by == and repr -/
namespace GL
open PySem PySem.Spec PyProof.Rows L2
/-- no dict, no text; whole numbers of at most twelve digits; depth, weight -/
structure Ok (w dp : Nat) (d : PyData) : Prop where
  sh : d.showable = true
  nd : d.hasDict = false
  lay : d.canLay0 = true
  sm : d.leavesShort 13 = true
  dep : d.depth ≤ dp
  wt : d.weight ≤ w
structure OkAll (w dp : Nat) (ds : List PyData) : Prop where
  sh : PyData.showableAll ds = true
  nd : PyData.hasDictAll ds = false
  lay : PyData.canLayAll0 ds = true
  sm : PyData.leavesShortAll 13 ds = true
  dep : PyData.depthAll ds ≤ dp
  wt : PyData.weightAll ds ≤ w
theorem Ok.mono {w w' dp dp' : Nat} {d : PyData} (h : Ok w dp d) (a : w ≤ w') (b : dp ≤ dp') : Ok w' dp' d := ⟨h.sh, h.nd, h.lay, h.sm, Nat.le_trans h.dep b, Nat.le_trans h.wt a⟩
theorem OkAll.mono {w w' dp dp' : Nat} {d : List PyData} (h : OkAll w dp d) (a : w ≤ w') (b : dp ≤ dp') : OkAll w' dp' d := ⟨h.sh, h.nd, h.lay, h.sm, Nat.le_trans h.dep b, Nat.le_trans h.wt a⟩
theorem Ok.none : Ok 0 0 .none := ⟨by simp [PyData.showable], by simp [PyData.hasDict], by simp [PyData.canLay0], by simp [PyData.leavesShort], by simp [PyData.depth], by simp [PyData.weight]⟩
theorem Ok.bool (b : Bool) : Ok 0 0 (.bool b) := ⟨by simp [PyData.showable], by simp [PyData.hasDict], by simp [PyData.canLay0], by simp [PyData.leavesShort], by simp [PyData.depth], by simp [PyData.weight]⟩
theorem Ok.int {i : Int} (h : i.natAbs < 10 ^ 12) : Ok 41 0 (.int i) := by
  have l2 : i.natAbs.log2 < 40 := by
    by_cases z : i.natAbs = 0
    · rw [z]
      decide
    · exact (Nat.log2_lt z).mpr (Nat.lt_trans h (by decide))
  refine ⟨?_, by simp [PyData.hasDict], by simp [PyData.canLay0], ?_, by simp [PyData.depth], ?_⟩
  · simp only [PyData.showable, decide_eq_true_eq]
    omega
  · simp only [PyData.leavesShort, decide_eq_true_eq]
    exact PyData.shown_int_le h
  · simp only [PyData.weight]
    split <;> omega
theorem OkAll.nil (dp : Nat) : OkAll 0 dp [] := ⟨by simp [PyData.showableAll], by simp [PyData.hasDictAll], by simp [PyData.canLayAll0], by simp [PyData.leavesShortAll], by simp [PyData.depthAll], by simp [PyData.weightAll]⟩
theorem Ok.cons' {w1 w2 dp : Nat} {d : PyData} {ds : List PyData} (h : Ok w1 dp d) (t : OkAll w2 dp ds) : OkAll (w1 + 1 + w2) dp (d :: ds) :=
  ⟨by simp [PyData.showableAll, h.sh, t.sh], by simp [PyData.hasDictAll, h.nd, t.nd], by simp [PyData.canLayAll0, h.lay, t.lay], by simp [PyData.leavesShortAll, h.sm, t.sm],
    by simp only [PyData.depthAll]; exact Nat.max_le.mpr ⟨h.dep, t.dep⟩, by simp only [PyData.weightAll]; have := h.wt; have := t.wt; omega⟩
theorem OkAll.map {α : Type} {w dp : Nat} {f : α → PyData} : ∀ {l : List α}, (∀ a ∈ l, Ok w dp (f a)) → OkAll (l.length * (w + 1)) dp (l.map f)
  | [], _ => (OkAll.nil dp).mono (Nat.zero_le _) (Nat.le_refl _)
  | a :: l, h => by
    have t := OkAll.map (l := l) fun b hb => h b (List.mem_cons_of_mem _ hb)
    refine ((h a List.mem_cons_self).cons' t).mono ?_ (Nat.le_refl _)
    rw [List.length_cons, Nat.succ_mul]
    omega
theorem Ok.tuple {w dp : Nat} {ds : List PyData} (h : OkAll w dp ds) : Ok w (dp + 1) (.tuple ds) :=
  ⟨by simp [PyData.showable, h.sh], by simp [PyData.hasDict, h.nd], by simp [PyData.canLay0, h.lay], by simp [PyData.leavesShort, h.sm], by simp only [PyData.depth]; have := h.dep; omega, by simp only [PyData.weight]; exact h.wt⟩
theorem Ok.list {w dp : Nat} {ds : List PyData} (h : OkAll w dp ds) : Ok w (dp + 1) (.list ds) :=
  ⟨by simp [PyData.showable, h.sh], by simp [PyData.hasDict, h.nd], by simp [PyData.canLay0, h.lay], by simp [PyData.leavesShort, h.sm], by simp only [PyData.depth]; have := h.dep; omega, by simp only [PyData.weight]; exact h.wt⟩
theorem Ok.shaped {w dp : Nat} {d : PyData} (h : Ok w dp d) (b : dp ≤ 60) : SeqAt.shaped d = true := by
  unfold SeqAt.shaped
  rw [h.lay, decide_eq_true (show d.depth ≤ 64 by have := h.dep; omega)]
  rfl
theorem Ok.shows {w dp : Nat} {d : PyData} (h : Ok w dp d) (a : w ≤ 1000000) (b : dp ≤ 60) : Shows d := by
  refine ⟨h.sh, h.nd, Nat.le_trans h.dep b, ?_⟩
  have := PyData.shown_le 13 (by decide) d h.sm
  have := h.wt
  rw [sizeLine_eq]
  omega
theorem ok_row {r : List Int} (h : ∀ v ∈ r, v.natAbs < 10 ^ 12) : Ok (r.length * 42) 1 (encR r) := Ok.tuple (OkAll.map fun a ha => Ok.int (h a ha))
theorem ok_rows {rs : List (List Int)} {k : Nat} (h : ∀ r ∈ rs, r.length ≤ k ∧ ∀ v ∈ r, v.natAbs < 10 ^ 12) : Ok (rs.length * (k * 42 + 1)) 2 (encRs rs) :=
  Ok.tuple (OkAll.map fun r hr => (ok_row (h r hr).2).mono (Nat.mul_le_mul_right _ (h r hr).1) (Nat.le_refl _))
theorem ok_tab {many : Int} {rs : List (List Int)} {k : Nat} (hm : many.natAbs < 10 ^ 12) (h : ∀ r ∈ rs, r.length ≤ k ∧ ∀ v ∈ r, v.natAbs < 10 ^ 12) :
    Ok (41 + 1 + (rs.length * (k * 42 + 1) + 1 + 0)) 3 (encT many rs) :=
  Ok.tuple (((Ok.int hm).mono (Nat.le_refl _) (by omega)).cons' (((ok_rows h)).cons' (OkAll.nil 2)))
end GL

/-! the end of a row: the defs as the top leaves them -/
namespace GL
open PySem PySem.Spec PyProof.Rows L2
section
variable {P : Program} {w : World} {K : PySem.W.Frag} {mg : Str → Option Value} {base : Heap}
theorem fn_mk {x : Str} {st : Stmt} {N ps : List Str} {k : Nat} {sp : Sp} {f : Addr} {fd : FuncData} (F : L2.Fun K x x st f fd) (S : FnScope N ps (defScope st))
    (len : ∀ vs H Q E, sp vs H Q E → vs.length = ps.length)
    (body : ∀ (f : Addr) (cdv : Value) (A : Around) (outer : List Env) (s : Shared) (H : Hp) (vs : List V) (Q : VK) (E : XK),
      A.guards = some [] → Room k (A.deeper (envOfC x (defScope st) s.heap.objs.size f cdv)) → sp vs H Q E →
      ∃ t, PSs (cxOf CX0 P w K mg base N x (defScope st) f cdv A outer s H E).nox (defBody st) t ∧
        t { nx := fun _ H' => Q .non H', rt := Q } (start N vs) H) :
    Fn0 P w K mg base CX0 (k + 1) f fd ps sp :=
  fn0_of F S len (fun cdv A outer s H vs Q E hG hr h => body f cdv A outer s H vs Q E hG hr h)
theorem def_at {h : Heap} {x : Str} {st : Stmt} {ps : List Str} {f : Addr} {fd : FuncData} (X : K.In h) (G : h.Ns mainGlobals mg) (a : PySem.W.nsIn K mainGlobals x = some (some (.ref f)))
    (F : L2.Fun K x x st f fd) (b : Binds K fd ps []) : DefAt K mg x st ps := ⟨f, fd, F, PySem.W.mg_of X G a, b⟩
end
end GL

namespace LW
open PySem PySem.Spec PyProof.Rows L2 GL
def topS (i : Nat) : Stmt := PySem.Challenge.pw_enoughlooks_k02_tables_and_nearest_value.main.body.getD i (.Pass ⟨0, 0, 0, 0⟩)
end LW

namespace LW
open PySem PySem.Spec PyProof.Rows L2 GL
abbrev s_law_bag : Stmt := topS 8
theorem sc_law_bag : FnScope ["script", "cell"] ["script"] (defScope s_law_bag) := ⟨rfl, rfl, rfl, by decide +kernel, rfl, by decide +kernel, by decide +kernel⟩
theorem ok_law_bag {P : Program} {w : World} {K : PySem.W.Frag} {mg : Str → Option Value} {base : Heap} (D : DefAt K mg "_law_bag" s_law_bag ["script"]) (m_abs : mg "abs" = none) :
    Cal P w K mg base 1 "_law_bag" (spBag K) := by
  refine cal_mk D sc_law_bag (fun vs H Q E h => ?_) (fun f cdv A outer s H vs Q E hG hr h => ?_)
  · obtain ⟨a, ns, rfl, _⟩ := h; rfl
  have nd := sc_law_bag.nd
  obtain ⟨a, ns, rfl, hS, h63, q⟩ := h
  refine ⟨_, (pss_one (ps_ret (pe_lst (pa_cons pe_int (pa_cons pe_int (pa_cons pe_int (pa_cons (pe_lc (own := [("cell", 1)]) (g := gName 1) (tt := tYes) (by rfl) nd (pi_list (pe_slice sl_list (pv 0) po_none (po_some pe_int)) : PI _ _ _ (iList K _)) (blkOk_by (own := [("cell", 1)]) (N := ["script", "cell"]) (sc := (defScope s_law_bag)) (by decide +kernel)) (fun _ _ _ _ _ => (pg_name (i := 1) nd rfl (.inl rfl))) (fun _ _ _ _ _ => pts_nil) (fun _ _ _ _ _ => (pe_callB call_abs (by rfl) m_abs (by decide +kernel) (pa_cons (pv 1) pa_nil)))) pa_nil))))))), ?_⟩
  have hl : (ns.map V.int).length = ns.length := List.length_map ..
  obtain ⟨ms, em⟩ := cut_ints ns none (some 63)
  refine ⟨.ref a, rfl, 63, rfl, a, ns.map V.int, rfl, hS, fun c0 n0 => ?_⟩
  have k0 := put_new n0 (.lst (cutV (ns.map V.int) none (some 63)))
  have hc0 : upd H c0 (.lst (cutV (ns.map V.int) none (some 63))) c0 = some (.lst (ms.map V.int)) := by rw [upd_same, em]
  have lms : ms.length ≤ 63 := by
    have l1 := cutV_length (ns.map V.int) none (some 63)
    rw [em, List.length_map, List.length_map] at l1
    omega
  generalize upd H c0 (.lst (cutV (ns.map V.int) none (some 63))) = H0 at *
  refine ⟨c0, rfl, ⟨_, SqL.of hc0⟩, fun d nd0 => ?_⟩
  have ncd : c0 ≠ d := ne_of_none hc0 nd0
  refine lc_list (K := K) (a := c0) (xs := ms.map V.int) (fun i H1 => ∃ js : List Int, js.length = i ∧ H1 d = some (.lst (js.map V.int)) ∧ H1 c0 = some (.lst (ms.map V.int)) ∧ ∀ q o, H0 q = some o → H1 q = some o)
    ⟨[], rfl, upd_same, by rw [upd_ne ncd]; exact hc0, put_new nd0 _⟩ (fun i H1 _ hp => ?_) (fun i x H1 hx hp => ?_) (fun H1 hp => ?_)
  · obtain ⟨js, _, _, h2, _⟩ := hp
    exact SqL.of h2
  · obtain ⟨js, l1, h2, h3, h4⟩ := hp
    obtain ⟨m, hm, rfl⟩ := List.mem_map.mp (List.mem_of_getElem? hx)
    have hi : i < ms.length := by
      have := (List.getElem?_eq_some_iff.mp hx).1
      rw [List.length_map] at this
      exact this
    refine ⟨rfl, .int m, rfl, _, rfl, js.map V.int, h2, small1000 (by rw [List.length_map]; omega), js ++ [if m < 0 then -m else m], by rw [List.length_append, l1]; rfl, ?_, ?_, fun q o e => ?_⟩
    · rw [upd_same, List.map_append]
      rfl
    · rw [upd_ne ncd]
      exact h3
    · rw [upd_ne (ne_of_none e nd0)]
      exact h4 q o e
  · obtain ⟨js, l1, h2, h3, h4⟩ := hp
    refine ⟨by show 4 ≤ sizeLine; decide, fun b hb => ?_⟩
    refine q b d _ ((k0.trans h4).trans (put_new hb _)) ?_ ?_ ⟨0, 1234567891, 0, js, upd_same, ?_, by decide, by decide, ?_⟩
    · cases e : H b with
      | none => rfl
      | some o =>
        have := h4 b o (k0 b o e)
        rw [hb] at this
        cases this
    · cases e : H d with
      | none => rfl
      | some o =>
        have := k0 d o e
        rw [nd0] at this
        cases this
    · rw [upd_ne (ne_of_none h2 hb)]
      exact h2
    · rw [l1, List.length_map]
      omega

abbrev s_law_take : Stmt := topS 9
theorem sc_law_take : FnScope ["bag", "many", "begin", "second", "cell", "stirred", "value"] ["bag", "many"] (defScope s_law_take) := ⟨rfl, rfl, rfl, by decide +kernel, rfl, by decide +kernel, by decide +kernel⟩
theorem ok_law_take {P : Program} {w : World} {K : PySem.W.Frag} {mg : Str → Option Value} {base : Heap} (D : DefAt K mg "_law_take" s_law_take ["bag", "many"]) (m_int : mg "int" = none) :
    Cal P w K mg base 1 "_law_take" spTake := by
  refine cal_mk D sc_law_take (fun vs H Q E h => ?_) (fun f cdv A outer s H vs Q E hG hr h => ?_)
  · obtain ⟨b, c, many, rfl, _⟩ := h; rfl
  have nd := sc_law_take.nd
  obtain ⟨b, c, many, rfl, hB, h0, h1, q⟩ := h
  obtain ⟨s0, s1, s2, ns, hb, hc, g1, g2, g3⟩ := hB
  refine ⟨_, (C8.pss_cut (ps_if (pt_cmpR op_eq (pe_ix (ix_list : IxR _ (rIxL K)) (pv 0) pe_int (fun _ _ => rfl)) pe_int (nomark _)) (pss_cons (ps_set (i := 4) nd rfl (.inl rfl) (pe_ix (ix_list : IxR _ (rIxL K)) (pe_op op_cat (pe_slice sl_list (pe_ix (ix_list : IxR _ (rIxL K)) (pv 0) pe_int (fun _ _ => rfl)) (po_some (pe_ix (ix_list : IxR _ (rIxL K)) (pv 0) pe_int (fun _ _ => rfl))) po_none) (pe_lst (pa_cons pe_int pa_nil))) pe_int (fun _ _ => rfl)))
    (pss_cons (ps_augS (pv 0) pe_int pg_list pe_int ip_add set_list)
    (C8.pss_cut (ps_if (pt_cmpR op_ge (pv 4) (pe_op op_pow pe_int pe_int) (nomark _)) (pss_one (ps_asg (pv 4) (pg_sub (pv 0) pe_int set_list))) pss_nil)
    (pss_cons (ps_set (i := 5) nd rfl (.inl rfl) (pe_op op_add (pe_op op_add (pe_op op_mul (pe_ix (ix_list : IxR _ (rIxL K)) (pv 0) pe_int (fun _ _ => rfl)) pe_int) (pe_op op_modN (pe_callTy call_int1 (by rfl) m_int (by decide +kernel) (pa_cons (pv 4) pa_nil)) pe_int)) (pe_op op_mul pe_int (pe_ix (ix_list : IxR _ (rIxL K)) (pv 0) pe_int (fun _ _ => rfl)))))
    (pss_one (ps_asg (pe_op op_modN (pe_callTy call_int1 (by rfl) m_int (by decide +kernel) (pa_cons (pv 5) pa_nil)) pe_int) (pg_sub (pv 0) pe_int set_list))))))) pss_nil)
    (pss_cons (ps_if (pt_cmpR op_gt (pe_ix (ix_list : IxR _ (rIxL K)) (pv 0) pe_int (fun _ _ => rfl)) pe_int (nomark _)) (pss_cons (ps_set (i := 6) nd rfl (.inl rfl) (pe_op op_modN (pe_callTy call_int1 (by rfl) m_int (by decide +kernel) (pa_cons (pe_ix (ix_list : IxR _ (rIxL K)) (pv 0) pe_int (fun _ _ => rfl)) pa_nil)) (pv 1)))
    (pss_cons (ps_asg (pe_op op_fdivN (pe_callTy call_int1 (by rfl) m_int (by decide +kernel) (pa_cons (pe_ix (ix_list : IxR _ (rIxL K)) (pv 0) pe_int (fun _ _ => rfl)) pa_nil)) (pv 1)) (pg_sub (pv 0) pe_int set_list))
    (pss_one (ps_ret (pv 6))))) pss_nil)
    (pss_cons (ps_set (i := 2) nd rfl (.inl rfl) (pe_op op_modN (pe_callTy call_int1 (by rfl) m_int (by decide +kernel) (pa_cons (pe_op op_mul (pe_op op_add (pe_ix (ix_list : IxR _ (rIxL K)) (pv 0) pe_int (fun _ _ => rfl)) pe_int) pe_int) pa_nil)) pe_int))
    (pss_cons (ps_set (i := 3) nd rfl (.inl rfl) (pe_op op_modN (pe_callTy call_int1 (by rfl) m_int (by decide +kernel) (pa_cons (pe_op op_mul (pe_op op_modN (pe_callTy call_int1 (by rfl) m_int (by decide +kernel) (pa_cons (pe_op op_mul (pv 2) (pv 2)) pa_nil)) pe_int) pe_int) pa_nil)) pe_int))
    (pss_one (ps_ret (pe_op op_modN (pe_callTy call_int1 (by rfl) m_int (by decide +kernel) (pa_cons (pe_op op_fdivN (pv 3) pe_int) pa_nil)) (pv 1)))))))), ?_⟩
  have ncb : c ≠ b := Bag.cne hb hc
  refine ⟨fun σ H1 => ∃ x4 x5, σ = [some (.ref b), some (.int many), none, none, x4, x5, none] ∧ Kp b H H1 ∧ Bag H1 b c, ?_, ?_⟩
  · refine ⟨.ref b, rfl, b, _, 0, .int s0, rfl, rfl, SqL.of hb, atI_nat (j := 0) rfl, rfl, _, rfl, ite2 (fun e => ?_) (fun e => ?_)⟩
    · obtain ⟨ms, em⟩ := cut_ints ns (some s2) none
      refine ⟨.ref b, rfl, b, _, 3, .ref c, rfl, rfl, SqL.of hb, atI_nat (j := 3) rfl, .ref b, rfl, b, _, 2, .int s2, rfl, rfl, SqL.of hb, atI_nat (j := 2) rfl,
        s2, rfl, c, ns.map V.int, rfl, SqL.of hc, fun p1 n1 => ?_⟩
      refine ⟨by show 1 ≤ sizeLine; decide, fun p2 n2 => ?_⟩
      have z21 : p1 ≠ p2 := ne_of_none upd_same n2
      have e1 : upd (upd H p1 (.lst (cutV (ns.map V.int) (some s2) none))) p2 (.lst [.int 0]) p1 = some (.lst (ms.map V.int)) := by
        rw [upd_ne z21, upd_same, em]
      have lms : (ms.map V.int).length + 1 ≤ sizeLine := by
        have l1 := cutV_length (ns.map V.int) (some s2) none
        rw [em, List.length_map, List.length_map] at l1
        rw [List.length_map]
        exact Nat.le_trans (Nat.succ_le_succ l1) (len1000 g3)
      refine ⟨p1, p2, _, _, rfl, rfl, e1, upd_same, lms, fun p3 n3 => ?_⟩
      have k1 : Same H (upd H p1 (.lst (cutV (ns.map V.int) (some s2) none))) := put_new n1 _
      have k2 := k1.trans (put_new n2 (.lst [.int 0]))
      have k3 := k2.trans (put_new n3 (.lst (ms.map V.int ++ [.int 0])))
      obtain ⟨cv, hcv⟩ : ∃ cv : Int, (ms.map V.int ++ [V.int 0])[0]? = some (.int cv) := by
        cases ms with
        | nil => exact ⟨0, rfl⟩
        | cons m r => exact ⟨m, rfl⟩
      refine ⟨p3, _, 0, .int cv, rfl, rfl, SqL.of upd_same, atI_nat (j := 0) hcv, ?_⟩
      have hb3 := k3 _ _ hb
      have hc3 := k3 _ _ hc
      generalize upd (upd (upd H p1 (.lst (cutV (ns.map V.int) (some s2) none))) p2 (.lst [.int 0])) p3 (.lst (ms.map V.int ++ [.int 0])) = H3 at *
      -- bag[2] += 1
      refine ⟨.ref b, rfl, b, _, 2, .int s2, rfl, rfl, SqL.of hb3, by decide, rfl, s2, 1, rfl, rfl, b, _, 2, 2, rfl, rfl, hb3, rfl, ?_⟩
      have kp4 : Kp b H (upd H3 b (.lst [.int s0, .int s1, .int (s2 + 1), .ref c])) := (Kp.of k3).trans Kp.at
      have hb4 : upd H3 b (.lst [.int s0, .int s1, .int (s2 + 1), .ref c]) b = some (.lst [.int s0, .int s1, .int (s2 + 1), .ref c]) := upd_same
      have hc4 : upd H3 b (.lst [.int s0, .int s1, .int (s2 + 1), .ref c]) c = some (.lst (ns.map V.int)) := by rw [upd_ne ncb]; exact hc3
      show (fun H4 => _) (upd H3 b (.lst [.int s0, .int s1, .int (s2 + 1), .ref c]))
      generalize upd H3 b (.lst [.int s0, .int s1, .int (s2 + 1), .ref c]) = H4 at *
      refine ⟨fun σ H5 => ∃ s0' : Int, σ = [some (.ref b), some (.int many), none, none, some (.int cv), none, none] ∧ Kp b H H5 ∧
        H5 b = some (.lst [.int s0', .int s1, .int (s2 + 1), .ref c]) ∧ H5 c = some (.lst (ns.map V.int)), ?_, ?_⟩
      · refine ⟨.int cv, rfl, 10, 18, rfl, rfl, ⟨by decide, by decide, by decide⟩, _, _, rfl, rfl, _, rfl, ite2 (fun e5 => ?_) (fun e5 => ?_)⟩
        · refine ⟨.int cv, rfl, .ref b, rfl, b, _, 0, 0, rfl, rfl, hb4, rfl, cv, rfl, kp4.trans Kp.at, upd_same, ?_⟩
          rw [upd_ne ncb]
          exact hc4
        · exact ⟨s0, rfl, kp4, hb4, hc4⟩
      · rintro σ H5 ⟨s0', rfl, kp5, hb5, hc5⟩
        refine ⟨.ref b, rfl, b, _, 1, .int s1, rfl, rfl, SqL.of hb5, atI_nat (j := 1) rfl, s1, 48271, rfl, rfl, .inl ⟨by omega, by omega⟩,
          .int cv, rfl, .inl ⟨cv, rfl, cv, 2147483647, rfl, rfl, (by show (2147483647 : Int) ≠ 0; decide), _, _, rfl, rfl,
          .ref b, rfl, b, _, 2, .int (s2 + 1), rfl, rfl, SqL.of hb5, atI_nat (j := 2) rfl, 7919, s2 + 1, rfl, rfl, .inl ⟨by decide, by decide⟩, _, _, rfl, rfl, ?_⟩⟩
        refine ⟨.int _, rfl, .inl ⟨_, rfl, _, 2147483647, rfl, rfl, (by show (2147483647 : Int) ≠ 0; decide), .ref b, rfl, b, _, 1, 1, rfl, rfl, hb5, rfl, some (.int cv), _, rfl, kp5.trans Kp.at, ?_⟩⟩
        refine ⟨s0', _, s2 + 1, ns, upd_same, ?_, ?_, ?_, g3⟩
        · rw [upd_ne ncb]
          exact hc5
        · exact Int.fmod_nonneg_of_pos _ (by decide)
        · exact Int.fmod_lt_of_pos _ (by decide)
    · exact ⟨none, none, rfl, Kp.refl _ _, s0, s1, s2, ns, hb, hc, g1, g2, g3⟩
  · rintro σ H1 ⟨x4, x5, rfl, k1, t0, t1, t2, ms, hb1, hd1, j1, j2, j3⟩
    have ndb : c ≠ b := Bag.cne hb1 hd1
    refine ⟨.ref b, rfl, b, _, 0, .int t0, rfl, rfl, SqL.of hb1, atI_nat (j := 0) rfl, t0, 0, rfl, rfl, _, rfl, ite2 (fun e => ?_) (fun e => ?_)⟩
    · refine ⟨.ref b, rfl, b, _, 0, .int t0, rfl, rfl, SqL.of hb1, atI_nat (j := 0) rfl, .inl ⟨t0, rfl, .int many, rfl, t0, many, rfl, rfl, by show many ≠ 0; omega, ?_⟩⟩
      refine ⟨.ref b, rfl, b, _, 0, .int t0, rfl, rfl, SqL.of hb1, atI_nat (j := 0) rfl, .inl ⟨t0, rfl, .int many, rfl, t0, many, rfl, rfl, ⟨by omega, by omega⟩,
        .ref b, rfl, b, _, 0, 0, rfl, rfl, hb1, rfl, .int (t0.fmod many), rfl, ?_⟩⟩
      refine q _ _ (k1.trans Kp.at) ⟨_, t1, t2, ms, upd_same, ?_, j1, j2, j3⟩ (Int.fmod_nonneg_of_pos _ h0) (Int.fmod_lt_of_pos _ h0)
      rw [upd_ne ndb]
      exact hd1
    · refine ⟨.ref b, rfl, b, _, 1, .int t1, rfl, rfl, SqL.of hb1, atI_nat (j := 1) rfl, t1, 1, rfl, rfl, t1 + 1, 39373, rfl, rfl, .inl ⟨by omega, by omega⟩,
        .inl ⟨_, rfl, _, 1000000007, rfl, rfl, by show (1000000007 : Int) ≠ 0; decide, ?_⟩⟩
      have b1 : 0 ≤ ((t1 + 1) * 39373).fmod 1000000007 := Int.fmod_nonneg_of_pos _ (by decide)
      have b2 : ((t1 + 1) * 39373).fmod 1000000007 < 1000000007 := Int.fmod_lt_of_pos _ (by decide)
      refine ⟨.int (((t1 + 1) * 39373).fmod 1000000007), rfl, .int (((t1 + 1) * 39373).fmod 1000000007), rfl, _, _, rfl, rfl, .inl ⟨Int.lt_of_lt_of_le (by decide) b1, Int.lt_trans b2 (by decide)⟩, .inl ⟨_, rfl, _, 998244353, rfl, rfl, by show (998244353 : Int) ≠ 0; decide, ?_⟩⟩
      generalize ((t1 + 1) * 39373).fmod 1000000007 = bg at *
      have c1 : 0 ≤ (bg * bg).fmod 998244353 := Int.fmod_nonneg_of_pos _ (by decide)
      have c2 : (bg * bg).fmod 998244353 < 998244353 := Int.fmod_lt_of_pos _ (by decide)
      refine ⟨(bg * bg).fmod 998244353, 30011, rfl, rfl, .inl ⟨Int.lt_of_lt_of_le (by decide) c1, Int.lt_trans c2 (by decide)⟩, .inl ⟨_, rfl, _, 998244353, rfl, rfl, by show (998244353 : Int) ≠ 0; decide, ?_⟩⟩
      refine ⟨.int _, rfl, _, 7, rfl, rfl, ⟨by decide, by decide⟩, .inl ⟨_, rfl, .int many, rfl, _, many, rfl, rfl, by show many ≠ 0; omega, ?_⟩⟩
      exact q _ _ k1 ⟨t0, t1, t2, ms, hb1, hd1, j1, j2, j3⟩ (Int.fmod_nonneg_of_pos _ h0) (Int.fmod_lt_of_pos _ h0)

abbrev s_law_some : Stmt := topS 10
theorem sc_law_some : FnScope ["bag", "things"] ["bag", "things"] (defScope s_law_some) := ⟨rfl, rfl, rfl, by decide +kernel, rfl, by decide +kernel, by decide +kernel⟩
theorem ok_law_some {P : Program} {w : World} {K : PySem.W.Frag} {mg : Str → Option Value} {base : Heap} (D : DefAt K mg "_law_some" s_law_some ["bag", "things"]) (c__law_take : Cal P w K mg base 1 "_law_take" spTake) (m_len : mg "len" = none) :
    Cal P w K mg base 2 "_law_some" (spSome K) := by
  refine cal_mk D sc_law_some (fun vs H Q E h => ?_) (fun f cdv A outer s H vs Q E hG hr h => ?_)
  · obtain ⟨b, c, t, xs, rfl, _⟩ := h; rfl
  have nd := sc_law_some.nd
  obtain ⟨b, c, t, xs, rfl, hB, hS, hne, hlt, q⟩ := h
  refine ⟨_, (pss_one (ps_ret (pe_ix (ix_seq : IxR _ (rIx K)) (pv 1) (pe_cg c__law_take (by exact hG) (by exact hr) (by decide) (by rfl) (pa_cons (pv 0) (pa_cons (pe_callB (call_len2 : CallR _ (.builtin "len") (rLen2 K)) (by rfl) m_len PySem.boot_len (pa_cons (pv 1) pa_nil)) pa_nil))) (fun _ _ => rfl)))), ?_⟩
  refine ⟨.ref t, rfl, .ref b, rfl, .ref t, rfl, t, xs, rfl, hS.imp And.left id, b, c, _, rfl, hB, ?_, ?_, fun r H' k1 hB' r0 r1 => ?_⟩
  · have := List.length_pos_iff.mpr hne
    omega
  · omega
  · obtain ⟨x, hx⟩ : ∃ x, xs[r.toNat]? = some x := by
      have : r.toNat < xs.length := by omega
      exact ⟨_, List.getElem?_eq_getElem this⟩
    have hat : atI xs r = some x := by
      have e : r = ((r.toNat : Nat) : Int) := by omega
      rw [e]
      exact atI_nat hx
    have fin := q x H' (List.mem_of_getElem? hx) k1 hB'
    rcases hS with ⟨hS, ne⟩ | hS
    · exact .inl ⟨t, xs, r, x, rfl, rfl, k1.sqL ne hS, hat, fin⟩
    · obtain ⟨zs, hz⟩ := hB.lst
      exact .inr (.inl ⟨t, xs, r, x, rfl, rfl, k1.sqT hz hS, hat, fin⟩)

abbrev s_law_alike : Stmt := topS 12
theorem sc_law_alike : FnScope ["found", "due"] ["found", "due"] (defScope s_law_alike) := ⟨rfl, rfl, rfl, by decide +kernel, rfl, by decide +kernel, by decide +kernel⟩
theorem ok_law_alike {P : Program} {w : World} {K : PySem.W.Frag} {mg : Str → Option Value} {base : Heap} (D : DefAt K mg "_law_alike" s_law_alike ["found", "due"]) (m_repr : mg "repr" = none) :
    Cal P w K mg base 1 "_law_alike" (spAlike K) := by
  refine cal_mk D sc_law_alike (fun vs H Q E h => ?_) (fun f cdv A outer s H vs Q E hG hr h => ?_)
  · obtain ⟨a, b, d, rfl, _⟩ := h; rfl
  have nd := sc_law_alike.nd
  obtain ⟨a, b, d, rfl, ha, hb, sh, so, q⟩ := h
  refine ⟨_, (pss_one (ps_ret (pe_and (pe_cmpR (op_eqD (by exact hr.units) : OpR _ (compareOp .Eq) (rEqD K)) (pv 0) (pv 1) (nomark _)) (pe_one (pe_cmpR op_eq (pe_callB (call_reprD hG (by exact hr.units)) (by rfl) m_repr (by decide +kernel) (pa_cons (pv 0) pa_nil)) (pe_callB (call_reprD hG (by exact hr.units)) (by rfl) m_repr (by decide +kernel) (pa_cons (pv 1) pa_nil)) (nomark _)))))), ?_⟩
  refine ⟨.ref a, rfl, .ref b, rfl, d, d, ha, hb, sh, sh, _, rfl, ?_⟩
  rw [SeqAt.eqv_refl d (SeqAt.canLay_of_shaped sh)]
  refine iteT ⟨.ref a, rfl, _, d, rfl, ha, so, ⟨a, rfl⟩, .ref b, rfl, _, d, rfl, hb, so, ⟨b, rfl⟩, rfl, ?_⟩
  rw [decide_eq_true rfl]
  exact q

abbrev s_law_mixed : Stmt := topS 11
theorem sc_law_mixed : FnScope ["bag", "things", "found", "thing"] ["bag", "things"] (defScope s_law_mixed) := ⟨rfl, rfl, rfl, by decide +kernel, rfl, by decide +kernel, by decide +kernel⟩
theorem ok_law_mixed {P : Program} {w : World} {K : PySem.W.Frag} {mg : Str → Option Value} {base : Heap} (D : DefAt K mg "_law_mixed" s_law_mixed ["bag", "things"]) (c__law_take : Cal P w K mg base 1 "_law_take" spTake) (m_len : mg "len" = none) :
    Cal P w K mg base 2 "_law_mixed" (spMixed K) := by
  refine cal_mk D sc_law_mixed (fun vs H Q E h => ?_) (fun f cdv A outer s H vs Q E hG hr h => ?_)
  · obtain ⟨b, c, t, xs, rfl, _⟩ := h; rfl
  have nd := sc_law_mixed.nd
  obtain ⟨b, c, t, xs, rfl, hB, hS, htb, hlen, q⟩ := h
  refine ⟨_, (pss_cons (ps_set (i := 2) nd rfl (.inl rfl) (pe_lst pa_nil))
    (pss_cons (ps_for PassesOwn.never rfl (pi_list (pv 1) : PI _ _ _ (iList K _)) (pg_name (i := 3) nd rfl (.inl rfl)) (pss_one (ps_expr (pe_bm PySem.F.plainAttrs_list PySem.F.slot_list_insert PySem.F.type_list_insert mt_insert (pv 2) (pa_cons (pe_cg c__law_take (by exact hG) (by exact hr) (by decide) (by rfl) (pa_cons (pv 0) (pa_cons (pe_op op_add (pe_callB (call_len2 : CallR _ (.builtin "len") (rLen2 K)) (by rfl) m_len PySem.boot_len (pa_cons (pv 2) pa_nil)) pe_int) pa_nil))) (pa_cons (pv 3) pa_nil))))))
    (pss_one (ps_ret (pv 2))))), ?_⟩
  obtain ⟨zs, hz⟩ := hB.lst
  refine ⟨Nat.zero_le _, fun p np => ?_⟩
  have npb : p ≠ b := fun z => by rw [z, hz] at np; cases np
  have npc : p ≠ c := fun z => by
    obtain ⟨_, ns, hc⟩ := hB.cell
    rw [z, hc] at np
    cases np
  refine ⟨.ref t, rfl, t, rfl, ⟨_, (put_new np (.lst [])).seq hS⟩, ?_⟩
  refine for_list (K := K) (a := t) (xs := xs) (fun i σ H1 => ∃ (ys : List V) (y3 : Option V), σ = [some (.ref b), some (.ref t), some (.ref p), y3] ∧ ys.Perm (xs.take i) ∧ Kp b H H1 ∧ Bag H1 b c ∧ H1 p = some (.lst ys))
    ⟨[], none, rfl, List.Perm.refl _, Kp.new np, hB.new np, upd_same⟩ (fun i σ H1 _ hp => ?_) (fun i x σ H1 hx hp => ?_) (fun σ H1 hp => ?_)
  · obtain ⟨ys, y3, _, _, k1, _⟩ := hp
    exact k1.sqL htb hS
  · obtain ⟨ys, y3, rfl, pm, k1, hB1, hp1⟩ := hp
    have hi : i < xs.length := (List.getElem?_eq_some_iff.mp hx).1
    have ly : ys.length = i := by rw [pm.length_eq, List.length_take]; omega
    refine ⟨.ref p, rfl, .inl ⟨rfl, _, SqL.of hp1⟩, .ref b, rfl, .ref p, rfl, p, ys, rfl, .inl (SqL.of hp1), _, _, rfl, rfl, b, c, _, rfl, hB1, by omega, by omega, fun r H2 k2 hB2 r0 r1 => ?_⟩
    have hp2 := k2 p _ npb hp1
    refine ⟨x, rfl, p, ys, r, x, rfl, rfl, hp2, small1000 (by omega), r0, by omega, ys.take r.toNat ++ [x] ++ ys.drop r.toNat, some x, rfl, ?_, ?_, ?_, upd_same⟩
    · rw [List.take_add_one, hx]
      have q1 : (ys.take r.toNat ++ [x] ++ ys.drop r.toNat).Perm (x :: ys) := by
        rw [List.append_assoc, List.singleton_append]
        refine List.perm_middle.trans ?_
        rw [List.take_append_drop]
      refine q1.trans ((pm.cons x).trans ?_)
      exact (List.perm_append_singleton x (xs.take i)).symm
    · intro q o n e
      have n2 : q ≠ p := ne_of_none e np
      rw [upd_ne n2]
      exact k2 q o n (k1 q o n e)
    · exact hB2.other npb npc
  · obtain ⟨ys, y3, rfl, pm, k1, hB1, hp1⟩ := hp
    rw [List.take_of_length_le (Nat.le_refl _)] at pm
    exact ⟨.ref p, rfl, q p ys H1 pm k1 hB1 np hp1⟩

end LW

namespace LW
open PySem PySem.Spec PyProof.Rows L2 GL

/-- promises -/
def spHas (K : PySem.W.Frag) : Sp := fun vs H Q _ => ∃ (t a ρ : Addr) (many : Int) (bs : List (V × List Int)) (row : List Int), vs = [.ref t, .ref ρ] ∧ TabAt K H t many a bs ∧ TI K H (.ref ρ) row ∧
  Q (.bl (decide (row ∈ bs.map (·.2)))) H
/-- a table comes of it, with these rows -/
def Gives (K : PySem.W.Frag) (H : Hp) (Q : VK) (many : Int) (R : List (List Int) → Prop) : Prop :=
  ∀ (t a : Addr) (bs : List (V × List Int)) H', Same H H' → TabAt K H' t many a bs → R (bs.map (·.2)) → Q (.ref t) H'
def spWith (K : PySem.W.Frag) : Sp := fun vs H Q _ => ∃ (t a ρ : Addr) (many : Int) (bs : List (V × List Int)) (row : List Int), vs = [.ref t, .ref ρ] ∧ TabAt K H t many a bs ∧ TI K H (.ref ρ) row ∧
  row ≠ [] ∧ (∀ b ∈ bs, b.2 ≠ []) ∧ bs.length ≤ 900 ∧
  Gives K H Q many fun rs => if row ∈ bs.map (·.2) then rs = bs.map (·.2) else rs.Pairwise (· ≤ ·) ∧ rs.Perm (bs.map (·.2) ++ [row])
def spWithout (K : PySem.W.Frag) : Sp := fun vs H Q _ => ∃ (t a ρ : Addr) (many : Int) (bs : List (V × List Int)) (row : List Int), vs = [.ref t, .ref ρ] ∧ TabAt K H t many a bs ∧ TI K H (.ref ρ) row ∧
  bs.length ≤ 900 ∧ Gives K H Q many fun rs => rs = (bs.map (·.2)).filter fun r => decide (r ≠ row)

def pick (ps : List Int) (r : List Int) : List Int := ps.map fun p => r.getD p.toNat 0
def spLed (K : PySem.W.Frag) : Sp := fun vs H Q _ => ∃ (t a π : Addr) (many : Int) (bs : List (V × List Int)) (ps : List Int), vs = [.ref t, .ref π] ∧ TabAt K H t many a bs ∧ TI K H (.ref π) ps ∧
  ps ≠ [] ∧ (∀ p ∈ ps, 0 ≤ p ∧ ∀ b ∈ bs, p.toNat < b.2.length) ∧ bs.length ≤ 900 ∧ ps.length ≤ 900 ∧
  ∀ (p : Addr) (bs' : List (V × List Int)) H', Same H H' → RowsAt K H' p bs' → (bs'.map (·.2)).Pairwise (· ≤ ·) → (bs'.map (·.2)).Perm ((bs.map (·.2)).map (pick ps)) → Q (.ref p) H'
def spThere (K : PySem.W.Frag) : Sp := fun vs H Q _ => ∃ (a π : Addr) (bs : List (V × List Int)) (pre : List Int), vs = [.ref a, .ref π] ∧ RowsAt K H a bs ∧ TI K H (.ref π) pre ∧
  bs.length ≤ 900 ∧ ∀ H', Same H H' → Q (.bl (K2.there (bs.map (·.2)) pre)) H'
theorem cut_take (xs : List V) (n : Nat) : cutV xs none (some (n : Int)) = xs.take n := by
  unfold cutV
  rw [HT.sIx_nat, HT.sIx_none, List.drop_zero, Nat.sub_zero]
  rcases Nat.le_total n xs.length with h | h
  · rw [Nat.min_eq_left h]
  · rw [Nat.min_eq_right h, List.take_length, List.take_of_length_le h]
/-- bools, whole numbers told by themselves -/
def YB (H : Hp) (v : V) (b : Bool) : Prop := v = .bl b
def YI (H : Hp) (v : V) (b : Int) : Prop := v = .int b
theorem yb_all {H : Hp} : ∀ {acc : List V} {bs : List Bool}, PySem.W.EachIs (YB H) acc bs → acc = bs.map V.bl
  | _, _, .nil => rfl
  | _, _, .cons h t => by rw [List.map_cons, yb_all t, ← h]
theorem yi_all {H : Hp} : ∀ {acc : List V} {bs : List Int}, PySem.W.EachIs (YI H) acc bs → acc = bs.map V.int
  | _, _, .nil => rfl
  | _, _, .cons h t => by rw [List.map_cons, yi_all t, ← h]
abbrev shas_row : Stmt := topS 1
theorem schas_row : FnScope ["table", "row"] ["table", "row"] (defScope shas_row) := ⟨rfl, rfl, rfl, by decide +kernel, rfl, by decide +kernel, by decide +kernel⟩
theorem okhas_row {P : Program} {w : World} {K : PySem.W.Frag} {mg : Str → Option Value} {base : Heap} (D : DefAt K mg "has_row" shas_row ["table", "row"]) :
    Cal P w K mg base 1 "has_row" (spHas K) := by
  refine cal_mk D schas_row (fun vs H Q E h => ?_) (fun f cdv A outer s H vs Q E hG hr h => ?_)
  · obtain ⟨t, a, ρ, many, bs, row, rfl, _⟩ := h; rfl
  have nd := schas_row.nd
  obtain ⟨t, a, ρ, many, bs, row, rfl, hT, hr0, q⟩ := h
  refine ⟨_, (pss_one (ps_ret (pe_cmpR (op_inTD (by exact units65 hr) : OpR _ (compareOp .In) (rInT K)) (pv 1) (pe_ix (ix_tup : IxR _ (rIxT K)) (pv 0) pe_int (fun _ _ => rfl)) (by rfl)))), ?_⟩
  refine ⟨.ref ρ, rfl, .ref t, rfl, t, _, 1, .ref a, rfl, rfl, hT.1, atI_nat (j := 1) rfl, ?_⟩
  refine ⟨encR row, _, hr0.dp, hT.2.dp, shaped_encR row, shaped_encRs _, ?_⟩
  rw [any_encR]
  exact q

abbrev swith_row : Stmt := topS 2
theorem scwith_row : FnScope ["table", "row", "many", "rows"] ["table", "row"] (defScope swith_row) := ⟨rfl, rfl, rfl, by decide +kernel, rfl, by decide +kernel, by decide +kernel⟩
theorem okwith_row {P : Program} {w : World} {K : PySem.W.Frag} {mg : Str → Option Value} {base : Heap} (D : DefAt K mg "with_row" swith_row ["table", "row"]) (m_sorted : mg "sorted" = none) (m_tuple : mg "tuple" = none) :
    Cal P w K mg base 1 "with_row" (spWith K) := by
  refine cal_mk D scwith_row (fun vs H Q E h => ?_) (fun f cdv A outer s H vs Q E hG hr h => ?_)
  · obtain ⟨t, a, ρ, many, bs, row, rfl, _⟩ := h; rfl
  have nd := scwith_row.nd
  obtain ⟨t, a, ρ, many, bs, row, rfl, hT, hr0, hne, hbs, hlen, q⟩ := h
  refine ⟨_, (pss_cons (ps_asg (pv 0) (pg_tup rfl (pgs_cons (pg_name (i := 2) nd rfl (.inl rfl)) (pgs_cons (pg_name (i := 3) nd rfl (.inl rfl)) pgs_nil))))
    (pss_cons (ps_if (pt_cmpR (op_inTD (by exact units65 hr) : OpR _ (compareOp .In) (rInT K)) (pv 1) (pv 3) (by rfl)) (pss_one (ps_ret (pv 0))) pss_nil)
    (pss_one (ps_ret (pe_tup (pa_cons (pv 2) (pa_cons (pe_callTy (call_tup2 : CallR _ (.type "tuple") (rTupOf K)) (by rfl) m_tuple (by decide +kernel) (pa_cons (pe_callB (cr_sortRows rfl (by exact hr.units) : CallR _ (.builtin "sorted") (rSortRows K P w)) (by rfl) m_sorted (by decide +kernel) (pa_cons (pe_op (op_catU : OpR _ (binaryOp .Add) (rCatU K)) (pv 3) (pe_tup (pa_cons (pv 1) pa_nil))) pa_nil)) pa_nil)) pa_nil))))))), ?_⟩
  refine ⟨.ref t, rfl, t, _, rfl, hT.1, rfl, .int many, [.ref a], rfl, .ref a, [], rfl, rfl, ?_⟩
  refine ⟨.ref ρ, rfl, .ref a, rfl, encR row, _, hr0.dp, hT.2.dp, shaped_encR row, shaped_encRs _, ?_⟩
  rw [any_encR]
  refine ⟨_, rfl, ite2 (fun e => ?_) (fun e => ?_)⟩
  · have e' := of_decide_eq_true e
    exact ⟨.ref t, rfl, q t a bs H (Same.refl H) hT (by show ite _ _ _; rw [if_pos e'])⟩
  · have e' : row ∉ bs.map (·.2) := fun z => e (decide_eq_true z)
    refine ⟨.int many, rfl, .ref a, rfl, .ref ρ, rfl, by show 1 ≤ sizeLine; decide, fun p1 n1 => ?_⟩
    have hT1 := hT.mono (TupK.new n1 (.tup [.ref ρ]))
    have hr1 := hr0.mono (TupK.new n1 (.tup [.ref ρ]))
    have hz : (bs.map (·.1)).length + 1 ≤ sizeLine := by
      rw [List.length_map]
      exact len1000 (by omega)
    refine ⟨a, p1, _, _, rfl, rfl, hT1.2.1, SqT.of upd_same, hz, fun p2 H2 k2 s2 => ?_⟩
    have hT2 := hT1.mono (TupK.same k2)
    have hr2 := hr1.mono (TupK.same k2)
    refine ⟨p2, bs ++ [(.ref ρ, row)], rfl, .inr (.inl (by rw [List.map_append]; exact s2)), fun b hb => ?_, fun p3 bs' n3 pm pw => ?_⟩
    · rcases List.mem_append.mp hb with hb | hb
      · obtain ⟨t', e1, e2⟩ := hT2.2.2 b hb
        exact ⟨t', e1, e2, hbs b hb⟩
      · rw [List.mem_singleton.mp hb]
        obtain ⟨t', e1, e2⟩ := hr2
        exact ⟨t', e1, e2, hne⟩
    · refine ⟨p3, _, rfl, .inl (SqL.of upd_same), fun p4 H4 k4 s4 => ?_⟩
      refine ⟨by show 2 ≤ sizeLine; decide, fun p5 n5 => ?_⟩
      have k3 : Same H H4 := (((put_new n1 _).trans k2).trans (put_new n3 _)).trans k4
      have tk : TupK H2 (upd H4 p5 (.tup [.int many, .ref p4])) := ((TupK.new n3 _).trans (TupK.same k4)).trans (TupK.new n5 _)
      refine q p5 p4 bs' _ (k3.trans (put_new n5 _)) ⟨SqT.of upd_same, (TupK.new n5 _) _ _ _ s4, fun b hb => ?_⟩ ?_
      · have hb2 := pm.mem_iff.mp hb
        rcases List.mem_append.mp hb2 with hb2 | hb2
        · exact (hT2.2.2 b hb2).mono tk
        · rw [List.mem_singleton.mp hb2]
          exact hr2.mono tk
      · show ite _ _ _
        rw [if_neg e']
        refine ⟨pw, ?_⟩
        have := pm.map (·.2)
        rw [List.map_append] at this
        exact this

abbrev swithout_row : Stmt := topS 3
theorem scwithout_row : FnScope ["table", "row", "many", "rows", "other"] ["table", "row"] (defScope swithout_row) := ⟨rfl, rfl, rfl, by decide +kernel, rfl, by decide +kernel, by decide +kernel⟩
theorem okwithout_row {P : Program} {w : World} {K : PySem.W.Frag} {mg : Str → Option Value} {base : Heap} (D : DefAt K mg "without_row" swithout_row ["table", "row"]) (m_tuple : mg "tuple" = none) :
    Cal P w K mg base 1 "without_row" (spWithout K) := by
  refine cal_mk D scwithout_row (fun vs H Q E h => ?_) (fun f cdv A outer s H vs Q E hG hr h => ?_)
  · obtain ⟨t, a, ρ, many, bs, row, rfl, _⟩ := h; rfl
  have nd := scwithout_row.nd
  obtain ⟨t, a, ρ, many, bs, row, rfl, hT, hr0, hlen, q⟩ := h
  refine ⟨_, (pss_cons (ps_asg (pv 0) (pg_tup rfl (pgs_cons (pg_name (i := 2) nd rfl (.inl rfl)) (pgs_cons (pg_name (i := 3) nd rfl (.inl rfl)) pgs_nil))))
    (pss_one (ps_ret (pe_tup (pa_cons (pv 2) (pa_cons (pe_callTy (call_tup2 : CallR _ (.type "tuple") (rTupOf K)) (by rfl) m_tuple (by decide +kernel) (pa_cons (pe_lc (own := [("other", 4)]) (g := gName 4) (by rfl) nd (pi_tup (pv 3) : PI _ _ _ (iTup K _)) (blkOk_by (own := [("other", 4)]) (N := ["table", "row", "many", "rows", "other"]) (sc := (defScope swithout_row)) (by decide +kernel)) (fun _ _ _ _ _ => (pg_name (i := 4) nd rfl (.inl rfl))) (fun _ _ _ _ _ => (pts_one (pt_cmpR (op_neD (by exact hr.units) : OpR _ (compareOp .NotEq) (rNeD K)) (pv 4) (pv 1) (nomark _)))) (fun _ _ _ _ _ => (pv 4))) pa_nil)) pa_nil)))))), ?_⟩
  refine ⟨.ref t, rfl, t, _, rfl, hT.1, rfl, .int many, [.ref a], rfl, .ref a, [], rfl, rfl, ?_⟩
  refine ⟨.int many, rfl, .ref a, rfl, a, rfl, ⟨_, hT.2.1⟩, fun D nD => ?_⟩
  refine lcg_tup (K := K) (Y := YP K) (out := fun i => (bs[i]?).bind fun b => if decide (b.2 ≠ row) then some b else none) (LcG.pure nD) YP.mono hT.2.1 (by rw [List.length_map]; omega) (fun i x H1 hx k1 _ => ?_) (fun H1 acc bs' k1 _ hD ea eb => ?_)
  · obtain ⟨b, hb, rfl, hm⟩ := get_fst hx
    intro Qe Qn hE hN
    have hb1 := (hT.2.2 b hm).mono (TupK.same k1)
    refine ⟨rfl, b.1, rfl, .ref ρ, rfl, encR b.2, encR row, hb1.dp, (hr0.mono (TupK.same k1)).dp, shaped_encR _, shaped_encR _, ?_⟩
    rw [eqv_encR]
    refine ⟨_, rfl, ite2 (fun e => ?_) (fun e => ?_)⟩
    · have e' : b.2 ≠ row := by simpa using e
      exact ⟨b.1, rfl, hE b.1 H1 b (by simp [hb, e']) (Same.refl _) trivial ⟨rfl, hb1⟩⟩
    · have e' : b.2 = row := by simpa using e
      exact hN H1 (by simp [hb, e']) (Same.refl _) trivial
  · rw [List.length_map, fm_all] at eb
    obtain ⟨e1, e2⟩ := yp_all ea
    subst e1
    refine ⟨D, _, rfl, .inl (SqL.of hD), fun p4 H4 k4 s4 => ?_⟩
    refine ⟨by show 2 ≤ sizeLine; decide, fun p5 n5 => ?_⟩
    have tk : TupK H1 (upd H4 p5 (.tup [.int many, .ref p4])) := (TupK.same k4).trans (TupK.new n5 _)
    refine q p5 p4 bs' _ ((k1.trans k4).trans (put_new n5 _)) ⟨SqT.of upd_same, (TupK.new n5 _) _ _ _ s4, fun b hb => (e2 b hb).mono tk⟩ ?_
    rw [eb]
    have : ∀ l : List (V × List Int), (l.filterMap fun b => if decide (b.2 ≠ row) then some b else none).map (·.2) = (l.map (·.2)).filter fun r => decide (r ≠ row) := by
      intro l
      induction l with
      | nil => rfl
      | cons c l ih =>
        by_cases z : c.2 = row
        · simpa [List.filterMap_cons, z] using ih
        · simpa [List.filterMap_cons, z] using ih
    exact this bs

abbrev sled_rows : Stmt := topS 4
theorem scled_rows : FnScope ["table", "places", "row", "place"] ["table", "places"] (defScope sled_rows) := ⟨rfl, rfl, rfl, by decide +kernel, rfl, by decide +kernel, by decide +kernel⟩
theorem okled_rows {P : Program} {w : World} {K : PySem.W.Frag} {mg : Str → Option Value} {base : Heap} (D : DefAt K mg "led_rows" sled_rows ["table", "places"]) (m_sorted : mg "sorted" = none) (m_tuple : mg "tuple" = none) :
    Cal P w K mg base 1 "led_rows" (spLed K) := by
  refine cal_mk D scled_rows (fun vs H Q E h => ?_) (fun f cdv A outer s H vs Q E hG hr h => ?_)
  · obtain ⟨t, a, π, many, bs, ps, rfl, _⟩ := h; rfl
  have nd := scled_rows.nd
  obtain ⟨t, a, π, many, bs, ps, rfl, hT, hp0, hpn, hps, hlen, hlp, q⟩ := h
  refine ⟨_, (pss_one (ps_ret (pe_callTy (call_tup2 : CallR _ (.type "tuple") (rTupOf K)) (by rfl) m_tuple (by decide +kernel) (pa_cons (pe_callB (cr_sortRows rfl (by exact hr.units) : CallR _ (.builtin "sorted") (rSortRows K P w)) (by rfl) m_sorted (by decide +kernel) (pa_cons (pe_lc (own := [("row", 2)]) (g := gName 2) (tt := tYes) (by rfl) nd (pi_tup (pe_ix (ix_tup : IxR _ (rIxT K)) (pv 0) pe_int (fun _ _ => rfl)) : PI _ _ _ (iTup K _)) (blkOk_by (own := [("row", 2)]) (N := ["table", "places", "row", "place"]) (sc := (defScope sled_rows)) (by decide +kernel)) (fun _ _ _ _ _ => (pg_name (i := 2) nd rfl (.inr rfl))) (fun _ _ _ _ _ => pts_nil) (fun _ _ _ _ _ => (pe_callTy (call_tup2 : CallR _ (.type "tuple") (rTupOf K)) (by rfl) m_tuple (by decide +kernel) (pa_cons (pe_lc (own := [("place", 3)]) (g := gName 3) (tt := tYes) (by rfl) nd (pi_tup (pv 1) : PI _ _ _ (iTup K _)) (blkOk_by (own := [("place", 3)]) (N := ["table", "places", "row", "place"]) (sc := (relS _ (defScope sled_rows))) (by decide +kernel)) (fun _ _ _ _ _ => (pg_name (i := 3) nd rfl (.inl rfl))) (fun _ _ _ _ _ => pts_nil) (fun _ _ _ _ _ => (pe_ix (ix_tup : IxR _ (rIxT K)) (pv 2) (pv 3) (fun _ _ => rfl)))) pa_nil)))) pa_nil)) pa_nil)))), ?_⟩
  obtain ⟨π', eπ, hπ⟩ := hp0
  cases eπ
  refine ⟨.ref t, rfl, t, _, 1, .ref a, rfl, rfl, hT.1, atI_nat (j := 1) rfl, a, rfl, ⟨_, hT.2.1⟩, fun D nD => ?_⟩
  refine lcg_tup (K := K) (Y := TI K) (out := fun i => (bs[i]?).bind fun b => some (pick ps b.2)) (LcG.pure nD) (fun _ _ _ _ k h => h.mono k) hT.2.1 (by rw [List.length_map]; omega) (fun i x H1 hx k1 _ => ?_) (fun H1 acc rs k1 _ hD ea eb => ?_)
  · obtain ⟨b, hb, rfl, hm⟩ := get_fst hx
    intro Qe Qn hE hN
    obtain ⟨tb, eb, hb1⟩ := (hT.2.2 b hm).mono (TupK.same k1)
    have hπ1 := (TupK.same k1) _ _ _ hπ
    refine ⟨rfl, .ref π, rfl, π, rfl, ⟨_, hπ1⟩, fun D2 n2 => ?_⟩
    refine lcg_tup (K := K) (Y := YI) (out := fun j => (ps[j]?).bind fun p => some (b.2.getD p.toNat 0)) (LcG.pure n2) (fun _ _ _ _ _ h => h) hπ1 (by rw [List.length_map]; omega) (fun j y H2 hy k2 _ => ?_) (fun H2 acc2 js k2 _ hD2 ea2 eb2 => ?_)
    · rw [List.getElem?_map] at hy
      obtain ⟨p, hp, rfl⟩ := Option.map_eq_some_iff.mp hy
      obtain ⟨p0, p1⟩ := hps p (List.mem_of_getElem? hp)
      have pl := p1 b hm
      intro Re Rn hE2 hN2
      have hat : atI (b.2.map V.int) ((p.toNat : Nat) : Int) = some (.int (b.2.getD p.toNat 0)) := atI_nat (by
        rw [List.getElem?_map, List.getElem?_eq_getElem pl]
        simp [List.getD_eq_getElem?_getD, List.getElem?_eq_getElem pl])
      rw [show ((p.toNat : Nat) : Int) = p by omega] at hat
      exact ⟨rfl, b.1, rfl, .int p, rfl, tb, _, p, .int (b.2.getD p.toNat 0), eb, rfl, (TupK.same k2) _ _ _ hb1, hat, hE2 _ H2 _ (by simp [hp]) (Same.refl _) trivial rfl⟩
    · rw [List.length_map, fm_all] at eb2
      have e2 := yi_all ea2
      subst e2
      refine ⟨D2, _, rfl, .inl (SqL.of hD2), fun p4 H4 k4 s4 => hE _ H4 (pick ps b.2) (by simp [hb]) (k2.trans k4) trivial ⟨p4, rfl, ?_⟩⟩
      have : js = pick ps b.2 := by
        rw [eb2]
        unfold pick
        exact List.filterMap_eq_map ▸ rfl
      rw [← this]
      exact s4
  · rw [List.length_map, fm_all] at eb
    have eb' : rs = (bs.map (·.2)).map (pick ps) := by
      rw [eb, List.map_map]
      exact List.filterMap_eq_map ▸ rfl
    obtain ⟨cs, e1, e2, e3⟩ := ti_zip ea
    subst e1
    have ne : ∀ b ∈ cs, b.2 ≠ [] := by
      intro b hb z
      have : b.2 ∈ rs := by rw [e2]; exact List.mem_map.mpr ⟨b, hb, rfl⟩
      rw [eb'] at this
      obtain ⟨r, _, er⟩ := List.mem_map.mp this
      rw [z] at er
      exact hpn (List.map_eq_nil_iff.mp er)
    refine ⟨D, cs, rfl, .inl (SqL.of hD), fun b hb => ti_row (e3 b hb) (ne b hb), fun p3 bs' n3 pm pw => ?_⟩
    refine ⟨p3, _, rfl, .inl (SqL.of upd_same), fun p4 H4 k4 s4 => ?_⟩
    have k3 := put_new n3 (.lst (bs'.map (·.1)))
    refine q p4 bs' H4 ((k1.trans k3).trans k4) ⟨s4, fun b hb => ((e3 b (pm.mem_iff.mp hb)).mono (TupK.same (k3.trans k4)))⟩ pw ?_
    rw [← eb', e2]
    exact pm.map _

abbrev sis_there : Stmt := topS 5
theorem scis_there : FnScope ["rows", "prefix", "row"] ["rows", "prefix"] (defScope sis_there) := ⟨rfl, rfl, rfl, by decide +kernel, rfl, by decide +kernel, by decide +kernel⟩
theorem okis_there {P : Program} {w : World} {K : PySem.W.Frag} {mg : Str → Option Value} {base : Heap} (D : DefAt K mg "is_there" sis_there ["rows", "prefix"]) (m_any : mg "any" = none) (m_len : mg "len" = none) :
    Cal P w K mg base 1 "is_there" (spThere K) := by
  refine cal_mk D scis_there (fun vs H Q E h => ?_) (fun f cdv A outer s H vs Q E hG hr h => ?_)
  · obtain ⟨a, π, bs, pre, rfl, _⟩ := h; rfl
  have nd := scis_there.nd
  obtain ⟨a, π, bs, pre, rfl, hR, hp0, hlen, q⟩ := h
  refine ⟨_, (pss_one (ps_ret (pe_or (pe_cmpR (op_eqD (by exact hr.units) : OpR _ (compareOp .Eq) (rEqD K)) (pv 1) (pe_tup pa_nil) (nomark _)) (pe_one (pe_callB (cr_any rfl : CallR _ (.builtin "any") (rAny K)) (by rfl) m_any (by decide +kernel) (pa_cons (pe_lc (own := [("row", 2)]) (g := gName 2) (tt := tYes) (by rfl) nd (pi_tup (pv 0) : PI _ _ _ (iTup K _)) (blkOk_by (own := [("row", 2)]) (N := ["rows", "prefix", "row"]) (sc := (defScope sis_there)) (by decide +kernel)) (fun _ _ _ _ _ => (pg_name (i := 2) nd rfl (.inl rfl))) (fun _ _ _ _ _ => pts_nil) (fun _ _ _ _ _ => (pe_cmpR (op_eqD (by exact hr.units) : OpR _ (compareOp .Eq) (rEqD K)) (pe_slice (sl_tupU : SlR _ (rSlU K)) (pv 2) po_none (po_some (pe_callB (call_len2 : CallR _ (.builtin "len") (rLen2 K)) (by rfl) m_len PySem.boot_len (pa_cons (pv 1) pa_nil)))) (pv 1) (nomark _)))) pa_nil)))))), ?_⟩
  obtain ⟨π', eπ, hπ⟩ := hp0
  cases eπ
  refine ⟨.ref π, rfl, Nat.zero_le _, fun p0 n0 => ?_⟩
  have k0 := put_new n0 (.tup [])
  refine ⟨encR pre, encR [], TI.dp (⟨π, rfl, (TupK.same k0) _ _ _ hπ⟩ : TI K _ (.ref π) pre), .tup (SqT.of upd_same) .nil, shaped_encR _, shaped_encR _, ?_⟩
  rw [eqv_encR]
  have hR0 := hR.mono (TupK.same k0)
  have hπ0 := (TupK.same k0) _ _ _ hπ
  generalize upd H p0 (.tup []) = H0 at *
  refine ⟨_, rfl, ite2 (fun e => ?_) (fun e => ?_)⟩
  · have := q H0 k0
    unfold K2.there at this
    rw [e] at this
    exact this
  · refine ⟨.ref a, rfl, a, rfl, ⟨_, hR0.1⟩, fun D nD => ?_⟩
    refine lcg_tup (K := K) (Y := YB) (out := fun i => (bs[i]?).bind fun b => some (decide (b.2.take pre.length = pre))) (LcG.pure nD) (fun _ _ _ _ _ h => h) hR0.1 (by rw [List.length_map]; omega) (fun i x H1 hx k1 _ => ?_) (fun H1 acc js k1 _ hD ea eb => ?_)
    · obtain ⟨b, hb, rfl, hm⟩ := get_fst hx
      intro Qe Qn hE hN
      obtain ⟨tb, eb, hb1⟩ := (hR0.2 b hm).mono (TupK.same k1)
      have hπ1 := (TupK.same k1) _ _ _ hπ0
      refine ⟨rfl, b.1, rfl, .ref π, rfl, π, _, rfl, .inr hπ1, ((pre.map V.int).length : Nat), rfl, tb, _, eb, hb1, fun p2 H2 k2 s2 => ?_⟩
      rw [cut_take, List.length_map, ← List.map_take] at s2
      refine ⟨.ref π, rfl, encR (b.2.take pre.length), encR pre, TI.dp (⟨p2, rfl, s2⟩ : TI K _ (.ref p2) _), TI.dp (⟨π, rfl, (TupK.same k2) _ _ _ hπ1⟩ : TI K _ (.ref π) pre), shaped_encR _, shaped_encR _, ?_⟩
      rw [eqv_encR]
      exact hE _ H2 _ (by simp [hb]) k2 trivial rfl
    · rw [List.length_map, fm_all] at eb
      have e2 := yb_all ea
      subst e2
      refine ⟨D, js, rfl, SqL.of hD, ?_⟩
      have := q H1 (k0.trans k1)
      unfold K2.there at this
      have e3 : (bs.map (·.2)).any (fun r => decide (r.take pre.length = pre)) = js.any id := by
        rw [eb, List.any_map, show bs.filterMap (fun b => some (decide (b.2.take pre.length = pre))) = bs.map (fun b => decide (b.2.take pre.length = pre)) from List.filterMap_eq_map ▸ rfl, List.any_map]
        rfl
      rw [e3] at this
      have e4 : decide (pre = []) = false := Bool.eq_false_iff.mpr e
      rw [e4, Bool.false_or] at this
      exact this


/-- what nearest tells of the values behind the prefix -/
def NearIs (vals : List Int) (xo : Option Int) (th : Bool) (lo hi : Option Int) : Prop := match xo with
  | none => th = false ∧ lo = none ∧ K2.IsLo vals hi
  | some x => th = decide (x ∈ vals) ∧ K2.IsHi (vals.filter fun v => decide (v < x)) lo ∧ K2.IsLo (vals.filter fun v => decide (x < v)) hi
def spNear (most : Nat) (K : PySem.W.Frag) : Sp := fun vs H Q _ => ∃ (a π : Addr) (bs : List (V × List Int)) (pre : List Int) (xo : Option Int), vs = [.ref a, .ref π, oV xo] ∧ RowsAt K H a bs ∧ TI K H (.ref π) pre ∧
  bs.length ≤ most ∧ (∀ b ∈ bs, pre.length < b.2.length) ∧
  ∀ (p : Addr) H' th lo hi, Same H H' → NearIs (K2.behind (bs.map (·.2)) pre) xo th lo hi → SqT K H' p [.bl th, oV lo, oV hi] → Q (.ref p) H'
abbrev snearest_by_all : Stmt := topS 6
theorem scnearest_by_all : FnScope ["rows", "prefix", "x", "size", "values", "low", "high", "row", "value"] ["rows", "prefix", "x"] (defScope snearest_by_all) := ⟨rfl, rfl, rfl, by decide +kernel, rfl, by decide +kernel, by decide +kernel⟩
theorem oknearest_by_all {P : Program} {w : World} {K : PySem.W.Frag} {mg : Str → Option Value} {base : Heap} (D : DefAt K mg "nearest_by_all" snearest_by_all ["rows", "prefix", "x"]) (m_len : mg "len" = none) (m_max : mg "max" = none) (m_min : mg "min" = none) :
    Cal P w K mg base 1 "nearest_by_all" (spNear 900 K) := by
  refine cal_mk D scnearest_by_all (fun vs H Q E h => ?_) (fun f cdv A outer s H vs Q E hG hr h => ?_)
  · obtain ⟨a, π, bs, pre, xo, rfl, _⟩ := h; rfl
  have nd := scnearest_by_all.nd
  obtain ⟨a, π, bs, pre, xo, rfl, hR, hp0, hlen, hw, q⟩ := h
  refine ⟨_, (pss_cons (ps_set (i := 3) nd rfl (.inr rfl) (pe_callB (call_len2 : CallR _ (.builtin "len") (rLen2 K)) (by rfl) m_len PySem.boot_len (pa_cons (pv 1) pa_nil)))
    (pss_cons (ps_setLc (i := 4) (own := [("row", 7)]) (g := gName 7) (by rfl) nd rfl rfl (sw_true rfl rfl rfl (by decide +kernel)) (pi_tup (pv 0) : PI _ _ _ (iTup K _)) (blkOk_by (own := [("row", 7)]) (N := ["rows", "prefix", "x", "size", "values", "low", "high", "row", "value"]) (sc := (defScope snearest_by_all)) (by decide +kernel)) (fun _ _ _ _ _ => (pg_name (i := 7) nd rfl (.inl rfl))) (fun _ _ _ _ _ => (pts_one (pt_cmpR (op_eqD (by exact hr.units) : OpR _ (compareOp .Eq) (rEqD K)) (pe_slice (sl_tupU : SlR _ (rSlU K)) (pv 7) po_none (po_some (pv 3))) (pv 1) (nomark _)))) (fun _ _ _ _ _ => (pe_ix (ix_tup : IxR _ (rIxT K)) (pv 7) (pv 3) (fun _ _ => rfl))))
    (pss_cons (ps_if (pt_cmpR op_isN (pv 2) pe_non (nomark _)) (pss_one (ps_ret (pe_tup (pa_cons pe_bl (pa_cons pe_non (pa_cons (pe_callBK (cr_minU rfl : CallRK _ (.builtin "min") [Str.ofString "default"] (rBestU K K2.IsLo)) (by rfl) m_min (by decide +kernel) (pa_cons (pv 4) pa_nil) (pk_cons pe_non pk_nil)) pa_nil)))))) pss_nil)
    (pss_cons (ps_set (i := 5) nd rfl (.inl rfl) (pe_callBK (cr_maxU rfl : CallRK _ (.builtin "max") [Str.ofString "default"] (rBestU K K2.IsHi)) (by rfl) m_max (by decide +kernel) (pa_cons (pe_lc (own := [("value", 8)]) (g := gName 8) (by rfl) nd (pi_list (pv 4) : PI _ _ _ (iList K _)) (blkOk_by (own := [("value", 8)]) (N := ["rows", "prefix", "x", "size", "values", "low", "high", "row", "value"]) (sc := (defScope snearest_by_all)) (by decide +kernel)) (fun _ _ _ _ _ => (pg_name (i := 8) nd rfl (.inl rfl))) (fun _ _ _ _ _ => (pts_one (pt_cmpR op_lt (pv 8) (pv 2) (nomark _)))) (fun _ _ _ _ _ => (pv 8))) pa_nil) (pk_cons pe_non pk_nil)))
    (pss_cons (ps_set (i := 6) nd rfl (.inl rfl) (pe_callBK (cr_minU rfl : CallRK _ (.builtin "min") [Str.ofString "default"] (rBestU K K2.IsLo)) (by rfl) m_min (by decide +kernel) (pa_cons (pe_lc (own := [("value", 8)]) (g := gName 8) (by rfl) nd (pi_list (pv 4) : PI _ _ _ (iList K _)) (blkOk_by (own := [("value", 8)]) (N := ["rows", "prefix", "x", "size", "values", "low", "high", "row", "value"]) (sc := (defScope snearest_by_all)) (by decide +kernel)) (fun _ _ _ _ _ => (pg_name (i := 8) nd rfl (.inl rfl))) (fun _ _ _ _ _ => (pts_one (pt_cmpR op_gt (pv 8) (pv 2) (nomark _)))) (fun _ _ _ _ _ => (pv 8))) pa_nil) (pk_cons pe_non pk_nil)))
    (pss_one (ps_ret (pe_tup (pa_cons (pe_cmpR (op_in_seq : OpR _ (compareOp .In) (rIn K false)) (pv 2) (pv 4) (by rfl)) (pa_cons (pv 5) (pa_cons (pv 6) pa_nil))))))))))), ?_⟩
  obtain ⟨π', eπ, hπ⟩ := hp0
  cases eπ
  have lp : (pre.map V.int).length = pre.length := List.length_map ..
  refine ⟨.ref π, rfl, π, _, rfl, .inr hπ, ?_⟩
  rw [lp]
  refine ⟨.ref a, rfl, a, rfl, ⟨_, hR.1⟩, fun D nD => ?_⟩
  refine lcg_tup (K := K) (Y := YI) (out := fun i => (bs[i]?).bind fun b => if decide (b.2.take pre.length = pre) = true then some (b.2.getD pre.length 0) else none) (LcG.pure nD) (fun _ _ _ _ _ h => h) hR.1 (by rw [List.length_map]; omega) (fun i y H1 hx k1 _ => ?_) (fun H1 acc js k1 _ hD ea eb => ?_)
  · obtain ⟨b, hb, rfl, hm⟩ := get_fst hx
    intro Qe Qn hE hN
    obtain ⟨tb, eb, hb1⟩ := (hR.2 b hm).mono (TupK.same k1)
    have hπ1 := (TupK.same k1) _ _ _ hπ
    refine ⟨rfl, b.1, rfl, .int (pre.length : Nat), rfl, (pre.length : Nat), rfl, tb, _, eb, hb1, fun p2 H2 k2 s2 => ?_⟩
    rw [cut_take, ← List.map_take] at s2
    refine ⟨.ref π, rfl, encR (b.2.take pre.length), encR pre, TI.dp (⟨p2, rfl, s2⟩ : TI K _ (.ref p2) _), TI.dp (⟨π, rfl, (TupK.same k2) _ _ _ hπ1⟩ : TI K _ (.ref π) pre), shaped_encR _, shaped_encR _, ?_⟩
    rw [eqv_encR]
    refine ⟨_, rfl, ite2 (fun e => ?_) (fun e => ?_)⟩
    · have pl := hw b hm
      refine ⟨b.1, rfl, .int (pre.length : Nat), rfl, tb, _, (pre.length : Nat), .int (b.2.getD pre.length 0), eb, rfl, (TupK.same k2) _ _ _ hb1, atI_nat ?_, hE _ H2 _ ?_ k2 trivial rfl⟩
      · rw [List.getElem?_map, List.getElem?_eq_getElem pl]
        simp [List.getD_eq_getElem?_getD, List.getElem?_eq_getElem pl]
      · rw [hb]
        show (if _ then _ else _) = _
        rw [if_pos e]
    · refine hN H2 ?_ k2 trivial
      rw [hb]
      show (if _ then _ else _) = _
      rw [if_neg e]
  · rw [List.length_map, fm_all] at eb
    have ejs : js = K2.behind (bs.map (·.2)) pre := by
      rw [eb]
      unfold K2.behind
      have : ∀ l : List (V × List Int), (l.filterMap fun b => if decide (b.2.take pre.length = pre) = true then some (b.2.getD pre.length 0) else none) = ((l.map (·.2)).filter fun r => decide (r.take pre.length = pre)).map fun r => r.getD pre.length 0 := by
        intro l
        induction l with
        | nil => rfl
        | cons c l ih =>
          by_cases z : c.2.take pre.length = pre
          · simpa [List.filterMap_cons, z] using ih
          · simpa [List.filterMap_cons, z] using ih
      exact this bs
    have e2 := yi_all ea
    subst e2
    have ljs : js.length ≤ 900 := by rw [eb]; exact Nat.le_trans (List.length_filterMap_le _ _) hlen
    rw [← ejs] at q
    clear eb ejs
    refine ⟨oV xo, rfl, rfl, _, rfl, ?_⟩
    cases xo with
    | none =>
      refine ite2 (fun _ => ?_) (fun e => absurd rfl e)
      refine ⟨.ref D, rfl, D, js, rfl, rfl, SqL.of hD, fun o ho => ?_⟩
      exact ⟨by show 3 ≤ sizeLine; decide, fun p hp => q p _ false none o (k1.trans (put_new hp _)) ⟨rfl, rfl, ho⟩ (SqT.of upd_same)⟩
    | some x =>
      refine ite2 (fun e => absurd (of_decide_eq_true e) (by intro z; cases z)) (fun _ => ?_)
      refine ⟨.ref D, rfl, D, rfl, ⟨_, SqL.of hD⟩, fun D2 n2 => ?_⟩
      refine lcg_list (K := K) (Y := YI) (out := fun i => (js[i]?).bind fun v => if decide (v < x) = true then some v else none) (LcG.pure n2) (fun _ _ _ _ _ h => h) (fun H3 k3 => SqL.of (k3 _ _ hD)) (by rw [List.length_map]; omega) (fun i y H2 hx k2 _ => ?_) (fun H2 acc ls k2 _ hD2 ea2 eb2 => ?_)
      · rw [List.getElem?_map] at hx
        obtain ⟨v, hv, rfl⟩ := Option.map_eq_some_iff.mp hx
        intro Qe Qn hE hN
        refine ⟨rfl, .int v, rfl, .int x, rfl, v, x, rfl, rfl, _, rfl, ite2 (fun e => ?_) (fun e => ?_)⟩
        · refine ⟨.int v, rfl, hE _ H2 v ?_ (Same.refl _) trivial rfl⟩
          rw [hv]
          show (if _ then _ else _) = _
          rw [if_pos e]
        · refine hN H2 ?_ (Same.refl _) trivial
          rw [hv]
          show (if _ then _ else _) = _
          rw [if_neg e]
      · rw [List.length_map, fm_all, fm_if] at eb2
        have e3 := yi_all ea2
        subst e3
        refine ⟨D2, ls, rfl, rfl, SqL.of hD2, fun lo hlo => ?_⟩
        have hD' := k2 _ _ hD
        refine ⟨.ref D, rfl, D, rfl, ⟨_, SqL.of hD'⟩, fun D3 n3 => ?_⟩
        refine lcg_list (K := K) (Y := YI) (out := fun i => (js[i]?).bind fun v => if decide (x < v) = true then some v else none) (LcG.pure n3) (fun _ _ _ _ _ h => h) (fun H3 k3 => SqL.of (k3 _ _ hD')) (by rw [List.length_map]; omega) (fun i y H3 hx k3 _ => ?_) (fun H3 acc hs k3 _ hD3 ea3 eb3 => ?_)
        · rw [List.getElem?_map] at hx
          obtain ⟨v, hv, rfl⟩ := Option.map_eq_some_iff.mp hx
          intro Qe Qn hE hN
          refine ⟨rfl, .int v, rfl, .int x, rfl, v, x, rfl, rfl, _, rfl, ite2 (fun e => ?_) (fun e => ?_)⟩
          · refine ⟨.int v, rfl, hE _ H3 v ?_ (Same.refl _) trivial rfl⟩
            rw [hv]
            show (if _ then _ else _) = _
            rw [if_pos e]
          · refine hN H3 ?_ (Same.refl _) trivial
            rw [hv]
            show (if _ then _ else _) = _
            rw [if_neg e]
        · rw [List.length_map, fm_all, fm_if] at eb3
          have e4 := yi_all ea3
          subst e4
          refine ⟨D3, hs, rfl, rfl, SqL.of hD3, fun hi hhi => ?_⟩
          refine ⟨.int x, rfl, .ref D, rfl, D, _, rfl, .inl (SqL.of (k3 _ _ hD')), rfl, flat_ints js, oV lo, rfl, oV hi, rfl, by show 3 ≤ sizeLine; decide, fun p hp => ?_⟩
          refine q p _ (decide (x ∈ js)) lo hi (((k1.trans k2).trans k3).trans (put_new hp _)) ⟨rfl, ?_, ?_⟩ ?_
          · rw [← eb2]
            exact hlo
          · rw [← eb3]
            exact hhi
          · rw [← inV_ints]
            exact SqT.of upd_same

end LW

namespace LW
open PySem PySem.Spec PyProof.Rows L2 GL

def spAny (K : PySem.W.Frag) : Sp := fun vs H Q _ => ∃ (b c : Addr) (many wide : Int), vs = [.ref b, .int many, .int wide] ∧ Bag H b c ∧ 0 ≤ many ∧ many ≤ 100 ∧ 0 < wide ∧ wide ≤ 1000 ∧
  ∀ (p : Addr) (row : List Int) H', Kp b H H' → Bag H' b c → TI K H' (.ref p) row → row.length = many.toNat → (∀ v ∈ row, -1 ≤ v ∧ v < wide) → Q (.ref p) H'

theorem yb2_all {wide : Int} : ∀ {acc : List V} {js : List Int}, PySem.W.EachIs (fun v i => v = V.int i ∧ -1 ≤ i ∧ i < wide) acc js → acc = js.map V.int ∧ ∀ v ∈ js, -1 ≤ v ∧ v < wide
  | _, _, .nil => ⟨rfl, fun _ z => nomatch z⟩
  | _, _, .cons h t => by
    obtain ⟨e, g⟩ := yb2_all t
    refine ⟨by rw [List.map_cons, ← e, ← h.1], fun v hv => ?_⟩
    rcases List.mem_cons.mp hv with rfl | hv
    · exact h.2
    · exact g v hv
abbrev s_law_any_row : Stmt := topS 14
theorem sc_law_any_row : FnScope ["bag", "many", "wide", "at"] ["bag", "many", "wide"] (defScope s_law_any_row) := ⟨rfl, rfl, rfl, by decide +kernel, rfl, by decide +kernel, by decide +kernel⟩
theorem ok_law_any_row {P : Program} {w : World} {K : PySem.W.Frag} {mg : Str → Option Value} {base : Heap} (D : DefAt K mg "_law_any_row" s_law_any_row ["bag", "many", "wide"]) (c__law_take : Cal P w K mg base 1 "_law_take" spTake) (m_int : mg "int" = none) (m_range : mg "range" = none) (m_tuple : mg "tuple" = none) :
    Cal P w K mg base 2 "_law_any_row" (spAny K) := by
  refine cal_mk D sc_law_any_row (fun vs H Q E h => ?_) (fun f cdv A outer s H vs Q E hG hr h => ?_)
  · obtain ⟨b, c, many, wide, rfl, _⟩ := h; rfl
  have nd := sc_law_any_row.nd
  obtain ⟨b, c, many, wide, rfl, hB, h0, h1, h2, h3, q⟩ := h
  refine ⟨_, (pss_one (ps_ret (pe_callTy (call_tup2 : CallR _ (.type "tuple") (rTupOf K)) (by rfl) m_tuple (by decide +kernel) (pa_cons (pe_lc (own := [("at", 3)]) (g := gName 3) (tt := tYes) (by rfl) nd (pi_range1 (by rfl) m_range (pa_cons (pv 1) pa_nil)) (blkOk_by (own := [("at", 3)]) (N := ["bag", "many", "wide", "at"]) (sc := (defScope s_law_any_row)) (by decide +kernel)) (fun _ _ _ _ _ => (pg_name (i := 3) nd rfl (.inl rfl))) (fun _ _ _ _ _ => pts_nil) (fun _ _ _ _ _ => (pe_op op_sub (pe_cg c__law_take (by exact hG) (by exact hr) (by decide) (by rfl) (pa_cons (pv 0) (pa_cons (pv 2) pa_nil))) (pe_callTy call_int1 (by rfl) m_int (by decide +kernel) (pa_cons (pe_cmpR op_eq (pe_cg c__law_take (by exact hG) (by exact hr) (by decide) (by rfl) (pa_cons (pv 0) (pa_cons pe_int pa_nil))) pe_int (nomark _)) pa_nil))))) pa_nil)))), ?_⟩
  refine ⟨.int many, rfl, many, rfl, by omega, by omega, fun D nD => ?_⟩
  refine lcd_range (n := many.toNat) (Y := fun _ v i => v = V.int i ∧ -1 ≤ i ∧ i < wide) (LcG.draw nD hB) (fun _ _ _ _ _ h => h) (by omega) (fun i H1 hi k1 hB1 => ?_) (fun H1 acc js k1 hB1 hD ea el => ?_)
  · intro Qe Qn hE
    refine ⟨rfl, .ref b, rfl, .int wide, rfl, b, c, wide, rfl, hB1, h2, by omega, fun r1 H2 k2 hB2 a1 a2 => ?_⟩
    refine ⟨.ref b, rfl, b, c, 9, rfl, hB2, by decide, by decide, fun r2 H3 k3 hB3 _ _ => ?_⟩
    refine ⟨rfl, .inr ⟨_, rfl, r1, _, rfl, rfl, hE _ H3 _ (k2.trans k3) hB3 ⟨rfl, ?_, ?_⟩⟩⟩
    · cases decide (V.int r2 = V.int 0) <;> simp <;> omega
    · cases decide (V.int r2 = V.int 0) <;> simp <;> omega
  · have e2 : acc = js.map V.int ∧ ∀ v ∈ js, -1 ≤ v ∧ v < wide := yb2_all ea
    obtain ⟨rfl, e3⟩ := e2
    refine ⟨D, _, rfl, .inl (SqL.of hD), fun p H2 k2 s2 => ?_⟩
    exact q p js H2 (k1.trans (Kp.of k2)) (hB1.same k2) ⟨p, rfl, s2⟩ el e3


/-- a drawn table -/
def GoodT (many : Int) (most : Nat) (rs : List (List Int)) : Prop := 1 ≤ many ∧ many ≤ 4 ∧ K2.Lot rs ∧ rs.length ≤ most ∧ ∀ r ∈ rs, r.length = many.toNat ∧ ∀ v ∈ r, -1 ≤ v ∧ v < 12
def spTab (K : PySem.W.Frag) : Sp := fun vs H Q _ => ∃ (b c : Addr) (most : Nat), vs = [.ref b, .int (most : Int)] ∧ Bag H b c ∧ most ≤ 50 ∧
  ∀ (t a : Addr) (many : Int) (bs : List (V × List Int)) H', Kp b H H' → Bag H' b c → TabAt K H' t many a bs → GoodT many most (bs.map (·.2)) → Q (.ref t) H'

theorem nodup_map {α β : Type} {f : α → β} : ∀ {l : List α}, (l.map f).Nodup → l.Nodup
  | [], _ => .nil
  | a :: l, h => by
    rw [List.map_cons, List.nodup_cons] at h
    exact List.nodup_cons.mpr ⟨fun z => h.1 (List.mem_map.mpr ⟨a, z, rfl⟩), nodup_map h.2⟩
theorem nodup_sub {α : Type} : ∀ {l m : List α}, l.Nodup → (∀ a ∈ l, a ∈ m) → l.length ≤ m.length
  | [], _, _, _ => Nat.zero_le _
  | a :: l, m, h, s => by
    rw [List.nodup_cons] at h
    obtain ⟨u, v, rfl⟩ := List.append_of_mem (s a List.mem_cons_self)
    have := nodup_sub (m := u ++ v) h.2 fun b hb => by
      have := s b (List.mem_cons_of_mem _ hb)
      rcases List.mem_append.mp this with z | z
      · exact List.mem_append_left _ z
      · rcases List.mem_cons.mp z with z | z
        · rw [z] at hb
          exact absurd hb h.1
        · exact List.mem_append_right _ z
    rw [List.length_append] at *
    simp only [List.length_cons]
    omega
theorem ks_of {K : PySem.W.Frag} {H : Hp} {many : Nat} : ∀ {acc : List V} {rs : List (List Int)}, PySem.W.EachIs (fun v row => TI K H v row ∧ row.length = many ∧ ∀ v ∈ row, -1 ≤ v ∧ v < 12) acc rs →
    ∃ ks : List (Addr × List Int), acc = ks.map (fun p => V.ref p.1) ∧ rs = ks.map (·.2) ∧ ∀ p ∈ ks, SqT K H p.1 (p.2.map V.int) ∧ p.2.length = many ∧ ∀ v ∈ p.2, -1 ≤ v ∧ v < 12
  | _, _, .nil => ⟨[], rfl, rfl, fun _ z => nomatch z⟩
  | _, r :: _, .cons h t => by
    obtain ⟨ks, e1, e2, e3⟩ := ks_of t
    obtain ⟨⟨a, e, hs⟩, h2⟩ := h
    refine ⟨(a, r) :: ks, by rw [List.map_cons, ← e1, e], by rw [List.map_cons, ← e2], fun p hp => ?_⟩
    rcases List.mem_cons.mp hp with rfl | hp
    · exact ⟨hs, h2⟩
    · exact e3 p hp
abbrev s_law_some_table : Stmt := topS 13
theorem sc_law_some_table : FnScope ["bag", "most", "rows", "many", "wide", "turn", "at"] ["bag", "most"] (defScope s_law_some_table) := ⟨rfl, rfl, rfl, by decide +kernel, rfl, by decide +kernel, by decide +kernel⟩
theorem ok_law_some_table {P : Program} {w : World} {K : PySem.W.Frag} {mg : Str → Option Value} {base : Heap} (D : DefAt K mg "_law_some_table" s_law_some_table ["bag", "most"]) (c__law_some : Cal P w K mg base 2 "_law_some" (spSome K)) (c__law_take : Cal P w K mg base 1 "_law_take" spTake) (m_int : mg "int" = none) (m_range : mg "range" = none) (m_set : mg "set" = none) (m_sorted : mg "sorted" = none) (m_tuple : mg "tuple" = none) :
    Cal P w K mg base 3 "_law_some_table" (spTab K) := by
  refine cal_mk D sc_law_some_table (fun vs H Q E h => ?_) (fun f cdv A outer s H vs Q E hG hr h => ?_)
  · obtain ⟨b, c, most, rfl, _⟩ := h; rfl
  have nd := sc_law_some_table.nd
  obtain ⟨b, c, most, rfl, hB, h50, q⟩ := h
  refine ⟨_, (pss_cons (ps_asg (pe_tup (pa_cons (pe_cg c__law_some (by exact hG) (by exact hr) (by decide) (by rfl) (pa_cons (pv 0) (pa_cons (pe_lst (pa_cons pe_int (pa_cons pe_int (pa_cons pe_int (pa_cons pe_int (pa_cons pe_int pa_nil)))))) pa_nil))) (pa_cons (pe_cg c__law_some (by exact hG) (by exact hr) (by decide) (by rfl) (pa_cons (pv 0) (pa_cons (pe_lst (pa_cons pe_int (pa_cons pe_int (pa_cons pe_int pa_nil)))) pa_nil))) pa_nil))) (pg_tup rfl (pgs_cons (pg_name (i := 3) nd rfl (.inr rfl)) (pgs_cons (pg_name (i := 4) nd rfl (.inr rfl)) pgs_nil))))
    (pss_cons (ps_setLc (i := 2) (own := [("turn", 5)]) (g := gName 5) (tt := tYes) (by rfl) nd rfl rfl (sw_true rfl rfl rfl (by decide +kernel)) (pi_range1 (by rfl) m_range (pa_cons (pe_cg c__law_take (by exact hG) (by exact hr) (by decide) (by rfl) (pa_cons (pv 0) (pa_cons (pe_op op_add (pv 1) pe_int) pa_nil))) pa_nil)) (blkOk_by (own := [("turn", 5)]) (N := ["bag", "most", "rows", "many", "wide", "turn", "at"]) (sc := (defScope s_law_some_table)) (by decide +kernel)) (fun _ _ _ _ _ => (pg_name (i := 5) nd rfl (.inl rfl))) (fun _ _ _ _ _ => pts_nil) (fun _ _ _ _ _ => (pe_callTy (call_tup2 : CallR _ (.type "tuple") (rTupOf K)) (by rfl) m_tuple (by decide +kernel) (pa_cons (pe_lc (own := [("at", 6)]) (g := gName 6) (tt := tYes) (by rfl) nd (pi_range1 (by rfl) m_range (pa_cons (pv 3) pa_nil)) (blkOk_by (own := [("at", 6)]) (N := ["bag", "most", "rows", "many", "wide", "turn", "at"]) (sc := (relS _ (defScope s_law_some_table))) (by decide +kernel)) (fun _ _ _ _ _ => (pg_name (i := 6) nd rfl (.inl rfl))) (fun _ _ _ _ _ => pts_nil) (fun _ _ _ _ _ => (pe_op op_sub (pe_cg c__law_take (by exact hG) (by exact hr) (by decide) (by rfl) (pa_cons (pv 0) (pa_cons (pv 4) pa_nil))) (pe_callTy call_int1 (by rfl) m_int (by decide +kernel) (pa_cons (pe_cmpR op_eq (pe_cg c__law_take (by exact hG) (by exact hr) (by decide) (by rfl) (pa_cons (pv 0) (pa_cons pe_int pa_nil))) pe_int (nomark _)) pa_nil))))) pa_nil))))
    (pss_one (ps_ret (pe_tup (pa_cons (pv 3) (pa_cons (pe_callTy (call_tup2 : CallR _ (.type "tuple") (rTupOf K)) (by rfl) m_tuple (by decide +kernel) (pa_cons (pe_callB (cr_sortSet rfl (by exact hr.units) : CallR _ (.builtin "sorted") (rSortSet K P w)) (by rfl) m_sorted (by decide +kernel) (pa_cons (pe_callTy (cr_setOfT rfl (by exact hr.units) : CallR _ (.type "set") (rSetOfT K P w)) (by rfl) m_set (by decide +kernel) (pa_cons (pv 2) pa_nil)) pa_nil)) pa_nil)) pa_nil))))))), ?_⟩
  have nbl : ∀ {l : Addr} {H1 : Hp}, Bag H1 b c → H1 l = none → l ≠ b := fun {l H1} g n z => by
    obtain ⟨xs, hx⟩ := g.lst
    rw [z, hx] at n
    cases n
  refine ⟨.ref b, rfl, by show 5 ≤ sizeLine; decide, fun l1 n1 => ?_⟩
  refine ⟨b, c, l1, _, rfl, hB.new n1, .inl ⟨SqL.of upd_same, nbl hB n1⟩, (by intro z; cases z), (by show 5 < 1000000; decide), fun x1 H1 hx1 k1 hB1 => ?_⟩
  obtain ⟨many, rfl, m1, m4⟩ : ∃ i : Int, x1 = .int i ∧ 1 ≤ i ∧ i ≤ 4 := by
    simp only [List.mem_cons, List.not_mem_nil, or_false] at hx1
    rcases hx1 with e | e | e | e | e <;> exact ⟨_, e, by decide, by decide⟩
  refine ⟨.ref b, rfl, by show 3 ≤ sizeLine; decide, fun l2 n2 => ?_⟩
  refine ⟨b, c, l2, _, rfl, hB1.new n2, .inl ⟨SqL.of upd_same, nbl hB1 n2⟩, (by intro z; cases z), (by show 3 < 1000000; decide), fun x2 H2 hx2 k2 hB2 => ?_⟩
  obtain ⟨wide, rfl, w0, w1⟩ : ∃ i : Int, x2 = .int i ∧ 0 < i ∧ i ≤ 12 := by
    simp only [List.mem_cons, List.not_mem_nil, or_false] at hx2
    rcases hx2 with e | e | e <;> exact ⟨_, e, by decide, by decide⟩
  refine ⟨by show 2 ≤ sizeLine; decide, fun p0 n0 => ?_⟩
  refine ⟨p0, _, rfl, SqT.of upd_same, rfl, .int many, [.int wide], rfl, .int wide, [], rfl, rfl, ?_⟩
  have K1 : Kp b H (upd H2 p0 (.tup [.int many, .int wide])) := (((Kp.new n1).trans k1).trans ((Kp.new n2).trans k2)).trans (Kp.new n0)
  have B1 := hB2.new (o := .tup [.int many, .int wide]) n0
  generalize upd H2 p0 (.tup [.int many, .int wide]) = G1 at *
  refine ⟨.ref b, rfl, .int most, rfl, most, 1, rfl, rfl, b, c, (most : Int) + 1, rfl, B1, by omega, by omega, fun r G2 k3 B2 r0 r1 => ?_⟩
  refine ⟨r, rfl, by omega, by omega, fun D nD => ?_⟩
  refine lcd_range (n := r.toNat) (Y := fun H v row => TI K H v row ∧ row.length = many.toNat ∧ ∀ v ∈ row, -1 ≤ v ∧ v < 12) (LcG.draw nD B2) (fun _ _ _ _ k h => ⟨h.1.mono k, h.2⟩) (by omega) (fun i H3 hi k4 B3 => ?_) (fun H3 acc rs k4 B3 hD ea el => ?_)
  · intro Qe Qn hE
    refine ⟨rfl, .int many, rfl, many, rfl, by omega, by omega, fun D2 n2 => ?_⟩
    refine lcd_range (n := many.toNat) (Y := fun _ v i => v = V.int i ∧ -1 ≤ i ∧ i < 12) (LcG.draw n2 B3) (fun _ _ _ _ _ h => h) (by omega) (fun i H4 hi k5 B4 => ?_) (fun H4 acc js k5 B4 hD2 ea2 el2 => ?_)
    · intro Re Rn hE2
      refine ⟨rfl, .ref b, rfl, .int wide, rfl, b, c, wide, rfl, B4, w0, by omega, fun r1 H5 k6 B5 a1 a2 => ?_⟩
      refine ⟨.ref b, rfl, b, c, 9, rfl, B5, by decide, by decide, fun r2 H6 k7 B6 _ _ => ?_⟩
      refine ⟨rfl, .inr ⟨_, rfl, r1, _, rfl, rfl, hE2 _ H6 _ (k6.trans k7) B6 ⟨rfl, ?_, ?_⟩⟩⟩
      · cases decide (V.int r2 = V.int 0) <;> simp <;> omega
      · cases decide (V.int r2 = V.int 0) <;> simp <;> omega
    · obtain ⟨rfl, e3⟩ := yb2_all ea2
      refine ⟨D2, _, rfl, .inl (SqL.of hD2), fun p H5 k6 s6 => ?_⟩
      exact hE _ H5 js (k5.trans (Kp.of k6)) (B4.same k6) ⟨⟨p, rfl, s6⟩, el2, e3⟩
  · obtain ⟨ks, e1, e2, e3⟩ := ks_of ea
    subst e1
    have lks : ks.length = r.toNat := by rw [← el, e2, List.length_map]
    refine ⟨.int many, rfl, .ref D, rfl, D, ks, rfl, SqL.of hD, fun p hp => (e3 p hp).1, by omega, fun a2 L n5 sub all => ?_⟩
    have tk5 : TupK H3 (upd H3 a2 (SetTO P w a2 L)) := TupK.new n5 _
    refine ⟨a2, L, rfl, upd_same, fun p hp => ⟨tk5 _ _ _ (e3 p (sub p hp)).1, fun z => ?_⟩, fun p3 bs' n6 pm pw nd => ?_⟩
    · have := (e3 p (sub p hp)).2.1
      rw [z] at this
      have z2 : (0 : Nat) = many.toNat := this
      omega
    · refine ⟨p3, _, rfl, .inl (SqL.of upd_same), fun p4 H7 k7 s7 => ?_⟩
      refine ⟨by show 2 ≤ sizeLine; decide, fun p5 n8 => ?_⟩
      have hbs : ∀ z ∈ bs', ∃ p ∈ L, z = (V.ref p.1, p.2) := fun z hz => by
        obtain ⟨p, hp, e⟩ := List.mem_map.mp (pm.mem_iff.mp hz)
        exact ⟨p, hp, e.symm⟩
      have tk : TupK H3 (upd H7 p5 (.tup [.int many, .ref p4])) := ((tk5.trans (TupK.new n6 _)).trans (TupK.same k7)).trans (TupK.new n8 _)
      have kk : Kp b H (upd H7 p5 (.tup [.int many, .ref p4])) := ((((((K1.trans k3).trans k4).trans (Kp.new n5)).trans (Kp.new n6)).trans (Kp.of k7)).trans (Kp.new n8))
      have BB : Bag (upd H7 p5 (.tup [.int many, .ref p4])) b c := (((B3.new n5).new n6).same k7).new n8
      refine q p5 p4 many bs' _ kk BB ⟨SqT.of upd_same, (TupK.new n8 _) _ _ _ s7, fun z hz => ?_⟩ ⟨m1, m4, ?_, ?_, fun row hrow => ?_⟩
      · obtain ⟨p, hp, rfl⟩ := hbs z hz
        exact ⟨p.1, rfl, tk _ _ _ (e3 p (sub p hp)).1⟩
      · refine K2.lot_of pw ?_
        have := (pm.map (·.2)).nodup_iff
        rw [this, List.map_map]
        exact nd
      · rw [List.length_map, pm.length_eq, List.length_map]
        have := nodup_sub (nodup_map nd) sub
        omega
      · obtain ⟨z, hz, rfl⟩ := List.mem_map.mp hrow
        obtain ⟨p, hp, rfl⟩ := hbs z hz
        exact (e3 p (sub p hp)).2

end LW

namespace LW
open PySem PySem.Spec PyProof.Rows L2 GL

theorem IsLo_of {ns ms : List Int} {o : Option Int} (h : K2.IsLo ns o) (e : ∀ z, z ∈ ns ↔ z ∈ ms) : K2.IsLo ms o := by
  rcases h with ⟨rfl, rfl⟩ | ⟨m, rfl, h1, h2⟩
  · exact .inl ⟨List.eq_nil_iff_forall_not_mem.mpr fun z hz => (by have := (e z).mpr hz; cases this), rfl⟩
  · exact .inr ⟨m, rfl, (e m).mp h1, fun z hz => h2 z ((e z).mpr hz)⟩
theorem IsHi_of {ns ms : List Int} {o : Option Int} (h : K2.IsHi ns o) (e : ∀ z, z ∈ ns ↔ z ∈ ms) : K2.IsHi ms o := by
  rcases h with ⟨rfl, rfl⟩ | ⟨m, rfl, h1, h2⟩
  · exact .inl ⟨List.eq_nil_iff_forall_not_mem.mpr fun z hz => (by have := (e z).mpr hz; cases this), rfl⟩
  · exact .inr ⟨m, rfl, (e m).mp h1, fun z hz => h2 z ((e z).mpr hz)⟩
abbrev s_law_nearest : Stmt := topS 15
theorem sc_law_nearest : FnScope ["rows", "prefix", "x", "deep", "values", "low", "high", "value", "row"] ["rows", "prefix", "x"] (defScope s_law_nearest) := ⟨rfl, rfl, rfl, by decide +kernel, rfl, by decide +kernel, by decide +kernel⟩
theorem ok_law_nearest {P : Program} {w : World} {K : PySem.W.Frag} {mg : Str → Option Value} {base : Heap} (D : DefAt K mg "_law_nearest" s_law_nearest ["rows", "prefix", "x"]) (m_len : mg "len" = none) (m_set : mg "set" = none) (m_sorted : mg "sorted" = none) :
    Cal P w K mg base 1 "_law_nearest" (spNear 60 K) := by
  refine cal_mk D sc_law_nearest (fun vs H Q E h => ?_) (fun f cdv A outer s H vs Q E hG hr h => ?_)
  · obtain ⟨a, π, bs, pre, xo, rfl, _⟩ := h; rfl
  have nd := sc_law_nearest.nd
  obtain ⟨a, π, bs, pre, xo, rfl, hR, hp0, hlen, hw, q⟩ := h
  refine ⟨_, (pss_cons (ps_set (i := 3) nd rfl (.inr rfl) (pe_callB (call_len2 : CallR _ (.builtin "len") (rLen2 K)) (by rfl) m_len PySem.boot_len (pa_cons (pv 1) pa_nil)))
    (pss_cons (ps_set (i := 4) nd rfl (.inl rfl) (pe_callB (cr_sortedSet rfl : CallR _ (.builtin "sorted") (rSortedSet w)) (by rfl) m_sorted (by decide +kernel) (pa_cons (pe_callTy (cr_setInts rfl : CallR _ (.type "set") (rSetInts K w)) (by rfl) m_set (by decide +kernel) (pa_cons (pe_lc (own := [("row", 8)]) (g := gName 8) (by rfl) nd (pi_tup (pv 0) : PI _ _ _ (iTup K _)) (blkOk_by (own := [("row", 8)]) (N := ["rows", "prefix", "x", "deep", "values", "low", "high", "value", "row"]) (sc := (defScope s_law_nearest)) (by decide +kernel)) (fun _ _ _ _ _ => (pg_name (i := 8) nd rfl (.inl rfl))) (fun _ _ _ _ _ => (pts_one (pt_cmpR (op_eqD (by exact hr.units) : OpR _ (compareOp .Eq) (rEqD K)) (pe_slice (sl_tupU : SlR _ (rSlU K)) (pv 8) po_none (po_some (pv 3))) (pv 1) (nomark _)))) (fun _ _ _ _ _ => (pe_ix (ix_tup : IxR _ (rIxT K)) (pv 8) (pv 3) (fun _ _ => rfl)))) pa_nil)) pa_nil)))
    (pss_cons (ps_if (pt_cmpR op_isN (pv 2) pe_non (nomark _)) (pss_one (ps_ret (pe_tup (pa_cons pe_bl (pa_cons pe_non (pa_cons (pe_imp (t' := tFirstOr K 4) (pe_ifExp (pt_cmpR (op_neD (by exact hr.units) : OpR _ (compareOp .NotEq) (rNeD K)) (pv 4) (pe_lst pa_nil) (nomark _)) (pe_ix (ix_list : IxR _ (rIxL K)) (pv 4) pe_int (fun _ _ => rfl)) pe_non) (fun σ H Q h => by
      obtain ⟨a, ns, hs, hL, pw, q⟩ := h
      refine ⟨.ref a, hs, Nat.zero_le _, fun l nl => ?_⟩
      have kl := put_new nl (.lst [])
      refine ⟨_, _, dp_lints (kl.seq hL), .lst (SqL.of upd_same) .nil, shaped_lints ns, shaped_lints [], ?_⟩
      rw [ne_lints]
      refine ⟨_, rfl, ite2 (fun e => ?_) (fun e => ?_)⟩
      · have e' : ns ≠ [] := of_decide_eq_true e
        cases ns with
        | nil => exact absurd rfl e'
        | cons m r => exact ⟨.ref a, hs, a, _, 0, .int m, rfl, rfl, kl.seq hL, atI_nat (j := 0) rfl, q (some m) _ kl (K2.lo_first pw)⟩
      · have e' : ns = [] := Classical.byContradiction fun z => e (decide_eq_true z)
        exact q none _ kl (.inl ⟨e', rfl⟩))) pa_nil)))))) pss_nil)
    (pss_cons (ps_par (i := 5) (j := 6) (by rfl) nd rfl rfl (by decide) rfl rfl (pa_cons (pe_lc (own := [("value", 7)]) (g := gName 7) (by rfl) nd (pi_list (pv 4) : PI _ _ _ (iList K _)) (blkOk_by (own := [("value", 7)]) (N := ["rows", "prefix", "x", "deep", "values", "low", "high", "value", "row"]) (sc := (defScope s_law_nearest)) (by decide +kernel)) (fun _ _ _ _ _ => (pg_name (i := 7) nd rfl (.inl rfl))) (fun _ _ _ _ _ => (pts_one (pt_cmpR op_lt (pv 7) (pv 2) (nomark _)))) (fun _ _ _ _ _ => (pv 7))) (pa_cons (pe_lc (own := [("value", 7)]) (g := gName 7) (by rfl) nd (pi_list (pv 4) : PI _ _ _ (iList K _)) (blkOk_by (own := [("value", 7)]) (N := ["rows", "prefix", "x", "deep", "values", "low", "high", "value", "row"]) (sc := (defScope s_law_nearest)) (by decide +kernel)) (fun _ _ _ _ _ => (pg_name (i := 7) nd rfl (.inl rfl))) (fun _ _ _ _ _ => (pts_one (pt_cmpR op_gt (pv 7) (pv 2) (nomark _)))) (fun _ _ _ _ _ => (pv 7))) pa_nil)) (by rfl))
    (pss_one (ps_ret (pe_tup (pa_cons (pe_cmpR (op_in_seq : OpR _ (compareOp .In) (rIn K false)) (pv 2) (pv 4) (by rfl)) (pa_cons (pe_imp (t' := tLastOr K 5) (pe_ifExp (pt_cmpR (op_neD (by exact hr.units) : OpR _ (compareOp .NotEq) (rNeD K)) (pv 5) (pe_lst pa_nil) (nomark _)) (pe_ix (ix_list : IxR _ (rIxL K)) (pv 5) (pe_un un_neg pe_int) (fun _ _ => rfl)) pe_non) (fun σ H Q h => by
      obtain ⟨a, ns, hs, hL, pw, q⟩ := h
      refine ⟨.ref a, hs, Nat.zero_le _, fun l nl => ?_⟩
      have kl := put_new nl (.lst [])
      refine ⟨_, _, dp_lints (kl.seq hL), .lst (SqL.of upd_same) .nil, shaped_lints ns, shaped_lints [], ?_⟩
      rw [ne_lints]
      refine ⟨_, rfl, ite2 (fun e => ?_) (fun e => ?_)⟩
      · have e' : ns ≠ [] := of_decide_eq_true e
        obtain ⟨us, m, eu, hat⟩ := last_at e'
        exact ⟨.ref a, hs, 1, rfl, a, _, -1, .int m, rfl, rfl, kl.seq hL, hat, q (some m) _ kl (by rw [eu] at pw ⊢; exact K2.hi_last pw)⟩
      · have e' : ns = [] := Classical.byContradiction fun z => e (decide_eq_true z)
        exact q none _ kl (.inl ⟨e', rfl⟩))) (pa_cons (pe_imp (t' := tFirstOr K 6) (pe_ifExp (pt_cmpR (op_neD (by exact hr.units) : OpR _ (compareOp .NotEq) (rNeD K)) (pv 6) (pe_lst pa_nil) (nomark _)) (pe_ix (ix_list : IxR _ (rIxL K)) (pv 6) pe_int (fun _ _ => rfl)) pe_non) (fun σ H Q h => by
      obtain ⟨a, ns, hs, hL, pw, q⟩ := h
      refine ⟨.ref a, hs, Nat.zero_le _, fun l nl => ?_⟩
      have kl := put_new nl (.lst [])
      refine ⟨_, _, dp_lints (kl.seq hL), .lst (SqL.of upd_same) .nil, shaped_lints ns, shaped_lints [], ?_⟩
      rw [ne_lints]
      refine ⟨_, rfl, ite2 (fun e => ?_) (fun e => ?_)⟩
      · have e' : ns ≠ [] := of_decide_eq_true e
        cases ns with
        | nil => exact absurd rfl e'
        | cons m r => exact ⟨.ref a, hs, a, _, 0, .int m, rfl, rfl, kl.seq hL, atI_nat (j := 0) rfl, q (some m) _ kl (K2.lo_first pw)⟩
      · have e' : ns = [] := Classical.byContradiction fun z => e (decide_eq_true z)
        exact q none _ kl (.inl ⟨e', rfl⟩))) pa_nil)))))))))), ?_⟩
  obtain ⟨π', eπ, hπ⟩ := hp0
  cases eπ
  have lp : (pre.map V.int).length = pre.length := List.length_map ..
  refine ⟨.ref π, rfl, π, _, rfl, .inr hπ, ?_⟩
  rw [lp]
  refine ⟨.ref a, rfl, a, rfl, ⟨_, hR.1⟩, fun D nD => ?_⟩
  refine lcg_tup (K := K) (Y := YI) (out := fun i => (bs[i]?).bind fun b => if decide (b.2.take pre.length = pre) = true then some (b.2.getD pre.length 0) else none) (LcG.pure nD) (fun _ _ _ _ _ h => h) hR.1 (by rw [List.length_map]; omega) (fun i y H1 hx k1 _ => ?_) (fun H1 acc js k1 _ hD ea eb => ?_)
  · obtain ⟨b, hb, rfl, hm⟩ := get_fst hx
    intro Qe Qn hE hN
    obtain ⟨tb, eb, hb1⟩ := (hR.2 b hm).mono (TupK.same k1)
    have hπ1 := (TupK.same k1) _ _ _ hπ
    refine ⟨rfl, b.1, rfl, .int (pre.length : Nat), rfl, (pre.length : Nat), rfl, tb, _, eb, hb1, fun p2 H2 k2 s2 => ?_⟩
    rw [cut_take, ← List.map_take] at s2
    refine ⟨.ref π, rfl, encR (b.2.take pre.length), encR pre, TI.dp (⟨p2, rfl, s2⟩ : TI K _ (.ref p2) _), TI.dp (⟨π, rfl, (TupK.same k2) _ _ _ hπ1⟩ : TI K _ (.ref π) pre), shaped_encR _, shaped_encR _, ?_⟩
    rw [eqv_encR]
    refine ⟨_, rfl, ite2 (fun e => ?_) (fun e => ?_)⟩
    · have pl := hw b hm
      refine ⟨b.1, rfl, .int (pre.length : Nat), rfl, tb, _, (pre.length : Nat), .int (b.2.getD pre.length 0), eb, rfl, (TupK.same k2) _ _ _ hb1, atI_nat ?_, hE _ H2 _ ?_ k2 trivial rfl⟩
      · rw [List.getElem?_map, List.getElem?_eq_getElem pl]
        simp [List.getD_eq_getElem?_getD, List.getElem?_eq_getElem pl]
      · rw [hb]
        show (if _ then _ else _) = _
        rw [if_pos e]
    · refine hN H2 ?_ k2 trivial
      rw [hb]
      show (if _ then _ else _) = _
      rw [if_neg e]
  · rw [List.length_map, fm_all] at eb
    have ejs : js = K2.behind (bs.map (·.2)) pre := by
      rw [eb]
      unfold K2.behind
      have : ∀ l : List (V × List Int), (l.filterMap fun b => if decide (b.2.take pre.length = pre) = true then some (b.2.getD pre.length 0) else none) = ((l.map (·.2)).filter fun r => decide (r.take pre.length = pre)).map fun r => r.getD pre.length 0 := by
        intro l
        induction l with
        | nil => rfl
        | cons c l ih =>
          by_cases z : c.2.take pre.length = pre
          · simpa [List.filterMap_cons, z] using ih
          · simpa [List.filterMap_cons, z] using ih
      exact this bs
    have e2 := yi_all ea
    subst e2
    have ljs : js.length ≤ 60 := by rw [eb]; exact Nat.le_trans (List.length_filterMap_le _ _) hlen
    rw [← ejs] at q
    clear eb ejs
    refine ⟨D, js, rfl, SqL.of hD, by omega, fun p0 c0 n0 hc0 => ?_⟩
    refine ⟨p0, _, c0, rfl, upd_same, by omega, fun ns p1 pw hm hl n1 => ?_⟩
    have mem : ∀ z, z ∈ ns ↔ z ∈ js := fun z => by rw [hm z]; simp
    have k2 : Same H1 (upd (upd H1 p0 (SetO w p0 (fun j => decide (j ∈ js)) c0)) p1 (.lst (ns.map V.int))) := (put_new n0 _).trans (put_new n1 _)
    have hL : upd (upd H1 p0 (SetO w p0 (fun j => decide (j ∈ js)) c0)) p1 (.lst (ns.map V.int)) p1 = some (.lst (ns.map V.int)) := upd_same
    generalize upd (upd H1 p0 (SetO w p0 (fun j => decide (j ∈ js)) c0)) p1 (.lst (ns.map V.int)) = H2 at *
    have kk := k1.trans k2
    have lns : ns.length ≤ 60 := by omega
    clear hm hl hc0 nD hD n0 n1
    refine ⟨oV xo, rfl, rfl, _, rfl, ?_⟩
    cases xo with
    | none =>
      refine ite2 (fun _ => ?_) (fun e => absurd rfl e)
      refine ⟨p1, ns, rfl, SqL.of hL, pw, fun o H3 k3 ho => ⟨by show 3 ≤ sizeLine; decide, fun p hp => ?_⟩⟩
      exact q p _ false none o ((kk.trans k3).trans (put_new hp _)) ⟨rfl, rfl, IsLo_of ho mem⟩ (SqT.of upd_same)
    | some x =>
      refine ite2 (fun e => absurd (of_decide_eq_true e) (by intro z; cases z)) (fun _ => ?_)
      refine ⟨.ref p1, rfl, p1, rfl, ⟨_, SqL.of hL⟩, fun D2 n2 => ?_⟩
      refine lcg_list (K := K) (Y := YI) (out := fun i => (ns[i]?).bind fun v => if decide (v < x) = true then some v else none) (LcG.pure n2) (fun _ _ _ _ _ h => h) (fun H3 k3 => SqL.of (k3 _ _ hL)) (by rw [List.length_map]; omega) (fun i y H3 hx k3 _ => ?_) (fun H3 acc ls k3 _ hD2 ea2 eb2 => ?_)
      · rw [List.getElem?_map] at hx
        obtain ⟨v, hv, rfl⟩ := Option.map_eq_some_iff.mp hx
        intro Qe Qn hE hN
        refine ⟨rfl, .int v, rfl, .int x, rfl, v, x, rfl, rfl, _, rfl, ite2 (fun e => ?_) (fun e => ?_)⟩
        · refine ⟨.int v, rfl, hE _ H3 v ?_ (Same.refl _) trivial rfl⟩
          rw [hv]
          show (if _ then _ else _) = _
          rw [if_pos e]
        · refine hN H3 ?_ (Same.refl _) trivial
          rw [hv]
          show (if _ then _ else _) = _
          rw [if_neg e]
      · rw [List.length_map, fm_all, fm_if] at eb2
        have e3 := yi_all ea2
        subst e3
        have hL3 := k3 _ _ hL
        refine ⟨.ref p1, rfl, p1, rfl, ⟨_, SqL.of hL3⟩, fun D3 n3 => ?_⟩
        refine lcg_list (K := K) (Y := YI) (out := fun i => (ns[i]?).bind fun v => if decide (x < v) = true then some v else none) (LcG.pure n3) (fun _ _ _ _ _ h => h) (fun H4 k4 => SqL.of (k4 _ _ hL3)) (by rw [List.length_map]; omega) (fun i y H4 hx k4 _ => ?_) (fun H4 acc hs k4 _ hD3 ea3 eb3 => ?_)
        · rw [List.getElem?_map] at hx
          obtain ⟨v, hv, rfl⟩ := Option.map_eq_some_iff.mp hx
          intro Qe Qn hE hN
          refine ⟨rfl, .int v, rfl, .int x, rfl, v, x, rfl, rfl, _, rfl, ite2 (fun e => ?_) (fun e => ?_)⟩
          · refine ⟨.int v, rfl, hE _ H4 v ?_ (Same.refl _) trivial rfl⟩
            rw [hv]
            show (if _ then _ else _) = _
            rw [if_pos e]
          · refine hN H4 ?_ (Same.refl _) trivial
            rw [hv]
            show (if _ then _ else _) = _
            rw [if_neg e]
        · rw [List.length_map, fm_all, fm_if] at eb3
          have e4 := yi_all ea3
          subst e4
          have hD2' := k4 _ _ hD2
          have hL4 := k4 _ _ hL3
          have pl : ls.Pairwise (· < ·) := by rw [eb2]; exact pw.filter _
          have ph : hs.Pairwise (· < ·) := by rw [eb3]; exact pw.filter _
          have ml : ∀ z, z ∈ ls ↔ z ∈ js.filter fun v => decide (v < x) := fun z => by rw [eb2, List.mem_filter, List.mem_filter, mem z]
          have mh : ∀ z, z ∈ hs ↔ z ∈ js.filter fun v => decide (x < v) := fun z => by rw [eb3, List.mem_filter, List.mem_filter, mem z]
          have kf : Same H H4 := (kk.trans k3).trans k4
          clear eb2 eb3 ea2 ea3 k1 k2 kk
          refine ⟨_, _, rfl, ?_⟩
          refine ⟨.int x, rfl, .ref p1, rfl, p1, _, rfl, .inl (SqL.of hL4), rfl, flat_ints ns, ?_⟩
          have th : (inV (V.int x) (ns.map V.int)) = decide (x ∈ js) := by
            rw [inV_ints]
            exact decide_eq_decide.mpr (mem x)
          rw [th]
          refine ⟨D2, ls, rfl, SqL.of hD2', pl, fun lo H5 k5 hlo => ?_⟩
          refine ⟨D3, hs, rfl, SqL.of (k5 _ _ hD3), ph, fun hi H6 k6 hhi => ⟨by show 3 ≤ sizeLine; decide, fun p hp => ?_⟩⟩
          exact q p _ _ lo hi (((kf.trans k5).trans k6).trans (put_new hp _)) ⟨rfl, IsHi_of hlo ml, IsLo_of hhi mh⟩ (SqT.of upd_same)

end LW

namespace LW
open PySem PySem.Spec PyProof.Rows L2 GL

theorem with_eq {rs W S : List (List Int)} {row : List Int} (lot : K2.Lot rs) (hW : if row ∈ rs then W = rs else W.Pairwise (· ≤ ·) ∧ W.Perm (rs ++ [row]))
    (hs : S.Pairwise (· ≤ ·)) (pm : S.Perm (rs.filter (fun r => decide (r ≠ row)) ++ [row])) : W = S := by
  by_cases h : row ∈ rs
  · rw [if_pos h] at hW
    subst hW
    exact K2.sorted_unique lot.le hs (pm.trans (K2.perm_filter_ne lot.nodup h)).symm
  · rw [if_neg h] at hW
    rw [K2.filter_ne_of h] at pm
    exact K2.sorted_unique hW.1 hs (hW.2.trans pm.symm)
/-- rows short and small -/
def SmallR (rs : List (List Int)) : Prop := ∀ r ∈ rs, r.length ≤ 4 ∧ ∀ v ∈ r, -1 ≤ v ∧ v < 12
theorem goodT_small {many : Int} {most : Nat} {rs : List (List Int)} (h : GoodT many most rs) : SmallR rs := fun r hr => by
  obtain ⟨_, h4, _, _, h5⟩ := h
  obtain ⟨a, b⟩ := h5 r hr
  exact ⟨by omega, b⟩
theorem abs12 {v : Int} (h : -1 ≤ v ∧ v < 12) : v.natAbs < 10 ^ 12 := by omega
theorem smallR_k {rs : List (List Int)} (h : SmallR rs) : ∀ r ∈ rs, r.length ≤ 4 ∧ ∀ v ∈ r, v.natAbs < 10 ^ 12 := fun r hr => ⟨(h r hr).1, fun v hv => abs12 ((h r hr).2 v hv)⟩
theorem okR {rs : List (List Int)} (hl : rs.length ≤ 20) (h : SmallR rs) : Ok 4000 2 (encRs rs) := by
  refine (ok_rows (k := 4) (smallR_k h)).mono ?_ (Nat.le_refl _)
  calc rs.length * (4 * 42 + 1) ≤ 20 * (4 * 42 + 1) := Nat.mul_le_mul_right _ hl
    _ ≤ 4000 := by decide
theorem okT {many : Int} {rs : List (List Int)} (h1 : 1 ≤ many) (h4 : many ≤ 4) (hl : rs.length ≤ 20) (h : SmallR rs) : Ok 5000 3 (encT many rs) :=
  (Ok.tuple (((Ok.int (i := many) (by omega)).mono (Nat.le_refl _) (by omega)).cons' (((okR hl h)).cons' (OkAll.nil 2)))).mono (by omega) (Nat.le_refl _)
theorem ne_rows (rs : List (List Int)) : (!PyData.eqv (encRs rs) (encR [])) = decide (rs ≠ []) := by
  show (!PyData.eqv (.tuple _) (.tuple _)) = _
  rw [PyData.eqv, List.map_nil]
  cases rs <;> simp [PyData.eqvAll]
theorem ne_lrows (rs : List (List Int)) : (!PyData.eqv (.list (rs.map encR)) (.list [])) = decide (rs ≠ []) := by
  rw [PyData.eqv]
  cases rs <;> simp [PyData.eqvAll]
theorem near_one {vals : List Int} {xo : Option Int} {th th' : Bool} {lo lo' hi hi' : Option Int} (h : NearIs vals xo th lo hi) (h' : NearIs vals xo th' lo' hi') : th = th' ∧ lo = lo' ∧ hi = hi' := by
  cases xo with
  | none =>
    obtain ⟨rfl, rfl, h3⟩ := h
    obtain ⟨rfl, rfl, h3'⟩ := h'
    exact ⟨rfl, rfl, h3.one h3' fun _ => Iff.rfl⟩
  | some x =>
    obtain ⟨rfl, h2, h3⟩ := h
    obtain ⟨rfl, h2', h3'⟩ := h'
    exact ⟨rfl, h2.one h2' fun _ => Iff.rfl, h3.one h3' fun _ => Iff.rfl⟩
/-- a whole number or none -/
def oD : Option Int → PyData
  | none => .none
  | some i => .int i
theorem oD_dp {K : PySem.W.Frag} {H : Hp} : ∀ o : Option Int, Dp K H (oV o) (oD o)
  | none => .non
  | some i => .int i
theorem ok_oD : ∀ {o : Option Int}, (∀ i, o = some i → i.natAbs < 10 ^ 12) → Ok 41 0 (oD o)
  | none, _ => Ok.none.mono (by omega) (Nat.le_refl _)
  | some i, h => Ok.int (h i rfl)
theorem lo_mem {ns : List Int} {o : Option Int} (h : K2.IsLo ns o) : ∀ i, o = some i → i ∈ ns := by
  intro i e
  rcases h with ⟨_, rfl⟩ | ⟨m, rfl, h, _⟩
  · cases e
  · cases e; exact h
theorem hi_mem {ns : List Int} {o : Option Int} (h : K2.IsHi ns o) : ∀ i, o = some i → i ∈ ns := by
  intro i e
  rcases h with ⟨_, rfl⟩ | ⟨m, rfl, h, _⟩
  · cases e
  · cases e; exact h
theorem near_mem {vals : List Int} {xo : Option Int} {th : Bool} {lo hi : Option Int} (h : NearIs vals xo th lo hi) : (∀ i, lo = some i → i ∈ vals) ∧ (∀ i, hi = some i → i ∈ vals) := by
  cases xo with
  | none =>
    obtain ⟨_, rfl, h3⟩ := h
    exact ⟨fun i e => (by cases e), lo_mem h3⟩
  | some x =>
    obtain ⟨_, h2, h3⟩ := h
    exact ⟨fun i e => (List.mem_filter.mp (hi_mem h2 i e)).1, fun i e => (List.mem_filter.mp (lo_mem h3 i e)).1⟩
theorem behind_small {rs : List (List Int)} {pre : List Int} (h : SmallR rs) (hw : ∀ r ∈ rs, pre.length < r.length) : ∀ i ∈ K2.behind rs pre, i.natAbs < 10 ^ 12 := by
  intro i hi
  obtain ⟨r, hr, rfl⟩ := List.mem_map.mp hi
  have hr := (List.mem_filter.mp hr).1
  refine abs12 ((h r hr).2 _ ?_)
  rw [List.getD_eq_getElem?_getD, List.getElem?_eq_getElem (hw r hr)]
  exact List.getElem_mem _
theorem bag_nen {H : Hp} {b c l : Addr} (g : Bag H b c) (n : H l = none) : l ≠ b := fun z => by
  obtain ⟨xs, hx⟩ := g.lst
  rw [z, hx] at n
  cases n
theorem bag_tk {H H' : Hp} {b c : Addr} (g : Bag H b c) (k : Kp b H H') : TupK H H' := by
  obtain ⟨xs, hx⟩ := g.lst
  exact TupK.kp k hx
/-- one of the rows, or any row -/
theorem some_row {K : PySem.W.Frag} {b c t r : Addr} {many : Int} {bs : List (V × List Int)} {G : Hp} {Q : VK} {T2 : TT} {σ : L2.St} {E1 E2 : XK} (hB : Bag G b c) (hT : TabAt K G t many r bs) (hg : GoodT many 12 (bs.map (·.2)))
    (h1 : σ[1]? = some (some (.ref b))) (h6 : σ[6]? = some (some (.int many))) (h7 : σ[7]? = some (some (.ref r)))
    (t2 : ∀ H2 (Q2 : Bool → Hp → Prop), Bag H2 b c → (∀ x H3, Kp b H2 H3 → Bag H3 b c → Q2 x H3) → T2 σ H2 Q2)
    (q : ∀ (ρ : Addr) (row : List Int) G', Kp b G G' → Bag G' b c → TI K G' (.ref ρ) row → row.length = many.toNat → (∀ v ∈ row, -1 ≤ v ∧ v < 12) → Q (.ref ρ) G') :
    tIf (tAnd (tTest (tOp (rNeD K) (tVar 7) (tTup tNil))) T2)
      (tCall (spSome K) [] E1 (tCons (tVar 1) (tCons (tVar 7) tNil)))
      (tCall (spAny K) [] E2 (tCons (tVar 1) (tCons (tVar 6) (tCons (tC (V.int 7)) tNil)))) σ G Q := by
  have any : ∀ H2, Kp b G H2 → Bag H2 b c → tCall (spAny K) [] E2 (tCons (tVar 1) (tCons (tVar 6) (tCons (tC (V.int 7)) tNil))) σ H2 Q := fun H2 k2 B2 =>
    ⟨.ref b, h1, .int many, h6, b, c, many, 7, rfl, B2, by have := hg.1; omega, by have := hg.2.1; omega, by decide, by decide,
      fun p row H3 k3 B3 ti ln bd => q p row H3 (k2.trans k3) B3 ti ln fun v hv => by have := bd v hv; omega⟩
  refine ⟨.ref r, h7, Nat.zero_le _, fun p0 n0 => ?_⟩
  have k0 : Kp b G (upd G p0 (.tup [])) := Kp.new n0
  have B0 : Bag (upd G p0 (.tup [])) b c := hB.new n0
  have T0 := hT.mono (bag_tk hB k0)
  refine ⟨encRs (bs.map (·.2)), encR [], T0.2.dp, .tup (SqT.of upd_same) .nil, shaped_encRs _, shaped_encR _, ?_⟩
  rw [ne_rows]
  refine ⟨_, rfl, ite2 (fun e => ?_) (fun e => ?_)⟩
  · refine t2 _ _ B0 fun x H3 k3 B3 => ?_
    have e' : bs.map (·.2) ≠ [] := of_decide_eq_true e
    have T3 := T0.mono (bag_tk B0 k3)
    cases x with
    | false => exact any H3 (k0.trans k3) B3
    | true =>
      refine ⟨.ref b, h1, .ref r, h7, b, c, r, _, rfl, B3, .inr T3.2.1, fun z => ?_, ?_, fun v H4 hv k4 B4 => ?_⟩
      · rw [List.map_eq_nil_iff] at z
        rw [z] at e'
        exact e' rfl
      · have := hg.2.2.2.1
        rw [List.length_map] at *
        omega
      · obtain ⟨p, hp, rfl⟩ := List.mem_map.mp hv
        obtain ⟨ρ, eρ, hs⟩ := T3.2.2 p hp
        have gg := hg.2.2.2.2 p.2 (List.mem_map.mpr ⟨p, hp, rfl⟩)
        show Q p.1 H4
        rw [eρ]
        exact q ρ p.2 H4 ((k0.trans k3).trans k4) B4 ⟨ρ, rfl, (bag_tk B3 k4) _ _ _ hs⟩ gg.1 gg.2
  · exact any _ k0 B0
end LW
namespace LW
open PySem PySem.Spec PyProof.Rows L2 GL
theorem shaped_lrows (rs : List (List Int)) : SeqAt.shaped (.list (rs.map encR)) = true := by
  unfold SeqAt.shaped
  rw [PyData.canLay0, lay_rows, PyData.depth, decide_eq_true (show PyData.depthAll (rs.map encR) + 1 ≤ 64 by have := depth_rows rs; omega)]
  rfl
theorem dp_lrows {K : PySem.W.Frag} {H : Hp} {D : Addr} {bs : List (V × List Int)} (h : SqL K H D (bs.map (·.1))) (g : ∀ b ∈ bs, TI K H b.1 b.2) : Dp K H (.ref D) (.list ((bs.map (·.2)).map encR)) := by
  refine .lst h ?_
  rw [List.map_map]
  exact dp_rows g
theorem any_filter {α : Type} (p : α → Bool) : ∀ l : List α, l.any p = decide (l.filter p ≠ [])
  | [] => by simp
  | a :: l => by
    have ih := any_filter p l
    by_cases h : p a = true
    · simp [List.any_cons, h]
    · have h' : p a = false := Bool.eq_false_iff.mpr h
      rw [List.any_cons, h', Bool.false_or, ih, List.filter_cons_of_neg (by simp [h'])]
end LW
namespace LW
open PySem PySem.Spec PyProof.Rows L2 GL
theorem ok_near {t th : Bool} {lo hi : Option Int} (h1 : ∀ i, lo = some i → i.natAbs < 10 ^ 12) (h2 : ∀ i, hi = some i → i.natAbs < 10 ^ 12) :
    Ok 200 2 (.list [.bool t, .tuple [.bool th, oD lo, oD hi]]) := by
  have okt := Ok.tuple ((Ok.bool th).cons' ((ok_oD h1).cons' ((ok_oD h2).cons' (OkAll.nil 0))))
  have okd := Ok.list (((Ok.bool t).mono (Nat.le_refl _) (Nat.zero_le 1)).cons' (okt.cons' (OkAll.nil 1)))
  exact okd.mono (by omega) (Nat.le_refl _)
end LW

namespace LW
open PySem PySem.Spec PyProof.Rows L2 GL

def spLaw (K : PySem.W.Frag) : Sp := fun vs H Q _ => ∃ (a : Addr) (ns : List Int), vs = [.ref a] ∧ SqL K H a (ns.map V.int) ∧ ns.length ≤ 63 ∧ ∀ H', Q (.bl true) H'
abbrev slaw : Stmt := topS 16
theorem sclaw : FnScope ["script", "bag", "turn", "table", "k", "places", "many", "rows", "row", "left", "due", "near", "prefix", "x", "there", "one", "at"] ["script"] (defScope slaw) := ⟨rfl, rfl, rfl, by decide +kernel, rfl, by decide +kernel, by decide +kernel⟩
theorem oklaw {P : Program} {w : World} {K : PySem.W.Frag} {mg : Str → Option Value} {base : Heap} {f0 : Addr} {fd0 : FuncData} (F0 : L2.Fun K "law" "law" slaw f0 fd0) (c__law_alike : Cal P w K mg base 1 "_law_alike" (spAlike K)) (c__law_any_row : Cal P w K mg base 2 "_law_any_row" (spAny K)) (c__law_bag : Cal P w K mg base 1 "_law_bag" (spBag K)) (c__law_mixed : Cal P w K mg base 2 "_law_mixed" (spMixed K)) (c__law_nearest : Cal P w K mg base 1 "_law_nearest" (spNear 60 K)) (c__law_some : Cal P w K mg base 2 "_law_some" (spSome K)) (c__law_some_table : Cal P w K mg base 3 "_law_some_table" (spTab K)) (c__law_take : Cal P w K mg base 1 "_law_take" spTake) (c_has_row : Cal P w K mg base 1 "has_row" (spHas K)) (c_is_there : Cal P w K mg base 1 "is_there" (spThere K)) (c_led_rows : Cal P w K mg base 1 "led_rows" (spLed K)) (c_nearest_by_all : Cal P w K mg base 1 "nearest_by_all" (spNear 900 K)) (c_with_row : Cal P w K mg base 1 "with_row" (spWith K)) (c_without_row : Cal P w K mg base 1 "without_row" (spWithout K)) (m_len : mg "len" = none) (m_list : mg "list" = none) (m_range : mg "range" = none) (m_sorted : mg "sorted" = none) (m_tuple : mg "tuple" = none) :
    Fn0 P w K mg base CX0 4 f0 fd0 ["script"] (spLaw K) := by
  refine fn_mk F0 sclaw (fun vs H Q E h => ?_) (fun f cdv A outer s H vs Q E hG hr h => ?_)
  · obtain ⟨a, ns, rfl, _⟩ := h; rfl
  have nd := sclaw.nd
  obtain ⟨a, ns, rfl, hS, hlen, q⟩ := h
  refine ⟨_, (pss_cons (ps_set (i := 1) nd rfl (.inl rfl) (pe_cg c__law_bag (by exact hG) (by exact hr) (by decide) (by rfl) (pa_cons (pv 0) pa_nil)))
    (pss_cons (ps_for PassesOwn.never rfl (pi_range1 (by rfl) m_range (pa_cons pe_int pa_nil)) (pg_name (i := 2) nd rfl (.inl rfl)) (pss_cons (ps_set (i := 3) nd rfl (.inl rfl) (pe_cg c__law_some_table (by exact hG) (by exact hr) (by decide) (by rfl) (pa_cons (pv 1) (pa_cons pe_int pa_nil))))
    (pss_cons (ps_asg (pv 3) (pg_tup rfl (pgs_cons (pg_name (i := 6) nd rfl (.inl rfl)) (pgs_cons (pg_name (i := 7) nd rfl (.inl rfl)) pgs_nil))))
    (pss_cons (ps_for PassesOwn.never rfl (pi_range1 (by rfl) m_range (pa_cons pe_int pa_nil)) (pg_name (i := 4) nd rfl (.inl rfl)) (C8.pss_cut (ps_set (i := 8) nd rfl (.inr rfl) (pe_ifExp (PW.pt (pw_and (pt_cmpR (op_neD (by exact hr.units) : OpR _ (compareOp .NotEq) (rNeD K)) (pv 7) (pe_tup pa_nil) (nomark _)) (pw_and1 (pt_cmpR op_eq (pe_cg c__law_take (by exact hG) (by exact hr) (by decide) (by rfl) (pa_cons (pv 1) (pa_cons pe_int pa_nil))) pe_int (nomark _))))) (pe_cg c__law_some (by exact hG) (by exact hr) (by decide) (by rfl) (pa_cons (pv 1) (pa_cons (pv 7) pa_nil))) (pe_cg c__law_any_row (by exact hG) (by exact hr) (by decide) (by rfl) (pa_cons (pv 1) (pa_cons (pv 6) (pa_cons pe_int pa_nil))))))
    (pss_cons (ps_set (i := 9) nd rfl (.inl rfl) (pe_callTy (call_tup2 : CallR _ (.type "tuple") (rTupOf K)) (by rfl) m_tuple (by decide +kernel) (pa_cons (pe_lc (own := [("one", 15)]) (g := gName 15) (by rfl) nd (pi_tup (pv 7) : PI _ _ _ (iTup K _)) (blkOk_by (own := [("one", 15)]) (N := ["script", "bag", "turn", "table", "k", "places", "many", "rows", "row", "left", "due", "near", "prefix", "x", "there", "one", "at"]) (sc := (defScope slaw)) (by decide +kernel)) (fun _ _ _ _ _ => (pg_name (i := 15) nd rfl (.inl rfl))) (fun _ _ _ _ _ => (pts_one (pt_cmpR (op_neD (by exact hr.units) : OpR _ (compareOp .NotEq) (rNeD K)) (pv 15) (pv 8) (nomark _)))) (fun _ _ _ _ _ => (pv 15))) pa_nil)))
    (pss_cons (ps_set (i := 10) nd rfl (.inl rfl) (pe_lst (pa_cons (pe_cmpR (op_inTD (by exact units65 hr) : OpR _ (compareOp .In) (rInT K)) (pv 8) (pv 7) (by rfl)) (pa_cons (pe_tup (pa_cons (pv 6) (pa_cons (pe_callTy (call_tup2 : CallR _ (.type "tuple") (rTupOf K)) (by rfl) m_tuple (by decide +kernel) (pa_cons (pe_callB (cr_sortRows rfl (by exact hr.units) : CallR _ (.builtin "sorted") (rSortRows K P w)) (by rfl) m_sorted (by decide +kernel) (pa_cons (pe_op (op_catU : OpR _ (binaryOp .Add) (rCatU K)) (pv 9) (pe_tup (pa_cons (pv 8) pa_nil))) pa_nil)) pa_nil)) pa_nil))) (pa_cons (pe_tup (pa_cons (pv 6) (pa_cons (pv 9) pa_nil))) pa_nil)))))
    (pss_one (ps_if (pt_not (pt_val (pe_cg c__law_alike (by exact hG) (by exact hr) (by decide) (by rfl) (pa_cons (pe_lst (pa_cons (pe_cg c_has_row (by exact hG) (by exact hr) (by decide) (by rfl) (pa_cons (pv 3) (pa_cons (pv 8) pa_nil))) (pa_cons (pe_cg c_with_row (by exact hG) (by exact hr) (by decide) (by rfl) (pa_cons (pv 3) (pa_cons (pv 8) pa_nil))) (pa_cons (pe_cg c_without_row (by exact hG) (by exact hr) (by decide) (by rfl) (pa_cons (pv 3) (pa_cons (pv 8) pa_nil))) pa_nil)))) (pa_cons (pv 10) pa_nil))))) (pss_one (ps_ret pe_bl)) pss_nil))))))
    (pss_cons (ps_set (i := 5) nd rfl (.inr rfl) (pe_callTy (call_tup2 : CallR _ (.type "tuple") (rTupOf K)) (by rfl) m_tuple (by decide +kernel) (pa_cons (pe_cg c__law_mixed (by exact hG) (by exact hr) (by decide) (by rfl) (pa_cons (pv 1) (pa_cons (pe_listRg rfl (by rfl) m_list (prg_1 (by rfl) m_range (pv 6))) pa_nil))) pa_nil)))
    (pss_cons (ps_if (pt_not (pt_val (pe_cg c__law_alike (by exact hG) (by exact hr) (by decide) (by rfl) (pa_cons (pe_cg c_led_rows (by exact hG) (by exact hr) (by decide) (by rfl) (pa_cons (pv 3) (pa_cons (pv 5) pa_nil))) (pa_cons (pe_callTy (call_tup2 : CallR _ (.type "tuple") (rTupOf K)) (by rfl) m_tuple (by decide +kernel) (pa_cons (pe_callB (cr_sortRows rfl (by exact hr.units) : CallR _ (.builtin "sorted") (rSortRows K P w)) (by rfl) m_sorted (by decide +kernel) (pa_cons (pe_lc (own := [("row", 8)]) (g := gName 8) (tt := tYes) (by rfl) nd (pi_tup (pv 7) : PI _ _ _ (iTup K _)) (blkOk_by (own := [("row", 8)]) (N := ["script", "bag", "turn", "table", "k", "places", "many", "rows", "row", "left", "due", "near", "prefix", "x", "there", "one", "at"]) (sc := (defScope slaw)) (by decide +kernel)) (fun _ _ _ _ _ => (pg_name (i := 8) nd rfl (.inr rfl))) (fun _ _ _ _ _ => pts_nil) (fun _ _ _ _ _ => (pe_callTy (call_tup2 : CallR _ (.type "tuple") (rTupOf K)) (by rfl) m_tuple (by decide +kernel) (pa_cons (pe_lc (own := [("at", 16)]) (g := gName 16) (tt := tYes) (by rfl) nd (pi_tup (pv 5) : PI _ _ _ (iTup K _)) (blkOk_by (own := [("at", 16)]) (N := ["script", "bag", "turn", "table", "k", "places", "many", "rows", "row", "left", "due", "near", "prefix", "x", "there", "one", "at"]) (sc := (relS _ (defScope slaw))) (by decide +kernel)) (fun _ _ _ _ _ => (pg_name (i := 16) nd rfl (.inl rfl))) (fun _ _ _ _ _ => pts_nil) (fun _ _ _ _ _ => (pe_ix (ix_tup : IxR _ (rIxT K)) (pv 8) (pv 16) (fun _ _ => rfl)))) pa_nil)))) pa_nil)) pa_nil)) pa_nil))))) (pss_one (ps_ret pe_bl)) pss_nil)
    (pss_one (ps_for PassesOwn.never rfl (pi_range1 (by rfl) m_range (pa_cons pe_int pa_nil)) (pg_name (i := 4) nd rfl (.inl rfl)) (C8.pss_cut (ps_set (i := 11) nd rfl (.inl rfl) (pe_ifExp (PW.pt (pw_and (pt_cmpR (op_neD (by exact hr.units) : OpR _ (compareOp .NotEq) (rNeD K)) (pv 7) (pe_tup pa_nil) (nomark _)) (pw_and1 (pt_cmpR op_gt (pe_cg c__law_take (by exact hG) (by exact hr) (by decide) (by rfl) (pa_cons (pv 1) (pa_cons pe_int pa_nil))) pe_int (nomark _))))) (pe_cg c__law_some (by exact hG) (by exact hr) (by decide) (by rfl) (pa_cons (pv 1) (pa_cons (pv 7) pa_nil))) (pe_cg c__law_any_row (by exact hG) (by exact hr) (by decide) (by rfl) (pa_cons (pv 1) (pa_cons (pv 6) (pa_cons pe_int pa_nil))))))
    (pss_cons (ps_set (i := 12) nd rfl (.inr rfl) (pe_slice (sl_tupU : SlR _ (rSlU K)) (pv 11) po_none (po_some (pe_cg c__law_take (by exact hG) (by exact hr) (by decide) (by rfl) (pa_cons (pv 1) (pa_cons (pv 6) pa_nil))))))
    (pss_cons (ps_set (i := 13) nd rfl (.inl rfl) (pe_cg c__law_some (by exact hG) (by exact hr) (by decide) (by rfl) (pa_cons (pv 1) (pa_cons (pe_lst (pa_cons pe_non (pa_cons (pe_ix (ix_tup : IxR _ (rIxT K)) (pv 11) (pe_callB (call_len2 : CallR _ (.builtin "len") (rLen2 K)) (by rfl) m_len PySem.boot_len (pa_cons (pv 12) pa_nil)) (fun _ _ => rfl)) (pa_cons (pe_op op_add (pe_ix (ix_tup : IxR _ (rIxT K)) (pv 11) (pe_callB (call_len2 : CallR _ (.builtin "len") (rLen2 K)) (by rfl) m_len PySem.boot_len (pa_cons (pv 12) pa_nil)) (fun _ _ => rfl)) pe_int) (pa_cons (pe_cg c__law_take (by exact hG) (by exact hr) (by decide) (by rfl) (pa_cons (pv 1) (pa_cons pe_int pa_nil))) (pa_cons (pe_un un_neg pe_int) (pa_cons (pe_op op_sub (pe_op op_pow pe_int pe_int) pe_int) pa_nil))))))) pa_nil))))
    (C8.pss_cut (ps_set (i := 14) nd rfl (.inl rfl) (pe_or (pe_cmpR (op_eqD (by exact hr.units) : OpR _ (compareOp .Eq) (rEqD K)) (pv 12) (pe_tup pa_nil) (nomark _)) (pe_one (pe_cmpR (op_neD (by exact hr.units) : OpR _ (compareOp .NotEq) (rNeD K)) (pe_lc (own := [("row", 8)]) (g := gName 8) (by rfl) nd (pi_tup (pv 7) : PI _ _ _ (iTup K _)) (blkOk_by (own := [("row", 8)]) (N := ["script", "bag", "turn", "table", "k", "places", "many", "rows", "row", "left", "due", "near", "prefix", "x", "there", "one", "at"]) (sc := (defScope slaw)) (by decide +kernel)) (fun _ _ _ _ _ => (pg_name (i := 8) nd rfl (.inl rfl))) (fun _ _ _ _ _ => (pts_one (pt_cmpR (op_eqD (by exact hr.units) : OpR _ (compareOp .Eq) (rEqD K)) (pe_slice (sl_tupU : SlR _ (rSlU K)) (pv 8) po_none (po_some (pe_callB (call_len2 : CallR _ (.builtin "len") (rLen2 K)) (by rfl) m_len PySem.boot_len (pa_cons (pv 12) pa_nil)))) (pv 12) (nomark _)))) (fun _ _ _ _ _ => (pv 8))) (pe_lst pa_nil) (nomark _)))))
    (pss_one (ps_if (pt_not (pt_val (pe_cg c__law_alike (by exact hG) (by exact hr) (by decide) (by rfl) (pa_cons (pe_lst (pa_cons (pe_cg c_is_there (by exact hG) (by exact hr) (by decide) (by rfl) (pa_cons (pv 7) (pa_cons (pv 12) pa_nil))) (pa_cons (pe_cg c_nearest_by_all (by exact hG) (by exact hr) (by decide) (by rfl) (pa_cons (pv 7) (pa_cons (pv 12) (pa_cons (pv 13) pa_nil)))) pa_nil))) (pa_cons (pe_lst (pa_cons (pv 14) (pa_cons (pe_cg c__law_nearest (by exact hG) (by exact hr) (by decide) (by rfl) (pa_cons (pv 7) (pa_cons (pv 12) (pa_cons (pv 13) pa_nil)))) pa_nil))) pa_nil))))) (pss_one (ps_ret pe_bl)) pss_nil))))))))))))))
    (pss_one (ps_ret pe_bl)))), ?_⟩
  refine ⟨.ref a, rfl, a, ns, rfl, hS, hlen, fun b c H1 k1 nb nc hB => ?_⟩
  clear hS hlen k1 nb nc
  refine ⟨4, rfl, by decide, by decide, ?_⟩
  refine for_range (n := 4) (fun _ σ G => (∃ (y2 : Option V) (y3 : Option V) (y4 : Option V) (y5 : Option V) (y6 : Option V) (y7 : Option V) (y8 : Option V) (y9 : Option V) (y10 : Option V) (y11 : Option V) (y12 : Option V) (y13 : Option V) (y14 : Option V) (y15 : Option V) (y16 : Option V), σ = [some (.ref a), some (.ref b), y2, y3, y4, y5, y6, y7, y8, y9, y10, y11, y12, y13, y14, y15, y16]) ∧ Bag G b c) ⟨⟨_, _, _, _, _, _, _, _, _, _, _, _, _, _, _, rfl⟩, hB⟩ (fun _ σ G _ hp => ?_) (fun σ G hp => ?_)
  · clear hB
    obtain ⟨⟨y2, y3, y4, y5, y6, y7, y8, y9, y10, y11, y12, y13, y14, y15, y16, rfl⟩, hB⟩ := hp
    refine ⟨.ref b, rfl, b, c, 12, rfl, hB, by decide, fun t r many bs G1 k1 hB1 hT hg => ?_⟩
    refine ⟨.ref t, rfl, t, _, rfl, hT.1, rfl, .int many, [.ref r], rfl, .ref r, [], rfl, rfl, ?_⟩
    refine ⟨4, rfl, by decide, by decide, ?_⟩
    refine for_range (n := 4) (fun _ σ G => (∃ (y2 : Option V) (y4 : Option V) (y5 : Option V) (y8 : Option V) (y9 : Option V) (y10 : Option V) (y11 : Option V) (y12 : Option V) (y13 : Option V) (y14 : Option V) (y15 : Option V) (y16 : Option V), σ = [some (.ref a), some (.ref b), y2, some (.ref t), y4, y5, some (.int many), some (.ref r), y8, y9, y10, y11, y12, y13, y14, y15, y16]) ∧ Bag G b c ∧ TabAt K G t many r bs) ⟨⟨_, _, _, _, _, _, _, _, _, _, _, _, rfl⟩, hB1, hT⟩ (fun _ σ G _ hp => ?_) (fun σ G hp => ?_)
    · clear hB hB1 hT k1
      obtain ⟨⟨y2, y4, y5, y8, y9, y10, y11, y12, y13, y14, y15, y16, rfl⟩, hB, hT⟩ := hp
      refine ⟨fun σ G => ∃ (ρ : Addr) (row : List Int), (∃ (y2 : Option V) (y4 : Option V) (y5 : Option V) (y9 : Option V) (y10 : Option V) (y11 : Option V) (y12 : Option V) (y13 : Option V) (y14 : Option V) (y15 : Option V) (y16 : Option V), σ = [some (.ref a), some (.ref b), y2, some (.ref t), y4, y5, some (.int many), some (.ref r), some (.ref ρ), y9, y10, y11, y12, y13, y14, y15, y16]) ∧ Bag G b c ∧ TabAt K G t many r bs ∧ TI K G (.ref ρ) row ∧ row.length = many.toNat ∧ ∀ v ∈ row, -1 ≤ v ∧ v < 12, ?_, ?_⟩
      · exact some_row hB hT hg rfl rfl rfl (fun H2 Q2 B2 k => ⟨.ref b, rfl, b, c, 2, rfl, B2, by decide, by decide, fun x H3 k3 B3 _ _ => ⟨rfl, _, rfl, k _ H3 k3 B3⟩⟩)
          (fun ρ row G' k B' ti lr br => ⟨ρ, row, ⟨_, _, _, _, _, _, _, _, _, _, _, rfl⟩, B', hT.mono (bag_tk hB k), ti, lr, br⟩)
      · rintro σ G ⟨ρ, row, ⟨y2, y4, y5, y9, y10, y11, y12, y13, y14, y15, y16, rfl⟩, hB, hT, hro, lro, bro⟩
        have hm1 := hg.1
        have hm4 := hg.2.1
        have lbs : bs.length ≤ 12 := by have := hg.2.2.2.1; rw [List.length_map] at this; exact this
        have sm := goodT_small hg
        have rne : row ≠ [] := fun z => by rw [z] at lro; have z2 : (0 : Nat) = many.toNat := lro; omega
        have bne : ∀ p ∈ bs, p.2 ≠ [] := fun p hp z => by
          have := (hg.2.2.2.2 p.2 (List.mem_map.mpr ⟨p, hp, rfl⟩)).1
          rw [z] at this
          have z2 : (0 : Nat) = many.toNat := this
          omega
        refine ⟨.ref r, rfl, r, rfl, ⟨_, hT.2.1⟩, fun D nD => ?_⟩
        refine lcg_tup (K := K) (Y := YP K) (out := fun i => (bs[i]?).bind fun b => if decide (b.2 ≠ row) then some b else none) (LcG.pure nD) YP.mono hT.2.1 (by rw [List.length_map]; omega) (fun i x H1 hx k1 _ => ?_) (fun H1 acc bs' k1 _ hD ea eb => ?_)
        · obtain ⟨p, hb, rfl, hm⟩ := get_fst hx
          intro Qe Qn hE hN
          have hb1 := (hT.2.2 p hm).mono (TupK.same k1)
          obtain ⟨ρ', eρ, hs⟩ := hro
          cases eρ
          refine ⟨rfl, p.1, rfl, .ref ρ, rfl, encR p.2, encR row, hb1.dp, TI.dp (⟨ρ, rfl, (TupK.same k1) _ _ _ hs⟩ : TI K _ (.ref ρ) row), shaped_encR _, shaped_encR _, ?_⟩
          rw [eqv_encR]
          refine ⟨_, rfl, ite2 (fun e => ?_) (fun e => ?_)⟩
          · have e' : p.2 ≠ row := by simpa using e
            exact ⟨p.1, rfl, hE p.1 H1 p (by simp [hb, e']) (Same.refl _) trivial ⟨rfl, hb1⟩⟩
          · have e' : p.2 = row := by simpa using e
            exact hN H1 (by simp [hb, e']) (Same.refl _) trivial
        · rw [List.length_map, fm_all] at eb
          obtain ⟨e1, e2⟩ := yp_all ea
          subst e1
          have eF : bs'.map (·.2) = (bs.map (·.2)).filter fun r => decide (r ≠ row) := by
            rw [eb]
            have : ∀ l : List (V × List Int), (l.filterMap fun b => if decide (b.2 ≠ row) then some b else none).map (·.2) = (l.map (·.2)).filter fun r => decide (r ≠ row) := by
              intro l
              induction l with
              | nil => rfl
              | cons c l ih =>
                by_cases z : c.2 = row
                · simpa [List.filterMap_cons, z] using ih
                · simpa [List.filterMap_cons, z] using ih
            exact this bs
          have lF : bs'.length ≤ 12 := by rw [eb]; exact Nat.le_trans (List.length_filterMap_le _ _) lbs
          clear eb ea
          refine ⟨D, _, rfl, .inl (SqL.of hD), fun p4 H4 k4 s4 => ?_⟩
          have hT4 := hT.mono (TupK.same (k1.trans k4))
          have hr4 := hro.mono (TupK.same (k1.trans k4))
          have hB4 := hB.same (k1.trans k4)
          have hF4 : RowsAt K H4 p4 bs' := ⟨s4, fun p hp => (e2 p hp).mono (TupK.same k4)⟩
          clear hT hro hB s4 e2 hD k4 k1 nD
          refine ⟨.ref ρ, rfl, .ref r, rfl, encR row, _, hr4.dp, hT4.2.dp, shaped_encR _, shaped_encRs _, ?_⟩
          rw [any_encR]
          refine ⟨.int many, rfl, .ref p4, rfl, .ref ρ, rfl, (by show 1 ≤ sizeLine; decide), fun p5 n5 => ?_⟩
          obtain ⟨ρ', eρ, hs4⟩ := hr4
          cases eρ
          have tk5 : TupK H4 (upd H4 p5 (.tup [.ref ρ])) := TupK.new n5 _
          refine ⟨p4, p5, _, _, rfl, rfl, tk5 _ _ _ hF4.1, SqT.of upd_same, (by rw [List.length_map]; exact small1000 (show bs'.length ≤ 1000 by omega)), fun p6 H6 k6 s6 => ?_⟩
          have tk6 := tk5.trans (TupK.same k6)
          have hcs : ∀ p ∈ bs' ++ [(V.ref ρ, row)], TI K H6 p.1 p.2 ∧ p.2 ≠ [] := by
            intro p hp
            rcases List.mem_append.mp hp with hp | hp
            · refine ⟨(hF4.2 p hp).mono tk6, ?_⟩
              have : p.2 ∈ bs'.map (·.2) := List.mem_map.mpr ⟨p, hp, rfl⟩
              rw [eF] at this
              obtain ⟨p', hp', e⟩ := List.mem_map.mp (List.mem_filter.mp this).1
              rw [← e]
              exact bne p' hp'
            · rw [List.mem_singleton.mp hp]
              exact ⟨⟨ρ, rfl, tk6 _ _ _ hs4⟩, rne⟩
          refine ⟨p6, bs' ++ [(V.ref ρ, row)], rfl, .inr (.inl (by rw [List.map_append]; exact s6)), fun p hp => ti_row (hcs p hp).1 (hcs p hp).2, fun p7 bs3 n7 pm pw => ?_⟩
          refine ⟨p7, _, rfl, .inl (SqL.of upd_same), fun p8 H8 k8 s8 => ?_⟩
          refine ⟨by show 2 ≤ sizeLine; decide, fun p9 n9 => ?_⟩
          have K9 : Same H4 (upd H8 p9 (.tup [.int many, .ref p8])) := ((((put_new n5 _).trans k6).trans (put_new n7 _)).trans k8).trans (put_new n9 _)
          have T9 : TabAt K (upd H8 p9 (.tup [.int many, .ref p8])) p9 many p8 bs3 := ⟨SqT.of upd_same, (TupK.new n9 _) _ _ _ s8, fun p hp => ((hcs p (pm.mem_iff.mp hp)).1).mono (TupK.same (((put_new n7 _).trans k8).trans (put_new n9 _)))⟩
          generalize upd H8 p9 (.tup [.int many, .ref p8]) = G9 at *
          have pmS : (bs3.map (·.2)).Perm ((bs.map (·.2)).filter (fun r => decide (r ≠ row)) ++ [row]) := by
            have := pm.map (·.2)
            rw [List.map_append, eF] at this
            exact this
          have lS : bs3.length ≤ 13 := by rw [pm.length_eq, List.length_append]; show bs'.length + 1 ≤ 13; omega
          have smS : SmallR (bs3.map (·.2)) := fun r hr => by
            rcases List.mem_append.mp (pmS.mem_iff.mp hr) with h | h
            · exact sm r (List.mem_filter.mp h).1
            · rw [List.mem_singleton.mp h]
              exact ⟨by omega, bro⟩
          have smF : SmallR (bs'.map (·.2)) := fun r hr => by
            rw [eF] at hr
            exact sm r (List.mem_filter.mp hr).1
          clear s8 pm hcs s6 tk6 tk5 n5 n7 n9 k6 k8
          refine ⟨.int many, rfl, .ref p4, rfl, (by show 2 ≤ sizeLine; decide), fun p10 n10 => ?_⟩
          have T10 : TabAt K (upd G9 p10 (.tup [.int many, .ref p4])) p10 many p4 bs' := ⟨SqT.of upd_same, (hF4.mono (TupK.same (K9.trans (put_new n10 _))))⟩
          have T9' := T9.mono (TupK.new (o := .tup [.int many, .ref p4]) n10)
          have K10 := K9.trans (put_new n10 (.tup [.int many, .ref p4]))
          generalize upd G9 p10 (.tup [.int many, .ref p4]) = G10 at *
          refine ⟨by show 3 ≤ sizeLine; decide, fun l nl => ?_⟩
          have hl : upd G10 l (.lst [.bl (decide (row ∈ bs.map (·.2))), .ref p9, .ref p10]) l = some (.lst [.bl (decide (row ∈ bs.map (·.2))), .ref p9, .ref p10]) := upd_same
          have T10' := T10.mono (TupK.new (o := .lst [.bl (decide (row ∈ bs.map (·.2))), .ref p9, .ref p10]) nl)
          have T9'' := T9'.mono (TupK.new (o := .lst [.bl (decide (row ∈ bs.map (·.2))), .ref p9, .ref p10]) nl)
          have K11 := K10.trans (put_new nl (.lst [.bl (decide (row ∈ bs.map (·.2))), .ref p9, .ref p10]))
          generalize upd G10 l (.lst [.bl (decide (row ∈ bs.map (·.2))), .ref p9, .ref p10]) = G11 at *
          clear T10 T9 T9' K10 K9 n10 nl
          have hT11 := hT4.mono (TupK.same K11)
          have hr11 : TI K G11 (.ref ρ) row := ⟨ρ, rfl, (TupK.same K11) _ _ _ hs4⟩
          have hB11 := hB4.same K11
          refine ⟨.ref t, rfl, .ref ρ, rfl, t, r, ρ, many, bs, row, rfl, hT11, hr11, ?_⟩
          refine ⟨.ref t, rfl, .ref ρ, rfl, t, r, ρ, many, bs, row, rfl, hT11, hr11, rne, bne, by omega, fun t2 a2 bs2 H12 k12 T12 R12 => ?_⟩
          have eW := with_eq hg.2.2.1 R12 pw pmS
          have hT12 := hT11.mono (TupK.same k12)
          refine ⟨.ref t, rfl, .ref ρ, rfl, t, r, ρ, many, bs, row, rfl, hT12, hr11.mono (TupK.same k12), by omega, fun t3 a3 bs4 H13 k13 T13 R13 => ?_⟩
          refine ⟨by show 3 ≤ sizeLine; decide, fun l2 nl2 => ?_⟩
          have kk := k12.trans (k13.trans (put_new nl2 (.lst [.bl (decide (row ∈ bs.map (·.2))), .ref t2, .ref t3])))
          have oks := okT (many := many) hm1 hm4 (show (bs3.map (·.2)).length ≤ 20 by rw [List.length_map]; omega) smS
          have okf := okT (many := many) hm1 hm4 (show (bs'.map (·.2)).length ≤ 20 by rw [List.length_map]; omega) smF
          have okd := Ok.list (((Ok.bool (decide (row ∈ bs.map (·.2)))).mono (Nat.le_refl _) (Nat.zero_le 3)).cons' (oks.cons' (okf.cons' (OkAll.nil 3))))
          refine ⟨.ref l, rfl, l2, l, .list [.bool (decide (row ∈ bs.map (·.2))), encT many (bs3.map (·.2)), encT many (bs'.map (·.2))], rfl, ?_, ?_, okd.shaped (by decide), okd.shows (by decide) (by decide), ?_⟩
          · refine .lst (SqL.of upd_same) (.cons (.bl _) (.cons ?_ (.cons ?_ .nil)))
            · rw [← eW]
              exact (T12.mono (TupK.same (k13.trans (put_new nl2 _)))).dp
            · rw [eF, ← R13]
              exact (T13.mono (TupK.new nl2 _)).dp
          · exact .lst (SqL.of (kk _ _ hl)) (.cons (.bl _) (.cons (T9''.mono (TupK.same kk)).dp (.cons (T10'.mono (TupK.same kk)).dp .nil)))
          · exact ⟨_, rfl, ⟨_, _, _, _, _, _, _, _, _, _, _, _, rfl⟩, hB11.same kk, hT11.mono (TupK.same kk)⟩
    · clear hB hB1 hT k1
      obtain ⟨⟨y2, y4, y5, y8, y9, y10, y11, y12, y13, y14, y15, y16, rfl⟩, hB, hT⟩ := hp
      have hm1 := hg.1
      have hm4 := hg.2.1
      have lbs : bs.length ≤ 12 := by have := hg.2.2.2.1; rw [List.length_map] at this; exact this
      have sm := goodT_small hg
      have wid : ∀ p ∈ bs, p.2.length = many.toNat := fun p hp => (hg.2.2.2.2 p.2 (List.mem_map.mpr ⟨p, hp, rfl⟩)).1
      refine ⟨.ref b, rfl, .int many, rfl, many, rfl, ⟨by decide, by decide, by omega, by omega, by omega⟩, fun l nl => ?_⟩
      have lrg : (rgV 0 many).length = many.toNat := by unfold rgV; rw [List.length_map, List.length_range]; omega
      refine ⟨b, c, l, rgV 0 many, rfl, hB.new nl, SqL.of upd_same, bag_nen hB nl, by rw [lrg]; omega, fun p ys H' pm k hB' np hp' => ?_⟩
      refine ⟨p, ys, rfl, .inl (SqL.of hp'), fun p2 H2 k2 s2 => ?_⟩
      obtain ⟨ps0, eps, pms⟩ := perm_lift (fun i : Nat => V.int (0 + (i : Nat))) ys (List.range (many - 0).toNat) pm
      obtain ⟨ps, hps⟩ : ∃ ps : List Int, ps = ps0.map fun i : Nat => (0 + (i : Int)) := ⟨_, rfl⟩
      have eys : ys = ps.map V.int := by rw [← eps, hps, List.map_map]; rfl
      have lps : ps.length = many.toNat := by
        rw [hps, List.length_map, pms.length_eq, List.length_range]; omega
      have inps : ∀ q ∈ ps, 0 ≤ q ∧ q.toNat < many.toNat := by
        intro q hq
        rw [hps] at hq
        obtain ⟨i, hi, rfl⟩ := List.mem_map.mp hq
        have := List.mem_range.mp (pms.mem_iff.mp hi)
        omega
      have psn : ps ≠ [] := fun z => by rw [z] at lps; have z2 : (0 : Nat) = many.toNat := lps; omega
      rw [eys] at s2
      have K2' : Kp b G H2 := ((Kp.new nl).trans k).trans (Kp.of k2)
      have hT2 := hT.mono (bag_tk hB K2')
      have hB2 := hB'.same k2
      clear pms eps hps hp' hB' hT k k2 np pm eys K2' nl
      have hti : TI K H2 (.ref p2) ps := ⟨p2, rfl, s2⟩
      refine ⟨.ref t, rfl, .ref p2, rfl, t, r, p2, many, bs, ps, rfl, hT2, hti, psn, fun q hq => ⟨(inps q hq).1, fun u hu => by rw [wid u hu]; exact (inps q hq).2⟩, by omega, by omega, fun p3 cs1 H3 k3 R1 pw1 pm1 => ?_⟩
      have hT3 := hT2.mono (TupK.same k3)
      have hB3 := hB2.same k3
      have hπ3 := (TupK.same k3) _ _ _ s2
      clear hT2 hB2 s2 hti hB
      refine ⟨.ref r, rfl, r, rfl, ⟨_, hT3.2.1⟩, fun D nD => ?_⟩
      refine lcg_tup (K := K) (Y := TI K) (out := fun i => (bs[i]?).bind fun b => some (pick ps b.2)) (LcG.pure nD) (fun _ _ _ _ k h => h.mono k) hT3.2.1 (by rw [List.length_map]; omega) (fun i x H1 hx k1 _ => ?_) (fun H1 acc rs k1 _ hD ea eb => ?_)
      · obtain ⟨u, hb, rfl, hm⟩ := get_fst hx
        intro Qe Qn hE hN
        obtain ⟨tb, eb, hb1⟩ := (hT3.2.2 u hm).mono (TupK.same k1)
        have hπ1 := (TupK.same k1) _ _ _ hπ3
        refine ⟨rfl, .ref p2, rfl, p2, rfl, ⟨_, hπ1⟩, fun D2 n2 => ?_⟩
        refine lcg_tup (K := K) (Y := YI) (out := fun j => (ps[j]?).bind fun p => some (u.2.getD p.toNat 0)) (LcG.pure n2) (fun _ _ _ _ _ h => h) hπ1 (by rw [List.length_map]; omega) (fun j y H2 hy k2 _ => ?_) (fun H2 acc2 js k2 _ hD2 ea2 eb2 => ?_)
        · rw [List.getElem?_map] at hy
          obtain ⟨q1, hp, rfl⟩ := Option.map_eq_some_iff.mp hy
          obtain ⟨p0, p1⟩ := inps q1 (List.mem_of_getElem? hp)
          have pl : q1.toNat < u.2.length := by rw [wid u hm]; exact p1
          intro Re Rn hE2 hN2
          have hat : atI (u.2.map V.int) ((q1.toNat : Nat) : Int) = some (.int (u.2.getD q1.toNat 0)) := atI_nat (by
            rw [List.getElem?_map, List.getElem?_eq_getElem pl]
            simp [List.getD_eq_getElem?_getD, List.getElem?_eq_getElem pl])
          rw [show ((q1.toNat : Nat) : Int) = q1 by omega] at hat
          exact ⟨rfl, u.1, rfl, .int q1, rfl, tb, _, q1, .int (u.2.getD q1.toNat 0), eb, rfl, (TupK.same k2) _ _ _ hb1, hat, hE2 _ H2 _ (by simp [hp]) (Same.refl _) trivial rfl⟩
        · rw [List.length_map, fm_all] at eb2
          have e2 := yi_all ea2
          subst e2
          refine ⟨D2, _, rfl, .inl (SqL.of hD2), fun p4 H4 k4 s4 => hE _ H4 (pick ps u.2) (by simp [hb]) (k2.trans k4) trivial ⟨p4, rfl, ?_⟩⟩
          have : js = pick ps u.2 := by
            rw [eb2]
            unfold pick
            exact List.filterMap_eq_map ▸ rfl
          rw [← this]
          exact s4
      · rw [List.length_map, fm_all] at eb
        have eb' : rs = (bs.map (·.2)).map (pick ps) := by
          rw [eb, List.map_map]
          exact List.filterMap_eq_map ▸ rfl
        obtain ⟨cs, e1, e2, e3⟩ := ti_zip ea
        subst e1
        have ne : ∀ u ∈ cs, u.2 ≠ [] := by
          intro u hb z
          have : u.2 ∈ rs := by rw [e2]; exact List.mem_map.mpr ⟨u, hb, rfl⟩
          rw [eb'] at this
          obtain ⟨r, _, er⟩ := List.mem_map.mp this
          rw [z] at er
          exact psn (List.map_eq_nil_iff.mp er)
        refine ⟨D, cs, rfl, .inl (SqL.of hD), fun u hb => ti_row (e3 u hb) (ne u hb), fun p5 cs2 n5 pm2 pw2 => ?_⟩
        refine ⟨p5, _, rfl, .inl (SqL.of upd_same), fun p6 H6 k6 s6 => ?_⟩
        have k5 := (put_new n5 (.lst (cs2.map (·.1)))).trans k6
        have kk := k1.trans k5
        have R2 : RowsAt K H6 p6 cs2 := ⟨s6, fun u hu => (e3 u (pm2.mem_iff.mp hu)).mono (TupK.same k5)⟩
        have pm3 : (cs2.map (·.2)).Perm ((bs.map (·.2)).map (pick ps)) := by
          rw [← eb', e2]
          exact pm2.map _
        have e12 := K2.sorted_unique pw1 pw2 (pm1.trans pm3.symm)
        have smP : SmallR (cs2.map (·.2)) := fun x hx => by
          obtain ⟨y, hy, rfl⟩ := List.mem_map.mp (pm3.mem_iff.mp hx)
          have ly : y.length = many.toNat := (hg.2.2.2.2 y hy).1
          refine ⟨by unfold pick; rw [List.length_map]; omega, fun v hv => ?_⟩
          obtain ⟨i, hi, rfl⟩ := List.mem_map.mp hv
          have il : i.toNat < y.length := by rw [ly]; exact (inps i hi).2
          refine (sm y hy).2 _ ?_
          rw [List.getD_eq_getElem?_getD, List.getElem?_eq_getElem il]
          exact List.getElem_mem _
        have lP : (cs2.map (·.2)).length ≤ 20 := by rw [pm3.length_eq, List.length_map, List.length_map]; omega
        have okp := okR lP smP
        refine ⟨p3, p6, encRs (cs2.map (·.2)), rfl, by rw [← e12]; exact (R1.mono (TupK.same kk)).dp, R2.dp, okp.shaped (by decide), okp.shows (by decide) (by decide), ?_⟩
        have hT6 := hT3.mono (TupK.same kk)
        have hB6 := hB3.same kk
        clear ea eb e3 hD R1 R2 s6 k5 kk k1 k3 hT3 hB3 hπ3 k6 n5 nD
        refine ⟨_, rfl, ?_⟩
        refine ⟨8, rfl, by decide, by decide, ?_⟩
        refine for_range (n := 8) (fun _ σ G => (∃ (y2 : Option V) (y4 : Option V) (y5 : Option V) (y8 : Option V) (y9 : Option V) (y10 : Option V) (y11 : Option V) (y12 : Option V) (y13 : Option V) (y14 : Option V) (y15 : Option V) (y16 : Option V), σ = [some (.ref a), some (.ref b), y2, some (.ref t), y4, y5, some (.int many), some (.ref r), y8, y9, y10, y11, y12, y13, y14, y15, y16]) ∧ Bag G b c ∧ TabAt K G t many r bs) ⟨⟨_, _, _, _, _, _, _, _, _, _, _, _, rfl⟩, hB6, hT6⟩ (fun _ σ G _ hp => ?_) (fun σ G hp => ?_)
        · clear hB6 hT6
          obtain ⟨⟨y2, y4, y5, y8, y9, y10, y11, y12, y13, y14, y15, y16, rfl⟩, hB, hT⟩ := hp
          refine ⟨fun σ G => ∃ (ν : Addr) (near : List Int), (∃ (y2 : Option V) (y4 : Option V) (y5 : Option V) (y8 : Option V) (y9 : Option V) (y10 : Option V) (y12 : Option V) (y13 : Option V) (y14 : Option V) (y15 : Option V) (y16 : Option V), σ = [some (.ref a), some (.ref b), y2, some (.ref t), y4, y5, some (.int many), some (.ref r), y8, y9, y10, some (.ref ν), y12, y13, y14, y15, y16]) ∧ Bag G b c ∧ TabAt K G t many r bs ∧ TI K G (.ref ν) near ∧ near.length = many.toNat ∧ ∀ v ∈ near, -1 ≤ v ∧ v < 12, ?_, ?_⟩
          · exact some_row hB hT hg rfl rfl rfl (fun H2 Q2 B2 k => ⟨.ref b, rfl, b, c, 3, rfl, B2, by decide, by decide, fun x H3 k3 B3 _ _ => ⟨x, 0, rfl, rfl, _, rfl, k _ H3 k3 B3⟩⟩)
              (fun ρ row G' k B' ti lr br => ⟨ρ, row, ⟨_, _, _, _, _, _, _, _, _, _, _, rfl⟩, B', hT.mono (bag_tk hB k), ti, lr, br⟩)
          · clear hB hT
            rintro σ G ⟨ν, near, ⟨y2, y4, y5, y8, y9, y10, y12, y13, y14, y15, y16, rfl⟩, hB, hT, hn, ln, bn⟩
            obtain ⟨ν', eν, hν⟩ := hn
            cases eν
            refine ⟨.ref ν, rfl, .ref b, rfl, .int many, rfl, b, c, many, rfl, hB, by omega, by omega, fun z G2 k2 B2 z0 z1 => ?_⟩
            refine ⟨z, rfl, ν, _, rfl, (bag_tk hB k2) _ _ _ hν, fun p2 G3 k3 s3 => ?_⟩
            obtain ⟨zn, rfl⟩ : ∃ n : Nat, z = (n : Int) := ⟨z.toNat, by omega⟩
            rw [cut_take, ← List.map_take] at s3
            obtain ⟨pre, hpre⟩ : ∃ pre, pre = near.take zn := ⟨_, rfl⟩
            have lpre : pre.length = zn := by rw [hpre, List.length_take]; omega
            rw [← hpre] at s3
            have T3 := hT.mono ((bag_tk hB k2).trans (TupK.same k3))
            have N3 := (TupK.same k3) _ _ _ ((bag_tk hB k2) _ _ _ hν)
            have B3 := B2.same k3
            clear hT hν hB k2 k3 B2
            have hat : atI (near.map V.int) (((pre.map V.int).length : Nat) : Int) = some (.int (near.getD zn 0)) := atI_nat (by
              have pl : zn < near.length := by omega
              rw [List.length_map, lpre, List.getElem?_map, List.getElem?_eq_getElem pl]
              simp [List.getD_eq_getElem?_getD, List.getElem?_eq_getElem pl])
            refine ⟨.ref b, rfl, .ref ν, rfl, .ref p2, rfl, p2, _, rfl, .inr s3, ν, _, _, .int (near.getD zn 0), rfl, rfl, N3, hat, ?_⟩
            refine ⟨.ref ν, rfl, .ref p2, rfl, p2, _, rfl, .inr s3, ν, _, _, .int (near.getD zn 0), rfl, rfl, N3, hat, near.getD zn 0, 1, rfl, rfl, ?_⟩
            refine ⟨.ref b, rfl, b, c, 14, rfl, B3, by decide, by decide, fun z2 G4 k4 B4 _ _ => ?_⟩
            refine ⟨3, rfl, 10, 9, rfl, rfl, ⟨by decide, by decide, by decide⟩, _, 1, rfl, rfl, (by show 6 ≤ sizeLine; decide), fun l nl => ?_⟩
            refine ⟨b, c, l, _, rfl, B4.new nl, .inl ⟨SqL.of upd_same, bag_nen B4 nl⟩, (by intro z; cases z), (by show 6 < 1000000; decide), fun x G5 hx k5 B5 => ?_⟩
            obtain ⟨xo, rfl⟩ : ∃ xo, x = oV xo := by
              simp only [List.mem_cons, List.not_mem_nil, or_false] at hx
              rcases hx with e | e | e | e | e | e
              · exact ⟨none, e⟩
              all_goals exact ⟨some _, e⟩
            have K5 := (k4.trans (Kp.new nl)).trans k5
            have T5 := T3.mono (bag_tk B3 K5)
            have P5 := (bag_tk B3 K5) _ _ _ s3
            clear hx k4 k5 K5 nl T3 s3 N3 hat B3 B4
            refine ⟨fun σ G => (∃ (y2 : Option V) (y4 : Option V) (y5 : Option V) (y8 : Option V) (y9 : Option V) (y10 : Option V) (y15 : Option V) (y16 : Option V), σ = [some (.ref a), some (.ref b), y2, some (.ref t), y4, y5, some (.int many), some (.ref r), y8, y9, y10, some (.ref ν), some (.ref p2), some (oV xo), some (.bl (K2.there (bs.map (·.2)) pre)), y15, y16]) ∧ Bag G b c ∧ TabAt K G t many r bs ∧ SqT K G p2 (pre.map V.int), ?_, ?_⟩
            · refine ⟨.ref p2, rfl, Nat.zero_le _, fun p0 n0 => ?_⟩
              have k0 := put_new n0 (.tup [])
              refine ⟨encR pre, encR [], TI.dp (⟨p2, rfl, (TupK.same k0) _ _ _ P5⟩ : TI K _ (.ref p2) pre), .tup (SqT.of upd_same) .nil, shaped_encR _, shaped_encR _, ?_⟩
              rw [eqv_encR]
              have T6 := T5.mono (TupK.same k0)
              have P6 := (TupK.same k0) _ _ _ P5
              have B6 := B5.same k0
              clear T5 P5 B5
              generalize upd G5 p0 (.tup []) = G6 at *
              refine ⟨_, rfl, ite2 (fun e => ?_) (fun e => ?_)⟩
              · have : K2.there (bs.map (·.2)) pre = true := by
                  unfold K2.there
                  rw [e]
                  rfl
                refine ⟨?_, B6, T6, P6⟩
                rw [this]
                exact ⟨_, _, _, _, _, _, _, _, rfl⟩
              · refine ⟨.ref r, rfl, r, rfl, ⟨_, T6.2.1⟩, fun D nD => ?_⟩
                refine lcg_tup (K := K) (Y := YP K) (out := fun i => (bs[i]?).bind fun b => if decide (b.2.take pre.length = pre) = true then some b else none) (LcG.pure nD) YP.mono T6.2.1 (by rw [List.length_map]; omega) (fun i y H1 hx k1 _ => ?_) (fun H1 acc bs' k1 _ hD ea eb => ?_)
                · obtain ⟨u, hb, rfl, hm⟩ := get_fst hx
                  intro Qe Qn hE hN
                  obtain ⟨tb, et, hb1⟩ := (T6.2.2 u hm).mono (TupK.same k1)
                  have hπ1 := (TupK.same k1) _ _ _ P6
                  refine ⟨rfl, u.1, rfl, .ref p2, rfl, p2, _, rfl, .inr hπ1, ((pre.map V.int).length : Nat), rfl, tb, _, et, hb1, fun p3 H2 k2 s2 => ?_⟩
                  rw [cut_take, List.length_map, ← List.map_take] at s2
                  refine ⟨.ref p2, rfl, encR (u.2.take pre.length), encR pre, TI.dp (⟨p3, rfl, s2⟩ : TI K _ (.ref p3) _), TI.dp (⟨p2, rfl, (TupK.same k2) _ _ _ hπ1⟩ : TI K _ (.ref p2) pre), shaped_encR _, shaped_encR _, ?_⟩
                  rw [eqv_encR]
                  refine ⟨_, rfl, ite2 (fun e => ?_) (fun e => ?_)⟩
                  · refine ⟨u.1, rfl, hE u.1 H2 u ?_ k2 trivial ⟨rfl, tb, et, (TupK.same k2) _ _ _ hb1⟩⟩
                    rw [hb]
                    show (if _ then _ else _) = _
                    rw [if_pos e]
                  · refine hN H2 ?_ k2 trivial
                    rw [hb]
                    show (if _ then _ else _) = _
                    rw [if_neg e]
                · rw [List.length_map, fm_all] at eb
                  obtain ⟨e1, e2⟩ := yp_all ea
                  subst e1
                  have eF : bs'.map (·.2) = (bs.map (·.2)).filter fun r => decide (r.take pre.length = pre) := by
                    rw [eb]
                    have : ∀ l : List (V × List Int), (l.filterMap fun b => if decide (b.2.take pre.length = pre) = true then some b else none).map (·.2) = (l.map (·.2)).filter fun r => decide (r.take pre.length = pre) := by
                      intro l
                      induction l with
                      | nil => rfl
                      | cons c l ih =>
                        by_cases z : c.2.take pre.length = pre
                        · simpa [List.filterMap_cons, z] using ih
                        · simpa [List.filterMap_cons, z] using ih
                    exact this bs
                  refine ⟨Nat.zero_le _, fun l0 n7 => ?_⟩
                  have k7 := put_new n7 (.lst [])
                  refine ⟨_, .list [], dp_lrows (SqL.of (k7 _ _ hD)) (fun p hp => (e2 p hp).mono (TupK.same k7)), .lst (SqL.of upd_same) .nil, shaped_lrows _, shaped_lrows [], ?_⟩
                  rw [ne_lrows, eF, ← any_filter]
                  have : K2.there (bs.map (·.2)) pre = (bs.map (·.2)).any fun r => decide (r.take pre.length = pre) := by
                    unfold K2.there
                    rw [Bool.eq_false_iff.mpr e, Bool.false_or]
                  rw [← this]
                  exact ⟨⟨_, _, _, _, _, _, _, _, rfl⟩, B6.same (k1.trans k7), T6.mono (TupK.same (k1.trans k7)), (TupK.same (k1.trans k7)) _ _ _ P6⟩
            · clear T5 P5 B5
              rintro σ G ⟨⟨y2, y4, y5, y8, y9, y10, y15, y16, rfl⟩, hB, hT, hπ⟩
              have hw : ∀ u ∈ bs, pre.length < u.2.length := fun u hu => by rw [wid u hu, lpre]; omega
              have hw2 : ∀ r ∈ bs.map (·.2), pre.length < r.length := fun r hr => by
                obtain ⟨u, hu, rfl⟩ := List.mem_map.mp hr
                exact hw u hu
              refine ⟨.ref r, rfl, .ref p2, rfl, r, p2, bs, pre, rfl, hT.2, ⟨p2, rfl, hπ⟩, by omega, fun G1 k1 => ?_⟩
              have hT1 := hT.mono (TupK.same k1)
              have hπ1 := (TupK.same k1) _ _ _ hπ
              refine ⟨.ref r, rfl, .ref p2, rfl, oV xo, rfl, r, p2, bs, pre, xo, rfl, hT1.2, ⟨p2, rfl, hπ1⟩, by omega, hw, fun p7 G2 th lo hi k2 nr sq => ?_⟩
              refine ⟨by show 2 ≤ sizeLine; decide, fun l1 n1 => ?_⟩
              have k3 := put_new n1 (.lst [.bl (K2.there (bs.map (·.2)) pre), .ref p7])
              have hl1 : upd G2 l1 (.lst [.bl (K2.there (bs.map (·.2)) pre), .ref p7]) l1 = some (.lst [.bl (K2.there (bs.map (·.2)) pre), .ref p7]) := upd_same
              have sq3 := (TupK.same k3) _ _ _ sq
              have K3 := (k1.trans k2).trans k3
              generalize upd G2 l1 (.lst [.bl (K2.there (bs.map (·.2)) pre), .ref p7]) = G3 at *
              have hT3 := hT.mono (TupK.same K3)
              have hπ3 := (TupK.same K3) _ _ _ hπ
              refine ⟨.bl _, rfl, .ref r, rfl, .ref p2, rfl, oV xo, rfl, r, p2, bs, pre, xo, rfl, hT3.2, ⟨p2, rfl, hπ3⟩, by omega, hw, fun p8 G4 th' lo' hi' k4 nr' sq' => ?_⟩
              refine ⟨by show 2 ≤ sizeLine; decide, fun l2 n2 => ?_⟩
              obtain ⟨rfl, rfl, rfl⟩ := near_one nr nr'
              have bnd := behind_small sm hw2
              have mm := near_mem nr
              have k5 := put_new n2 (.lst [.bl (K2.there (bs.map (·.2)) pre), .ref p8])
              have okd := ok_near (t := K2.there (bs.map (·.2)) pre) (th := th) (lo := lo) (hi := hi) (fun i e => bnd i (mm.1 i e)) (fun i e => bnd i (mm.2 i e))
              have oks := okd.shaped (by decide)
              have oko := okd.shows (by decide) (by decide)
              have k45 := k4.trans k5
              refine ⟨l1, l2, .list [.bool (K2.there (bs.map (·.2)) pre), .tuple [.bool th, oD lo, oD hi]], rfl, ?_⟩
              refine And.intro ?_ (And.intro ?_ (And.intro oks (And.intro oko ?_)))
              · exact .lst (SqL.of (k45 _ _ hl1)) (.cons (.bl _) (.cons (.tup ((TupK.same k45) _ _ _ sq3) (.cons (.bl _) (.cons (oD_dp _) (.cons (oD_dp _) .nil)))) .nil))
              · exact .lst (SqL.of upd_same) (.cons (.bl _) (.cons (.tup ((TupK.same k5) _ _ _ sq') (.cons (.bl _) (.cons (oD_dp _) (.cons (oD_dp _) .nil)))) .nil))
              · exact ⟨_, rfl, ⟨_, _, _, _, _, _, _, _, _, _, _, _, rfl⟩, hB.same (K3.trans k45), hT3.mono (TupK.same k45)⟩
        · obtain ⟨⟨y2, y4, y5, y8, y9, y10, y11, y12, y13, y14, y15, y16, rfl⟩, hB, hT⟩ := hp
          exact ⟨⟨_, _, _, _, _, _, _, _, _, _, _, _, _, _, _, rfl⟩, hB⟩
  · obtain ⟨⟨y2, y3, y4, y5, y6, y7, y8, y9, y10, y11, y12, y13, y14, y15, y16, rfl⟩, hB⟩ := hp
    exact q _

end LW

namespace LW
open PySem PySem.Spec PyProof.Rows L2 GL
theorem all_mk {l : PySem.W.OpenLaw} {w : World} {K : PySem.W.Frag} {h : Heap} {mg : Str → Option Value} {fa f0 f1 f2 f3 f4 f5 f6 f7 f8 f9 f10 f11 f12 f13 f14 : Addr} (X : K.In h) (G : h.Ns mainGlobals mg) (hfa : mg "law" = some (.ref fa))
    {od0 an0 od1 an1 od2 an2 od3 an3 od4 an4 od5 an5 od6 an6 od7 an7 od8 an8 od9 an9 od10 an10 od11 an11 od12 an12 od13 an13 od14 an14 : Option Addr} {sl0 sl1 sl2 sl3 sl4 sl5 sl6 sl7 sl8 sl9 sl10 sl11 sl12 sl13 sl14 : Array (Option Value)} {oc0 kV0 dc0 pm0 cd0 ct0 oc1 kV1 dc1 pm1 cd1 ct1 oc2 kV2 dc2 pm2 cd2 ct2 oc3 kV3 dc3 pm3 cd3 ct3 oc4 kV4 dc4 pm4 cd4 ct4 oc5 kV5 dc5 pm5 cd5 ct5 oc6 kV6 dc6 pm6 cd6 ct6 oc7 kV7 dc7 pm7 cd7 ct7 oc8 kV8 dc8 pm8 cd8 ct8 oc9 kV9 dc9 pm9 cd9 ct9 oc10 kV10 dc10 pm10 cd10 ct10 oc11 kV11 dc11 pm11 cd11 ct11 oc12 kV12 dc12 pm12 cd12 ct12 oc13 kV13 dc13 pm13 cd13 ct13 oc14 kV14 dc14 pm14 cd14 ct14 : Value}
    (a0 : PySem.W.nsIn K mainGlobals "_law_bag" = some (some (.ref f0))) (l0 : K.lookup f0 = some ⟨oc0, od0, .func (PySem.W.fnOf "_law_bag" "_law_bag" (defArgs s_law_bag) (defBody s_law_bag) (defScope s_law_bag) .none kV0 dc0 pm0 an0 cd0 ct0), sl0⟩) (c0 : PySem.W.codeIn K cd0 "_law_bag" = true) (k0 : PySem.W.keepIn K (.ref f0) = true)
    (a1 : PySem.W.nsIn K mainGlobals "_law_take" = some (some (.ref f1))) (l1 : K.lookup f1 = some ⟨oc1, od1, .func (PySem.W.fnOf "_law_take" "_law_take" (defArgs s_law_take) (defBody s_law_take) (defScope s_law_take) .none kV1 dc1 pm1 an1 cd1 ct1), sl1⟩) (c1 : PySem.W.codeIn K cd1 "_law_take" = true) (k1 : PySem.W.keepIn K (.ref f1) = true)
    (a2 : PySem.W.nsIn K mainGlobals "_law_some" = some (some (.ref f2))) (l2 : K.lookup f2 = some ⟨oc2, od2, .func (PySem.W.fnOf "_law_some" "_law_some" (defArgs s_law_some) (defBody s_law_some) (defScope s_law_some) .none kV2 dc2 pm2 an2 cd2 ct2), sl2⟩) (c2 : PySem.W.codeIn K cd2 "_law_some" = true) (k2 : PySem.W.keepIn K (.ref f2) = true)
    (a3 : PySem.W.nsIn K mainGlobals "_law_alike" = some (some (.ref f3))) (l3 : K.lookup f3 = some ⟨oc3, od3, .func (PySem.W.fnOf "_law_alike" "_law_alike" (defArgs s_law_alike) (defBody s_law_alike) (defScope s_law_alike) .none kV3 dc3 pm3 an3 cd3 ct3), sl3⟩) (c3 : PySem.W.codeIn K cd3 "_law_alike" = true) (k3 : PySem.W.keepIn K (.ref f3) = true)
    (a4 : PySem.W.nsIn K mainGlobals "_law_mixed" = some (some (.ref f4))) (l4 : K.lookup f4 = some ⟨oc4, od4, .func (PySem.W.fnOf "_law_mixed" "_law_mixed" (defArgs s_law_mixed) (defBody s_law_mixed) (defScope s_law_mixed) .none kV4 dc4 pm4 an4 cd4 ct4), sl4⟩) (c4 : PySem.W.codeIn K cd4 "_law_mixed" = true) (k4 : PySem.W.keepIn K (.ref f4) = true)
    (a5 : PySem.W.nsIn K mainGlobals "has_row" = some (some (.ref f5))) (l5 : K.lookup f5 = some ⟨oc5, od5, .func (PySem.W.fnOf "has_row" "has_row" (defArgs shas_row) (defBody shas_row) (defScope shas_row) .none kV5 dc5 pm5 an5 cd5 ct5), sl5⟩) (c5 : PySem.W.codeIn K cd5 "has_row" = true) (k5 : PySem.W.keepIn K (.ref f5) = true)
    (a6 : PySem.W.nsIn K mainGlobals "with_row" = some (some (.ref f6))) (l6 : K.lookup f6 = some ⟨oc6, od6, .func (PySem.W.fnOf "with_row" "with_row" (defArgs swith_row) (defBody swith_row) (defScope swith_row) .none kV6 dc6 pm6 an6 cd6 ct6), sl6⟩) (c6 : PySem.W.codeIn K cd6 "with_row" = true) (k6 : PySem.W.keepIn K (.ref f6) = true)
    (a7 : PySem.W.nsIn K mainGlobals "without_row" = some (some (.ref f7))) (l7 : K.lookup f7 = some ⟨oc7, od7, .func (PySem.W.fnOf "without_row" "without_row" (defArgs swithout_row) (defBody swithout_row) (defScope swithout_row) .none kV7 dc7 pm7 an7 cd7 ct7), sl7⟩) (c7 : PySem.W.codeIn K cd7 "without_row" = true) (k7 : PySem.W.keepIn K (.ref f7) = true)
    (a8 : PySem.W.nsIn K mainGlobals "led_rows" = some (some (.ref f8))) (l8 : K.lookup f8 = some ⟨oc8, od8, .func (PySem.W.fnOf "led_rows" "led_rows" (defArgs sled_rows) (defBody sled_rows) (defScope sled_rows) .none kV8 dc8 pm8 an8 cd8 ct8), sl8⟩) (c8 : PySem.W.codeIn K cd8 "led_rows" = true) (k8 : PySem.W.keepIn K (.ref f8) = true)
    (a9 : PySem.W.nsIn K mainGlobals "is_there" = some (some (.ref f9))) (l9 : K.lookup f9 = some ⟨oc9, od9, .func (PySem.W.fnOf "is_there" "is_there" (defArgs sis_there) (defBody sis_there) (defScope sis_there) .none kV9 dc9 pm9 an9 cd9 ct9), sl9⟩) (c9 : PySem.W.codeIn K cd9 "is_there" = true) (k9 : PySem.W.keepIn K (.ref f9) = true)
    (a10 : PySem.W.nsIn K mainGlobals "nearest_by_all" = some (some (.ref f10))) (l10 : K.lookup f10 = some ⟨oc10, od10, .func (PySem.W.fnOf "nearest_by_all" "nearest_by_all" (defArgs snearest_by_all) (defBody snearest_by_all) (defScope snearest_by_all) .none kV10 dc10 pm10 an10 cd10 ct10), sl10⟩) (c10 : PySem.W.codeIn K cd10 "nearest_by_all" = true) (k10 : PySem.W.keepIn K (.ref f10) = true)
    (a11 : PySem.W.nsIn K mainGlobals "_law_any_row" = some (some (.ref f11))) (l11 : K.lookup f11 = some ⟨oc11, od11, .func (PySem.W.fnOf "_law_any_row" "_law_any_row" (defArgs s_law_any_row) (defBody s_law_any_row) (defScope s_law_any_row) .none kV11 dc11 pm11 an11 cd11 ct11), sl11⟩) (c11 : PySem.W.codeIn K cd11 "_law_any_row" = true) (k11 : PySem.W.keepIn K (.ref f11) = true)
    (a12 : PySem.W.nsIn K mainGlobals "_law_some_table" = some (some (.ref f12))) (l12 : K.lookup f12 = some ⟨oc12, od12, .func (PySem.W.fnOf "_law_some_table" "_law_some_table" (defArgs s_law_some_table) (defBody s_law_some_table) (defScope s_law_some_table) .none kV12 dc12 pm12 an12 cd12 ct12), sl12⟩) (c12 : PySem.W.codeIn K cd12 "_law_some_table" = true) (k12 : PySem.W.keepIn K (.ref f12) = true)
    (a13 : PySem.W.nsIn K mainGlobals "_law_nearest" = some (some (.ref f13))) (l13 : K.lookup f13 = some ⟨oc13, od13, .func (PySem.W.fnOf "_law_nearest" "_law_nearest" (defArgs s_law_nearest) (defBody s_law_nearest) (defScope s_law_nearest) .none kV13 dc13 pm13 an13 cd13 ct13), sl13⟩) (c13 : PySem.W.codeIn K cd13 "_law_nearest" = true) (k13 : PySem.W.keepIn K (.ref f13) = true)
    (a14 : PySem.W.nsIn K mainGlobals "law" = some (some (.ref f14))) (l14 : K.lookup f14 = some ⟨oc14, od14, .func (PySem.W.fnOf "law" "law" (defArgs slaw) (defBody slaw) (defScope slaw) .none kV14 dc14 pm14 an14 cd14 ct14), sl14⟩) (c14 : PySem.W.codeIn K cd14 "law" = true) (k14 : PySem.W.keepIn K (.ref f14) = true)
    (z_abs : PySem.W.nsIn K mainGlobals "abs" = some none)
    (z_any : PySem.W.nsIn K mainGlobals "any" = some none)
    (z_int : PySem.W.nsIn K mainGlobals "int" = some none)
    (z_len : PySem.W.nsIn K mainGlobals "len" = some none)
    (z_list : PySem.W.nsIn K mainGlobals "list" = some none)
    (z_max : PySem.W.nsIn K mainGlobals "max" = some none)
    (z_min : PySem.W.nsIn K mainGlobals "min" = some none)
    (z_range : PySem.W.nsIn K mainGlobals "range" = some none)
    (z_repr : PySem.W.nsIn K mainGlobals "repr" = some none)
    (z_set : PySem.W.nsIn K mainGlobals "set" = some none)
    (z_sorted : PySem.W.nsIn K mainGlobals "sorted" = some none)
    (z_tuple : PySem.W.nsIn K mainGlobals "tuple" = some none) :
    ∃ fd : FuncData, (∀ (s : Shared) (v : Value), BindsTo s fd ⟨[v], []⟩ [("script", v)]) ∧ ∀ base : Heap, K.In base → base.Ns mainGlobals mg → Fn0 l.prog w K mg base CX0 4 fa fd ["script"] (spLaw K) := by
  have e := hfa.symm.trans (PySem.W.mg_of X G a14)
  cases e
  have F0 := fun_mk (st := s_law_bag) l0 c0 k0
  have b0 := F0.binds (ps := ["script"]) fun _ _ _ _ _ _ us hl => match us, hl with | [_], _ => rfl
  have D0 : DefAt K mg "_law_bag" s_law_bag ["script"] := def_at X G a0 F0 b0
  have F1 := fun_mk (st := s_law_take) l1 c1 k1
  have b1 := F1.binds (ps := ["bag", "many"]) fun _ _ _ _ _ _ us hl => match us, hl with | [_, _], _ => rfl
  have D1 : DefAt K mg "_law_take" s_law_take ["bag", "many"] := def_at X G a1 F1 b1
  have F2 := fun_mk (st := s_law_some) l2 c2 k2
  have b2 := F2.binds (ps := ["bag", "things"]) fun _ _ _ _ _ _ us hl => match us, hl with | [_, _], _ => rfl
  have D2 : DefAt K mg "_law_some" s_law_some ["bag", "things"] := def_at X G a2 F2 b2
  have F3 := fun_mk (st := s_law_alike) l3 c3 k3
  have b3 := F3.binds (ps := ["found", "due"]) fun _ _ _ _ _ _ us hl => match us, hl with | [_, _], _ => rfl
  have D3 : DefAt K mg "_law_alike" s_law_alike ["found", "due"] := def_at X G a3 F3 b3
  have F4 := fun_mk (st := s_law_mixed) l4 c4 k4
  have b4 := F4.binds (ps := ["bag", "things"]) fun _ _ _ _ _ _ us hl => match us, hl with | [_, _], _ => rfl
  have D4 : DefAt K mg "_law_mixed" s_law_mixed ["bag", "things"] := def_at X G a4 F4 b4
  have F5 := fun_mk (st := shas_row) l5 c5 k5
  have b5 := F5.binds (ps := ["table", "row"]) fun _ _ _ _ _ _ us hl => match us, hl with | [_, _], _ => rfl
  have D5 : DefAt K mg "has_row" shas_row ["table", "row"] := def_at X G a5 F5 b5
  have F6 := fun_mk (st := swith_row) l6 c6 k6
  have b6 := F6.binds (ps := ["table", "row"]) fun _ _ _ _ _ _ us hl => match us, hl with | [_, _], _ => rfl
  have D6 : DefAt K mg "with_row" swith_row ["table", "row"] := def_at X G a6 F6 b6
  have F7 := fun_mk (st := swithout_row) l7 c7 k7
  have b7 := F7.binds (ps := ["table", "row"]) fun _ _ _ _ _ _ us hl => match us, hl with | [_, _], _ => rfl
  have D7 : DefAt K mg "without_row" swithout_row ["table", "row"] := def_at X G a7 F7 b7
  have F8 := fun_mk (st := sled_rows) l8 c8 k8
  have b8 := F8.binds (ps := ["table", "places"]) fun _ _ _ _ _ _ us hl => match us, hl with | [_, _], _ => rfl
  have D8 : DefAt K mg "led_rows" sled_rows ["table", "places"] := def_at X G a8 F8 b8
  have F9 := fun_mk (st := sis_there) l9 c9 k9
  have b9 := F9.binds (ps := ["rows", "prefix"]) fun _ _ _ _ _ _ us hl => match us, hl with | [_, _], _ => rfl
  have D9 : DefAt K mg "is_there" sis_there ["rows", "prefix"] := def_at X G a9 F9 b9
  have F10 := fun_mk (st := snearest_by_all) l10 c10 k10
  have b10 := F10.binds (ps := ["rows", "prefix", "x"]) fun _ _ _ _ _ _ us hl => match us, hl with | [_, _, _], _ => rfl
  have D10 : DefAt K mg "nearest_by_all" snearest_by_all ["rows", "prefix", "x"] := def_at X G a10 F10 b10
  have F11 := fun_mk (st := s_law_any_row) l11 c11 k11
  have b11 := F11.binds (ps := ["bag", "many", "wide"]) fun _ _ _ _ _ _ us hl => match us, hl with | [_, _, _], _ => rfl
  have D11 : DefAt K mg "_law_any_row" s_law_any_row ["bag", "many", "wide"] := def_at X G a11 F11 b11
  have F12 := fun_mk (st := s_law_some_table) l12 c12 k12
  have b12 := F12.binds (ps := ["bag", "most"]) fun _ _ _ _ _ _ us hl => match us, hl with | [_, _], _ => rfl
  have D12 : DefAt K mg "_law_some_table" s_law_some_table ["bag", "most"] := def_at X G a12 F12 b12
  have F13 := fun_mk (st := s_law_nearest) l13 c13 k13
  have b13 := F13.binds (ps := ["rows", "prefix", "x"]) fun _ _ _ _ _ _ us hl => match us, hl with | [_, _, _], _ => rfl
  have D13 : DefAt K mg "_law_nearest" s_law_nearest ["rows", "prefix", "x"] := def_at X G a13 F13 b13
  have F14 := fun_mk (st := slaw) l14 c14 k14
  have m_abs : mg "abs" = none := PySem.W.mg_none_of X G z_abs
  have m_any : mg "any" = none := PySem.W.mg_none_of X G z_any
  have m_int : mg "int" = none := PySem.W.mg_none_of X G z_int
  have m_len : mg "len" = none := PySem.W.mg_none_of X G z_len
  have m_list : mg "list" = none := PySem.W.mg_none_of X G z_list
  have m_max : mg "max" = none := PySem.W.mg_none_of X G z_max
  have m_min : mg "min" = none := PySem.W.mg_none_of X G z_min
  have m_range : mg "range" = none := PySem.W.mg_none_of X G z_range
  have m_repr : mg "repr" = none := PySem.W.mg_none_of X G z_repr
  have m_set : mg "set" = none := PySem.W.mg_none_of X G z_set
  have m_sorted : mg "sorted" = none := PySem.W.mg_none_of X G z_sorted
  have m_tuple : mg "tuple" = none := PySem.W.mg_none_of X G z_tuple
  refine ⟨PySem.W.fnOf "law" "law" (defArgs slaw) (defBody slaw) (defScope slaw) .none kV14 dc14 pm14 an14 cd14 ct14, fun s v => .of_eq rfl, fun base _ _ => ?_⟩
  have C__law_bag : Cal l.prog w K mg base 1 "_law_bag" (spBag K) := ok_law_bag D0 m_abs
  have C__law_take : Cal l.prog w K mg base 1 "_law_take" spTake := ok_law_take D1 m_int
  have C__law_some : Cal l.prog w K mg base 2 "_law_some" (spSome K) := ok_law_some D2 C__law_take m_len
  have C__law_alike : Cal l.prog w K mg base 1 "_law_alike" (spAlike K) := ok_law_alike D3 m_repr
  have C__law_mixed : Cal l.prog w K mg base 2 "_law_mixed" (spMixed K) := ok_law_mixed D4 C__law_take m_len
  have C_has_row : Cal l.prog w K mg base 1 "has_row" (spHas K) := okhas_row D5
  have C_with_row : Cal l.prog w K mg base 1 "with_row" (spWith K) := okwith_row D6 m_sorted m_tuple
  have C_without_row : Cal l.prog w K mg base 1 "without_row" (spWithout K) := okwithout_row D7 m_tuple
  have C_led_rows : Cal l.prog w K mg base 1 "led_rows" (spLed K) := okled_rows D8 m_sorted m_tuple
  have C_is_there : Cal l.prog w K mg base 1 "is_there" (spThere K) := okis_there D9 m_any m_len
  have C_nearest_by_all : Cal l.prog w K mg base 1 "nearest_by_all" (spNear 900 K) := oknearest_by_all D10 m_len m_max m_min
  have C__law_any_row : Cal l.prog w K mg base 2 "_law_any_row" (spAny K) := ok_law_any_row D11 C__law_take m_int m_range m_tuple
  have C__law_some_table : Cal l.prog w K mg base 3 "_law_some_table" (spTab K) := ok_law_some_table D12 C__law_some C__law_take m_int m_range m_set m_sorted m_tuple
  have C__law_nearest : Cal l.prog w K mg base 1 "_law_nearest" (spNear 60 K) := ok_law_nearest D13 m_len m_set m_sorted
  exact oklaw F14 C__law_alike C__law_any_row C__law_bag C__law_mixed C__law_nearest C__law_some C__law_some_table C__law_take C_has_row C_is_there C_led_rows C_nearest_by_all C_with_row C_without_row m_len m_list m_range m_sorted m_tuple
end LW
open PySem PySem.W PyProof.Rows
set_option maxRecDepth 100000 in
set_option maxHeartbeats 0 in
theorem PySem.Challenge.cw_enoughlooks_k02_tables_and_nearest_value_holds : PySem.Challenge.rw_enoughlooks_k02_tables_and_nearest_value.Holds := by
  w_on; o_law; k_head; (case hw => w_witness2)
  k_fill
  refine GL.walk0 (l := PySem.Challenge.rw_enoughlooks_k02_tables_and_nearest_value) (n := 63) (k := 4) (x := "script") (sp := fun w => LW.spLaw _) rfl (by decide) rfl ⟨rfl, by decide, by decide⟩ (fun w h Y => PySem.W.kIn_of Y) ?F (fun _ _ a ns hl _ hS => ⟨a, ns, rfl, hS, hl, fun _ => rfl⟩)
  case F =>
    intro w mg fa h KX G hmg
    refine' LW.all_mk KX G hmg ?a0 ?l0 ?c0 ?k0 ?a1 ?l1 ?c1 ?k1 ?a2 ?l2 ?c2 ?k2 ?a3 ?l3 ?c3 ?k3 ?a4 ?l4 ?c4 ?k4 ?a5 ?l5 ?c5 ?k5 ?a6 ?l6 ?c6 ?k6 ?a7 ?l7 ?c7 ?k7 ?a8 ?l8 ?c8 ?k8 ?a9 ?l9 ?c9 ?k9 ?a10 ?l10 ?c10 ?k10 ?a11 ?l11 ?c11 ?k11 ?a12 ?l12 ?c12 ?k12 ?a13 ?l13 ?c13 ?k13 ?a14 ?l14 ?c14 ?k14 ?z_abs ?z_any ?z_int ?z_len ?z_list ?z_max ?z_min ?z_range ?z_repr ?z_set ?z_sorted ?z_tuple
    (case a0 => k_is); (case l0 => k_is); (case c0 => k_is); (case k0 => k_is)
    (case a1 => k_is); (case l1 => k_is); (case c1 => k_is); (case k1 => k_is)
    (case a2 => k_is); (case l2 => k_is); (case c2 => k_is); (case k2 => k_is)
    (case a3 => k_is); (case l3 => k_is); (case c3 => k_is); (case k3 => k_is)
    (case a4 => k_is); (case l4 => k_is); (case c4 => k_is); (case k4 => k_is)
    (case a5 => k_is); (case l5 => k_is); (case c5 => k_is); (case k5 => k_is)
    (case a6 => k_is); (case l6 => k_is); (case c6 => k_is); (case k6 => k_is)
    (case a7 => k_is); (case l7 => k_is); (case c7 => k_is); (case k7 => k_is)
    (case a8 => k_is); (case l8 => k_is); (case c8 => k_is); (case k8 => k_is)
    (case a9 => k_is); (case l9 => k_is); (case c9 => k_is); (case k9 => k_is)
    (case a10 => k_is); (case l10 => k_is); (case c10 => k_is); (case k10 => k_is)
    (case a11 => k_is); (case l11 => k_is); (case c11 => k_is); (case k11 => k_is)
    (case a12 => k_is); (case l12 => k_is); (case c12 => k_is); (case k12 => k_is)
    (case a13 => k_is); (case l13 => k_is); (case c13 => k_is); (case k13 => k_is)
    (case a14 => k_is); (case l14 => k_is); (case c14 => k_is); (case k14 => k_is)
    (case z_abs => k_is)
    (case z_any => k_is)
    (case z_int => k_is)
    (case z_len => k_is)
    (case z_list => k_is)
    (case z_max => k_is)
    (case z_min => k_is)
    (case z_range => k_is)
    (case z_repr => k_is)
    (case z_set => k_is)
    (case z_sorted => k_is)
    (case z_tuple => k_is)
