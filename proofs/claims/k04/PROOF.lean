import PyProof.Rows.All
import Wide.All
import OpenK.AllK
import Wide.FinOn
import PyProof.ReprRoads
import HandS.ForMost
import HandS.EndBits
import HandS.ForExc
import HandS.TryMany
import HandS.ExcInit
import HandS.ExcField
import HandS.ClsMeth
import HandS.IsInst
import KE.KCallOwn
import KE.KFmtOwn
import KE.KOpsOwn
import HandS.ExcOwn
import PyProof.TwoTypes
import PyProof.FactsAll.bool
import PyProof.FactsAll.int
import HandS.HotCalls
import HandS.Property
import HandS.FStr
import KE.KxField
import HandS.MakeKwOnly
import HandS.Wide
import HandS.Walk
import PySem.Challenge.RW_mapsizes_k04_places_moved
import HandS.More
import PyProof.StrLawsRepr
import HandS.Style
import HandS.ExcIs
set_option Elab.async false
set_option linter.all false
set_option maxRecDepth 100000
set_option maxHeartbeats 4000000
/-! calls under which no container is being shown: the promises of defs that show lists -/
namespace Mz
open PySem PySem.Spec PyProof.Rows L2
section
variable {P : Program} {w : World} {K : PySem.W.Frag} {mg : Str → Option Value} {base : Heap} {CX : CXT} {k : Nat} {f : Addr} {fd : FuncData} {ps : List Str} {sp : Sp}
theorem quiet_deeper {A : Around} {env : Env} (h : A.guards = some []) : (A.deeper env).guards = some [] := h
theorem quiet_make {A : Around} {c : Addr} {us : List Value} {kw : List (Str × Value)} (h : A.guards = some []) : (A.under (.builtin "type.__call__" ⟨.ref c :: us, kw⟩)).guards = some [] := by
  have e : (Code.builtin "type.__call__" ⟨.ref c :: us, kw⟩).guards = [] := by
    have e2 : (Code.builtin "type.__call__" ⟨.ref c :: us, kw⟩).isGuard = false := by
      show guardIds.contains "type.__call__" = false
      decide +kernel
    unfold Code.guards
    rw [e2]
    rfl
  show pushGuards (Code.builtin "type.__call__" ⟨.ref c :: us, kw⟩).guards A.guards = some []
  rw [e, h]
  rfl
/-- a def's promise where nothing is being shown around it -/
structure FnG (P : Program) (w : World) (K : PySem.W.Frag) (mg : Str → Option Value) (base : Heap) (CX : CXT) (k : Nat) (f : Addr) (fd : FuncData) (ps : List Str) (sp : Sp) : Prop where
  lenG : ∀ vs H Q E, sp vs H Q E → vs.length = ps.length
  runG : ∀ (A : Around) (outer : List Env) (s : Shared) (H : Hp) (args : Args) (us : List Value) (vs : List V) (Q : VK) (E : XK),
    A.guards = some [] → Room k A → Env0 P w K mg base A outer s H → BindsTo s fd args (ps.zip us) → Vals vs us → sp vs H Q E →
    codeAny (model P w) A (.call (.ref f) args) (CR CX outer P w H s Q E) s
theorem FnG.of (F : FnOk P w K mg base CX k f fd ps sp) : FnG P w K mg base CX k f fd ps sp :=
  ⟨F.len, fun A outer s H args us vs Q E _ => F.run A outer s H args us vs Q E⟩
theorem FnG.mono {j : Nat} (F : FnG P w K mg base CX j f fd ps sp) (h : j ≤ k) : FnG P w K mg base CX k f fd ps sp :=
  ⟨F.lenG, fun A outer s H args us vs Q E g r => F.runG A outer s H args us vs Q E g (r.mono h)⟩
/-- the def by its body, told that nothing is being shown -/
theorem fnG_of {name qual : Str} {params : Arguments} {body : List Stmt} {scope : Scope} {dV kV doc pm cdv ct oc : Value} {an od : Option Addr} {osl : Array (Option Value)} {N : List Str}
    (lk : K.lookup f = some ⟨oc, od, .func (PySem.W.fnOf name qual params body scope dV kV doc pm an cdv ct), osl⟩) (hcd : PySem.W.codeIn K cdv qual = true) (S : FnScope N ps scope)
    (len : ∀ vs H Q E, sp vs H Q E → vs.length = ps.length)
    (hb : ∀ (A : Around) (outer : List Env) (s : Shared) (H : Hp) (vs : List V) (Q : VK) (E : XK), A.guards = some [] → Room k (A.deeper (envOfC qual scope s.heap.objs.size f cdv)) → sp vs H Q E →
      ∃ t, PSs (cxOf CX P w K mg base N qual scope f cdv A outer s H E) body t ∧ t { nx := fun _ H' => Q .non H', rt := Q } (start N vs) H) :
    FnG P w K mg base CX (k + 1) f (PySem.W.fnOf name qual params body scope dV kV doc pm an cdv ct) ps sp := by
  refine ⟨len, fun A outer s H args us vs Q E hg hr e0 hbi r hsp => ?_⟩
  -- the promise of the same def at this very place alone: whoever runs it stands at A
  have spA : ∀ (A2 : Around), A2 = A → A2.guards = some [] := fun A2 e => by
    rw [e]
    exact hg
  have lenv := len _ _ _ _ hsp
  have KX : K.In s.heap := e0.mod.kin.keeps fun b o e => (e0.bs b o e).1
  have lim : s.heap.NoLimit := e0.mod.nolimit.keeps fun b o e => (e0.bs b o e).1
  have kinds : ∀ y ∈ ps.zip us, scope.names.lookup y.1 = some .local ∨ (scope.names.lookup y.1 = some .cell ∧ ((cellsFrom (s.heap.objs.size + 1) scope.names []).lookup y.1).isSome = true) := by
    intro y hy
    obtain ⟨n, v⟩ := y
    rcases S.par n (List.of_mem_zip hy).1 with q | q
    · exact .inl q
    · exact .inr ⟨q, PySem.W.cellsFrom_some _ _ _ (.inl q)⟩
  refine codeAny_call_function hr.depth (KX _ _ lk) rfl S.co S.gen rfl (PySem.W.codeRec_of KX hcd) (hbi _ _ _ _ ?_)
  refine wpAny_newFunctionEnv_cells S.kind kinds fun env he s1 x => ?_
  subst he
  refine ⟨lim.keeps x.toInCall.keep, codeAny_func ?_⟩
  obtain ⟨t, ht, hq⟩ := hb A outer s H vs Q E hg (hr.deeper _) hsp
  have I : Inv (cxOf CX P w K mg base N qual scope f cdv A outer s H E) [] (start N vs) H s1 := inv_start S hr.hd e0 lenv r x
  refine wpAny_mono (ht.run [] s1 (start N vs) H _ I hq) (fun fl s' hs => ?_) fun e s' hs => hs
  cases fl with
  | ret u =>
    obtain ⟨v, σ', H', J, rv, q⟩ := hs
    exact ⟨v, H', J.os, J.bare, J.base, J.hok, rv, q⟩
  | next =>
    obtain ⟨σ', H', J, q⟩ := hs
    exact ⟨V.non, H', J.os, J.bare, J.base, J.hok, rfl, q⟩
  | brk =>
    obtain ⟨_, _, _, q⟩ := hs
    exact q.elim
  | cont =>
    obtain ⟨_, _, _, q⟩ := hs
    exact q.elim
end
section
variable {P : Program} {w : World} {K : PySem.W.Frag} {mg : Str → Option Value} {base : Heap}
theorem fun_okG {x qual : Str} {st : Stmt} {f : Addr} {fd : FuncData} {N ps : List Str} {k : Nat} {sp : Sp} (F : Fun K x qual st f fd) (S : FnScope N ps (defScope st)) (len : ∀ vs H Q E, sp vs H Q E → vs.length = ps.length)
    (hb : ∀ (cdv : Value) (A : Around) (outer : List Env) (s : Shared) (H : Hp) (vs : List V) (Q : VK) (E : XK), A.guards = some [] → Room k (A.deeper (envOfC qual (defScope st) s.heap.objs.size f cdv)) → sp vs H Q E →
      ∃ t, PSs (cxOf CX0 P w K mg base N qual (defScope st) f cdv A outer s H E).nox (defBody st) t ∧ t { nx := fun _ H' => Q .non H', rt := Q } (start N vs) H) : FnG P w K mg base CX0 (k + 1) f fd ps sp := by
  obtain ⟨oc, od, kV, doc, pm, an, cdv, ct, osl, rfl, lk, hcd⟩ := F.ex
  refine fnG_of lk hcd S len fun A outer s H vs Q E hg hr hsp => ?_
  obtain ⟨t, h, q⟩ := hb cdv A outer s H vs Q E hg hr hsp
  exact ⟨t, h.nox, q⟩
end
section
variable {X : Cx} {CX : CXT} {k : Nat} {f : Addr} {fd : FuncData} {ps : List Str} {sp : Sp} {dvs : List V} {ds : List Value} {E : XK} {x : Str} {p pos : Pos} {e : Expr} {es : List Expr} {t : TA}
/-- a call of such a def -/
theorem pe_callG (F : FnG X.prog X.w X.K X.mg X.base CX k f fd ps sp) (g0 : X.A.guards = some []) (hr : Room k X.A) (hg : Gl X x) (hm : X.mg x = some (.ref f)) (hk : PySem.W.keepIn X.K (.ref f) = true) (hb : Binds X.K fd ps ds) (hd : Vals dvs ds) (hx : Passes CX X E)
    (ha : PA X (e :: es) t) (hdb : (x == ("__debug__" : Str)) = false := by decide) (he : starEach (e :: es) X.env = (false, eval e X.env) :: starEach es X.env := by rfl) (hpl : (backTo pos (starEach es X.env)).any (·.1) = false := by rfl) :
    PE X (.Call (.Name x p) (e :: es) [] pos) (tCall sp dvs E t) := by
  refine ⟨fun pins s σ H Q I h => wpAny_Call_Name_kw (ld_glob I hg hm ?_ hdb)⟩
  refine PySem.W.callWith_K (h₀ := X.base) I.ok.mod.kin hk (thn (ha.run pos pins s σ H _ I h) fun us s1 hv => ?_) he hpl
  obtain ⟨vs, H1, I1, r, q⟩ := hv
  refine ⟨I1.kIn, ?_⟩
  have r2 : Vals (vs ++ dvs) (us ++ ds) := r.append hd
  have hl : (us ++ ds).length = ps.length := r2.length.symm.trans (F.lenG _ _ _ _ q)
  refine wpAny_call (codeAny_mono (F.runG X.A X.stack s1 H1 ⟨us, []⟩ (us ++ ds) (vs ++ dvs) Q E g0 hr I1.env0 (hb s1 us I1.kIn hl) r2 q) fun r s' hq => ?_)
  cases r with
  | error e => exact hx pins σ H1 s1 e s' I1 hq
  | ok fl =>
    cases fl with
    | ret u => exact I1.after hq
    | next => exact hq.elim
    | brk => exact hq.elim
    | cont => exact hq.elim
end
/-! ### repr of data -/
section
variable {X : Cx}
/-- repr(x), x a bool, None, an int of some size, a text, a list or a tuple of these -/
def rReprD (K : PySem.W.Frag) : List V → Hp → VK → Prop := fun xs H Q => ∃ x d, xs = [x] ∧ Dp K H x d ∧ PyData.showable d = true ∧ PyData.hasDict d = false ∧ PyData.depth d < 60 ∧ (PyData.shown d).length ≤ sizeLine ∧ Q (.str (PyData.shown d)) H
theorem call_reprD (g0 : X.A.guards = some []) (hu : X.A.units + 64 < cLine) : CallR X (.builtin "repr") (rReprD X.K) := by
  intro pins s σ H xs us Q I r h
  obtain ⟨x, d, rfl, hd, hs, hno, hdp, hz, q⟩ := h
  obtain ⟨u, rfl, rx⟩ := vals1 r
  have ends : ∀ h' t tk, (∀ b o, s.heap.get? b = some o → h'.get? b = some o) → EP X pins σ Q (.str (PyData.shown d) t) { s with heap := h', toks := tk } :=
    fun h' t tk hk => ⟨.str _, H, I.kept hk, ⟨_, rfl⟩, q⟩
  have keep : ∀ b o, s.heap.get? b = some o → s.heap.get? b = some o := fun _ _ z => z
  obtain ⟨as, rd⟩ := Dp.reads I d x u hd rx
  cases hd with
  | non =>
    cases rx
    exact PySem.P.repr_of_none (by simpa only [PyData.shown] using ends s.heap _ _ keep)
  | bl b =>
    cases rx
    exact PySem.P.repr_of_bool (by simpa only [PyData.shown] using ends s.heap _ _ keep)
  | int i =>
    obtain ⟨t, rfl⟩ := rx
    have hs' : i.natAbs.log2 < 1920 := by simpa [PyData.showable] using hs
    exact PySem.P.repr_of_int hs' (by simpa only [PyData.shown] using ends s.heap _ _ keep)
  | str z =>
    obtain ⟨t, rfl⟩ := rx
    exact PySem.P.repr_of_str (by simpa only [PyData.shown] using ends s.heap _ _ keep) (by simpa only [PyData.shown] using hz)
  | lst h1 h2 =>
    cases rx
    exact repr_of_reads' rd hs (fun z => by rw [hno] at z; cases z) g0 (by omega) keep (fun h' t tk hk => ends h' t tk hk) hz
  | tup h1 h2 =>
    cases rx
    exact repr_of_reads' rd hs (fun z => by rw [hno] at z; cases z) g0 (by omega) keep (fun h' t tk hk => ends h' t tk hk) hz
end
end Mz
set_option Elab.async false
set_option linter.all false
set_option maxRecDepth 100000
set_option maxHeartbeats 4000000
/-! the end of a row for a law whose promise wants that nothing is being shown -/
namespace Mz
open PySem PySem.Spec PyProof.Rows L2
theorem law_callG {P : Program} {w : World} {K : PySem.W.Frag} {mg mb : Str → Option Value} {CX : CXT} {k : Nat} {fa a : Addr} {fd : FuncData} {x : Str} {sp : Sp} {s1 : Shared} {vs : List Value} {ns : List Int}
    (KX : K.In s1.heap) (hns : s1.heap.Ns mainGlobals mg) (hb : s1.heap.Ns builtinsNs mb) (hbb : ∀ x : Str, x ≠ "__name__" → mb x = bootBuiltins x) (hlim : s1.heap.NoLimit) (hgen : s1.gens = #[])
    (ha : s1.heap.get? a = some { cls := .type "list", data := .seq vs.toArray }) (hi : IntsAre vs ns) (hl : ns.length ≤ sizeLine) (hr : Room k callerA)
    (F : ∀ base : Heap, K.In base → base.Ns mainGlobals mg → FnG P w K mg base CX k fa fd [x] sp) (hbind : ∀ (s : Shared) (u : Value), BindsTo s fd ⟨[u], []⟩ [(x, u)])
    (hsp : ∀ H : Hp, Only H → SqL K H a (ns.map V.int) → sp [.ref a] H (fun v _ => v = .bl true) fun _ _ _ => False)
    (hCX : ∀ H e s', CX [] H s1 (fun _ _ _ => False) e s' → False) :
    codeAny (model P w) callerA (.call (.ref fa) ⟨[.ref a], []⟩) (fun r s' => r = .ok (.ret (.bool true)) ∧ OldK s1.heap s'.heap ∧ s'.os = s1.os ∧ AllBare s'.gens) s1 := by
  have rv := vals_ints hi
  have lenV := hi.length
  have way : ∀ H : Hp, Only H → SqL K H a (ns.map V.int) → HOk P w H s1.heap → (∀ b u, H b = some u → b = a) → (∀ u, H a = some u → K.lookup a = none) →
      codeAny (model P w) callerA (.call (.ref fa) ⟨[.ref a], []⟩) (fun r s' => r = .ok (.ret (.bool true)) ∧ OldK s1.heap s'.heap ∧ s'.os = s1.os ∧ AllBare s'.gens) s1 := by
    intro H hO hS hok hA hK
    have untr : ∀ {b : Addr} {o : Obj} {es : Array DictEntry} {ep : Nat}, s1.heap.get? b = some o → o.data = .dict es ep → H b = none := by
      intro b o es ep e d
      rcases q : H b with _ | u
      · rfl
      · obtain rfl := hA b u q
        rw [ha] at e
        cases e
        exact nomatch (show Data.seq vs.toArray _ = Data.dict es ep from d)
    have nsK : ∀ {b : Addr} {m : Str → Option Value}, s1.heap.Ns b m → (hidT s1.heap H).Ns b m := by
      rintro b m ⟨o, es, ep, e, d, r⟩
      exact ⟨o, es, ep, hidT_get e (untr e d), d, r⟩
    have hKb : K.In (hidT s1.heap H) := by
      intro b o e
      refine hidT_get (KX b o e) ?_
      rcases q : H b with _ | u
      · rfl
      · obtain rfl := hA b u q
        have z := hK u q
        rw [z] at e
        cases e
    have hM : Mod K mg (hidT s1.heap H) := by
      obtain ⟨mc, h1, h2⟩ := hlim
      exact ⟨hKb, nsK hns, ⟨mb, nsK hb, hbb⟩, ⟨mc, nsK h1, h2⟩⟩
    have e0 : Env0 P w K mg (hidT s1.heap H) callerA [] s1 H :=
      ⟨rfl, hM, fun b o e => of_hidT e, Nat.le_of_eq (hidT_size _ _), trivial, fun b z => (nomatch (show b ∈ ([] : List Addr) from z)), hok, .of_eq hgen⟩
    have run := (F _ hKb (nsK hns)).runG callerA [] s1 H ⟨[.ref a], []⟩ [.ref a] [.ref a] _ _ rfl hr e0 (hbind s1 (.ref a)) (.cons rfl .nil) (hsp H hO hS)
    refine codeAny_mono run fun r s' h => ?_
    match r, h with
    | .error e, h => exact (hCX H e s' h).elim
    | .ok .next, h => exact h.elim
    | .ok .brk, h => exact h.elim
    | .ok .cont, h => exact h.elim
    | .ok (.ret u), h =>
      obtain ⟨v, H', os, bare, un, hok2, r2, q⟩ := h
      obtain rfl : v = .bl true := q
      obtain rfl : u = Value.bool true := r2
      refine ⟨rfl, OldK.of_keep fun b o e => ?_, os, bare⟩
      rcases q : H b with _ | u
      · exact un.keep b o e q (fun z => (nomatch (show b ∈ ([] : List Addr) from z))) (by simp)
      · rcases hO b with z | ⟨ob, xs, z⟩
        · rw [q] at z
          cases z
        · have z2 := un.frzs b ob _ z
          obtain ⟨e1, _⟩ := hok b _ z
          obtain ⟨e2, _⟩ := hok2 b _ z2
          rw [e] at e1
          cases e1
          exact e2
  rcases hk : K.lookup a with _ | o
  · have at_a : ∀ {b : Addr} {u : HO}, (if b = a then some (HO.frz { cls := .type "list", data := .seq vs.toArray } (.lst (ns.map V.int))) else none) = some u → b = a ∧ u = .frz { cls := .type "list", data := .seq vs.toArray } (.lst (ns.map V.int)) := by
      intro b u z
      by_cases hba : b = a
      · rw [if_pos hba] at z
        exact ⟨hba, (Option.some.inj z).symm⟩
      · rw [if_neg hba] at z
        cases z
    refine way (fun b => if b = a then some (.frz { cls := .type "list", data := .seq vs.toArray } (.lst (ns.map V.int))) else none) (fun b => ?_) (.inl (.inr ⟨{ cls := .type "list", data := .seq vs.toArray }, if_pos rfl⟩)) (fun b u z => ?_) (fun b u z => (at_a z).1) fun u _ => hk
    · by_cases hba : b = a
      · exact .inr ⟨_, _, if_pos hba⟩
      · exact .inl (if_neg hba)
    · obtain ⟨rfl, rfl⟩ := at_a z
      exact ⟨ha, by rw [List.length_map]; exact hl, vs, _, rv, ha⟩
  · have e := KX a o hk
    rw [ha] at e
    cases e
    refine way (fun _ => none) (fun _ => .inl rfl) (.inr ⟨_, vs.toArray, _, hk, rfl, rfl, rfl, by rw [List.size_toArray, lenV]; exact hl, by simpa using rv⟩) (fun b u z => ?_) (fun b u z => ?_) fun u z => ?_
    · exact nomatch (show (none : Option HO) = some u from z)
    · exact nomatch (show (none : Option HO) = some u from z)
    · exact nomatch (show (none : Option HO) = some u from z)
theorem walk_G {l : PySem.W.OpenLaw} {n k : Nat} {q : Program} {loose : List Str} {XP : (Str → Option Value) → Heap → Prop} {YP : World → Heap → Prop} {d : DefRec} {K : Params → PySem.W.Frag} {CX : World → CXT} {sp : World → Sp} {x : Str}
    (hn : l.most = some n) (hn2 : n ≤ sizeLine) (hdf : d.params.defaults = []) (hr : Room k callerA)
    (hY : ∀ (w : World) (h : Heap), YP w h → (K w.params).In h)
    (F : ∀ (w : World) (mg : Str → Option Value) (fa : Addr) (h : Heap), (K w.params).In h → h.Ns mainGlobals mg → mg d.name = some (.ref fa) →
      ∃ fd : FuncData, (∀ (s : Shared) (u : Value), BindsTo s fd ⟨[u], []⟩ [(x, u)]) ∧ ∀ base : Heap, (K w.params).In base → base.Ns mainGlobals mg → FnG l.prog w (K w.params) mg base (CX w) k fa fd [x] (sp w))
    (hsp : ∀ (w : World) (H : Hp) (a : Addr) (ns : List Int), ns.length ≤ n → (∀ z ∈ ns, Builtin.Int.intBits z ≤ 1048576) → Only H → SqL (K w.params) H a (ns.map V.int) → sp w [.ref a] H (fun v _ => v = .bl true) fun _ _ _ => False)
    (hCX : ∀ (w : World) (H : Hp) (s : Shared) (e : Value) (s' : Shared), CX w [] H s (fun _ _ _ => False) e s' → False) :
    PySem.W.WalkO q loose XP YP l.row.toRowW d [] (fun f vs => PySem.call f vs) := by
  refine Att.attach_callB hn hdf fun w s0 s1 mg mb fa o pm cd doc a vs ns G Y ho hd hcd hmg hobj hints hlen hbits hgen => ?_
  obtain ⟨fd, hb, hF⟩ := F w mg fa _ (hY w _ Y) G.T.g hmg
  exact law_callG (hY w _ Y) G.T.g G.T.b G.T.builtins G.T.nolimit hgen hobj hints (Nat.le_trans hlen hn2) hr hF hb (fun H hO hS => hsp w H a ns hlen hbits hO hS) fun H e s' => hCX w H s1 e s'
end Mz
set_option Elab.async false
set_option linter.all false
set_option maxRecDepth 100000
set_option maxHeartbeats 4000000
/-! try with several clauses «except X as n», the exception met by one of them; what else stands behind these clauses is never looked at -/
namespace Mz
open PySem PySem.Spec PyProof.Rows L2
/-- a clause: the class, the slot of its name, its suite -/
abbrev Cl := Value × Nat × (Addr → Value → Option Addr → TS)
def endsAs (i : Nat) (D : Ends) : Ends := { nx := fun t G => D.nx (t.set i none) G, rt := D.rt, bk := fun t G => D.bk (t.set i none) G, ct := fun t G => D.ct (t.set i none) G }
def wNam (K : PySem.W.Frag) (D : Ends) : List Cl → WX
  | [] => fun _ _ _ _ => False
  | (c, i, ts) :: r => fun cls d t G => ∃ b, PySem.W.exmOne K cls c = some b ∧ (b = true → ∀ a, G a = none → ts a cls d (endsAs i D) (t.set i (some (.ref a))) G) ∧ (b = false → wNam K D r cls d t G)
inductive Cls_ (X : Cx) : List ExceptHandler → List Cl → Prop
  | any (l : List ExceptHandler) : Cls_ X l []
  | one {x n : Str} {c : Value} {i : Nat} {ts : Addr → Value → Option Addr → TS} {st : Stmt} {suite : List Stmt} {p1 p2 : Pos} {hs : List ExceptHandler} {l : List Cl} (hi : X.N[i]? = some n) (hl : X.env.kindOf n = some .local) (hc : Names X x c)
      (hsu : ∀ (a : Addr) (oe : Obj) (cls : Value) (d : Option Addr) (pn : List (Addr × Obj)), Zc cls d oe → (∃ vs, oe.data = .fields vs) → PSs (X.suite a ((a, oe) :: pn)) (st :: suite) (ts a cls d)) (r : Cls_ X hs l) :
      Cls_ X (.ExceptHandler (some (.Name x p1)) (some n) (st :: suite) p2 :: hs) ((c, i, ts) :: l)
section
variable {X : Cx} {body : List Stmt} {hd0 : ExceptHandler} {hds : List ExceptHandler} {tb : WX → TS} {l : List Cl} {pos : Pos}
theorem ps_try_named (hst : X.stack = X.env :: X.outer) (hfr : X.env.frame = some X.env.locals) (hN : X.N.Nodup)
    (hb : ∀ (W : WX) (pn : List (Addr × Obj)) (xe : Value → Shared → Prop), Takes (X.tr pn xe) W → PassesOwn (model X.prog X.w) X.A X.env xe → PSs (X.tr pn xe) body (tb W))
    (hh : Cls_ X (hd0 :: hds) l) : PS X (.Try body (hd0 :: hds) [] [] pos) (fun D σ H => tb (wNam X.K D l) D σ H) := by
  refine ⟨fun pins s σ H D I h => ?_⟩
  have ok := I.ok
  have frames : X.A.frames = some (X.env :: X.outer) := ok.frames.trans (congrArg some hst)
  refine wpAny_Try_except (wpAny_mono ((hb (wNam X.K D l) (X.pn ++ pins) (fun e q1 => wpAny (model X.prog X.w) X.A (noteFrame e X.env) (fun _ q2 => wpAny (model X.prog X.w) X.A (setFlight e none) (fun _ q3 =>
    wpAny (model X.prog X.w) X.A (handleBy e X.env (hd0 :: hds)) (SP X pins D) X.xe q3) X.xe q2) X.xe q1) (fun u s' xx => ?_) PassesOwn.looking).run [] s σ H D (I.toTry _) h) (fun f q1 hsp => ?_) fun e q1 he => he)
  · obtain ⟨a, B, sI, pins2, t, G, cls, d, rfl, JT, nb, up, sky, na, os, ag, wish⟩ := xx
    have J : Inv X pins t G sI := JT.ofTry ok
    have sky2 : Sky B (X.env :: X.outer) a (Zc cls d) X.env.locals s'.heap := hst ▸ sky
    show wpAny (model X.prog X.w) X.A (noteFrame (.ref a) X.env) _ _ _
    refine Sky.land Zc.steady frames hfr sky2 fun g3 fl3 up3 => ?_
    have J3 : Inv X pins t G { s' with heap := g3 } := J.landed nb fl3.1 (up.trans up3) os ag
    obtain ⟨oe3, vs3, he3, hz3, hd3⟩ := fl3.there
    have off : a ∉ frs (X.env :: X.outer) := by
      intro hm
      obtain ⟨_, o2, e2, hnf⟩ := fl3.2.2.1.mem hm
      rw [he3] at e2
      cases e2
      exact hnf _ hd3
    have nL : a ≠ X.env.locals := fun z => off (List.mem_filterMap.mpr ⟨X.env, List.mem_cons_self, by rw [hfr, z]⟩)
    have nF : a ∉ X.fs := by
      intro hm
      obtain ⟨e, he, q⟩ := List.mem_filterMap.mp hm
      exact off (List.mem_filterMap.mpr ⟨e, List.mem_cons_of_mem _ he, q⟩)
    have S3 := J3.suite he3 hd3 na nL nF
    have go : ∀ {k : List ExceptHandler} {m : List Cl}, Cls_ X k m → wNam X.K D m cls d t G → wpAny (model X.prog X.w) X.A (handleBy (.ref a) X.env k) (SP X pins D) X.xe { s' with heap := g3 } := by
      intro k m hk
      induction hk with
      | any k => exact fun z => z.elim
      | @one x n c i ts st suite p1 p2 k2 m2 hi hl hc hsu r ih =>
        rintro ⟨b, hb1, hyes, hno⟩
        have locn : Loc X.env.scope n := .inl hl
        refine wpAny_handleBy_cons (codeAny_handlers_test ?_) (by intro q; cases q)
        have typ : PySem.W.Looks (model X.prog X.w) g3 (typeOf (.ref a)) cls := fun A Q E s k q => wpAny_typeOf_ref (k _ _ he3) (by rw [hz3.1]; exact q)
        have met := PySem.W.exm_one (M := model X.prog X.w) (J3.kIn) typ hb1
        have load : ∀ {Q : Value → Shared → Prop} {E : Value → Shared → Prop}, Q c { s' with heap := g3 } → wpAny (model X.prog X.w) (X.A.mark (some (.ref a))) (eval (.Name x p1) X.env) Q E { s' with heap := g3 } := by
          intro Q E q
          obtain ⟨h1, h2, h3 | ⟨h3, h4, h5⟩⟩ := hc
          · exact ld_glob (X := X.suite a ((a, oe3) :: (X.pn ++ pins))) S3 h1 h3 q h2
          · exact ld_blt (X := X.suite a ((a, oe3) :: (X.pn ++ pins))) S3 h1 h3 h4 q h5 h2
        refine load (met.here ?_)
        cases b with
        | false => exact ih (hno rfl)
        | true =>
          refine codeAny_handlers_suite_as (HandSPX.lands_againZ fl3 fun g4 fl4 up4 => ?_)
          have J4 : Inv X pins t G { s' with heap := g4 } := J.landed nb fl4.1 ((up.trans up3).trans up4) os ag
          obtain ⟨oe4, vs4, he4, hz4, hd4⟩ := fl4.there
          have S4 := J4.suite he4 hd4 na nL nF
          refine store_ok (X := X.suite a ((a, oe4) :: (X.pn ++ pins))) (v := .ref a) S4 hN hi locn rfl (fun q5 S5 => ?_) (.inr hl)
          refine wpAny_mono ((hsu a oe4 cls d (X.pn ++ pins) hz4 ⟨_, hd4⟩).run [] q5 _ G _ S5 (hyes rfl a na)) (fun f q6 hsp => ?_) (fun _ _ z => z.elim)
          have fin : ∀ {t6 : L2.St} {G6 : Hp} {Q : Shared → Prop}, Inv (X.suite a ((a, oe4) :: (X.pn ++ pins))) [] t6 G6 q6 → (∀ q7, Inv X pins (t6.set i none) G6 q7 → Q q7) →
              wpAny (model X.prog X.w) X.A (do bindName X.env n .none; unbindBehindTheSuite X.env n p2) (fun _ q7 => Q q7) X.xe q6 := fun S6 hq => gone_ok (S6.unsuite ok) hN hi hl hq
          match f, hsp with
          | .next, ⟨t6, G6, S6, q6⟩ => exact fin S6 fun _ J7 => ⟨_, _, J7, q6⟩
          | .brk, ⟨t6, G6, S6, q6⟩ => exact fin S6 fun _ J7 => ⟨_, _, J7, q6⟩
          | .cont, ⟨t6, G6, S6, q6⟩ => exact fin S6 fun _ J7 => ⟨_, _, J7, q6⟩
          | .ret u, ⟨v6, t6, G6, S6, r6, q6⟩ => exact fin S6 fun _ J7 => ⟨_, _, _, J7, r6, q6⟩
    first
      | exact go hh wish
      | exact HandSPX.setFlight_upZ fl3 fun h4 hh4 up4 => go hh wish
  · match f, hsp with
    | .next, ⟨t, G, J, q⟩ => exact wpAny_execs_nil ⟨t, G, J.ofTry ok, q⟩
    | .brk, ⟨t, G, J, q⟩ => exact ⟨t, G, J.ofTry ok, q⟩
    | .cont, ⟨t, G, J, q⟩ => exact ⟨t, G, J.ofTry ok, q⟩
    | .ret u, ⟨v, t, G, J, r, q⟩ => exact ⟨v, t, G, J.ofTry ok, r, q⟩
end
end Mz
set_option Elab.async false
set_option linter.all false
set_option maxRecDepth 100000
set_option maxHeartbeats 4000000
/-! own exceptions whose __init__ calls the __init__ of an own base by its name -/
namespace Mz
open PySem PySem.Spec PyProof.Rows L2
section
variable {X : Cx} {o e : Expr} {es : List Expr} {ta : TA} {x : Str} {cM : Addr} {p1 p2 pos : Pos}
/-- MapError.__init__(self, ..): what stands there is the built-in one -/
theorem pe_meinit {pl : Sem Bool} (hg : Gl X x) (hm : X.mg x = some (.ref cM)) (rd : ClX.CRead X.K cM (.type "type")) (fc : PySem.W.findCls X.K (.ref cM) (.type "type") "__init__" = some (.val (.builtin "ValueError.__init__"))) (ha : PA X (e :: es) ta)
    (hc : eval (.Call (.Attribute (.Name x p1) "__init__" p2) (e :: es) [] pos) X.env = (do
      let ov ← eval (.Name x p1) X.env
      standAt p2.atName
      let (f, first) ← holding [ov] (getMethod ov "__init__" pl)
      callWith pos f first (backTo pos (starEach (e :: es) X.env)) (backToKw pos (keywordEach [] X.env))) := by rfl)
    (hdb : (x == ("__debug__" : Str)) = false := by decide) (he : starEach (e :: es) X.env = (false, eval e X.env) :: starEach es X.env := by rfl) (hpl : (backTo pos (starEach es X.env)).any (·.1) = false := by rfl) :
    PE X (.Call (.Attribute (.Name x p1) "__init__" p2) (e :: es) [] pos) (tVeI X.K ta) := by
  refine ⟨fun pins s σ H Q I h => PySem.W.methodCall_KW (ld_glob I hg hm ?_ hdb) hc⟩
  refine PySem.W.method_cls I.kIn rd.ga (PySem.W.cls_value I.kIn rd.rd fc (by decide +kernel) ?_)
  show wpAny _ _ (callWith pos (Value.builtin "ValueError.__init__") [] (backTo pos (starEach (e :: es) X.env)) []) _ _ _
  refine PyProof.Rows.callWith_method1 (thn (ha.run pos pins _ σ H _ (I.tok _) h) fun us s1 hv => ?_) he hpl
  obtain ⟨vs, H1, I1, r1, a, C, ws, rfl, hl, T, ea, q⟩ := hv
  cases r1 with
  | @cons _ u0 _ ur ra rw2 =>
    obtain rfl : u0 = Value.ref a := ra
    have short : ur.length ≤ sizeLine := by
      have e2 := Paired.length rw2
      have e3 := sizeLine_eq
      omega
    exact oinit_ok T I1 ea short fun s2 J => ⟨.non, H1, J, rfl, q⟩
end
/-- an exception of one field that is being made: it is at a, no dict as yet; behind __init__ its dict holds the field -/
def spX1 (K : PySem.W.Frag) (C : Addr) (f : Str) : Sp := fun vs H Q _ => ∃ (a : Addr) (v : V), vs = [.ref a, v] ∧ H a = some (exo a C none) ∧
  ∀ dx, H dx = none → dx ≠ a → Q .non (upd (upd H dx (exd dx [(f, v)])) a (exo a C (some dx)))
end Mz
set_option Elab.async false
set_option linter.all false
set_option maxRecDepth 100000
set_option maxHeartbeats 4000000
/-! what an own class says of str, ==, !=, + -/
namespace Mz
open PySem PySem.Spec PyProof.Rows L2
section
variable {X : Cx} {CX : CXT} {k : Nat} {f C : Addr} {fd : FuncData} {ps : List Str} {sp : Sp} {E : XK}
/-- a def of the text called at another place of the same run -/
theorem run_at {pins : List (Addr × Obj)} {σ : L2.St} {H : Hp} {s : Shared} {A : Around} {Q : VK} {us : List Value} {vs : List V} {E2 : Value → Shared → Prop} (F : FnOk X.prog X.w X.K X.mg X.base CX k f fd ps sp) (hr : Room k A) (e0 : Env0 X.prog X.w X.K X.mg X.base A X.stack s H)
    (hb : Binds X.K fd ps []) (hx : ∀ e s2, CX X.stack H s E e s2 → E2 e s2) (I : Inv X pins σ H s) (r : Vals vs us) (h : sp vs H Q E) : wpAny (model X.prog X.w) A (call (.ref f) us) (EP X pins σ Q) E2 s := by
  have hl : (us ++ []).length = ps.length := by
    rw [List.append_nil]
    exact r.length.symm.trans (F.len _ _ _ _ h)
  have hbi := hb s us I.kIn hl
  rw [List.append_nil] at hbi
  refine wpAny_call (codeAny_mono (F.run A X.stack s H ⟨us, []⟩ us vs Q E hr e0 hbi r h) fun r s2 hq => ?_)
  match r, hq with
  | .error e, hq => exact hx e s2 hq
  | .ok (.ret u), hq => exact I.after hq
  | .ok .next, hq => exact hq.elim
  | .ok .brk, hq => exact hq.elim
  | .ok .cont, hq => exact hq.elim
/-- str(x) by the own __str__ -/
theorem call_strO (F : FnOk X.prog X.w X.K X.mg X.base CX0 k f fd ps sp) (hr : Room (k + 2) X.A) (hb : Binds X.K fd ps []) (hs : PySem.W.findIn X.K (.ref C) "__str__" = some (some (.ref f))) (hf : PySem.W.isFn X.K (.ref f) = true) :
    CallR X (.type "str") (fun xs H Q => ∃ a dx fs, xs = [.ref a] ∧ H a = some (.ins C dx fs) ∧ sp [.ref a] H (fun v H2 => ∃ z : Str, v = .str z ∧ Q (.str z) H2) E0) := by
  intro pins s σ H xs us Q I r h
  obtain ⟨a, dx, fs, rfl, ha, q⟩ := h
  obtain ⟨u, rfl, rx⟩ := vals1 r
  obtain rfl : u = Value.ref a := rx
  obtain ⟨mA, O, _⟩ := ins_get I.hok ha
  obtain ⟨od, J, _⟩ := O.look
  refine PySem.W.kso_call hr.in1.in1.units0 I.kIn J hs hf (wpAny_mono (run_at (E := E0) (vs := [.ref a]) (us := [.ref a]) F hr.in1.in1 I.env0.in1.in1 hb (fun _ _ z => z.elim) I (.cons rfl .nil) q) (fun u s2 hv => ?_) fun _ _ z => z)
  obtain ⟨v, H2, I2, rv, z, rfl, q2⟩ := hv
  obtain ⟨t, rfl⟩ := rv
  exact ⟨.str z, H2, I2, ⟨t, rfl⟩, q2⟩
/-- what stands on the other side of == : its type, no class below C -/
def Oth (K : PySem.W.Frag) (C : Addr) (H : Hp) (y : V) : Prop := ∃ t, TyX K H y t ∧ PySem.W.notFirst K C t = true
theorem op_eqO (F : FnOk X.prog X.w X.K X.mg X.base CX0 k f fd ps sp) (hr : Room k X.A) (hb : Binds X.K fd ps []) (hs : PySem.W.findIn X.K (.ref C) "__eq__" = some (some (.ref f))) (hf : PySem.W.isFn X.K (.ref f) = true) :
    OpR X (compareOp .Eq) (fun x y H Q => ∃ a dx fs, x = .ref a ∧ H a = some (.ins C dx fs) ∧ Oth X.K C H y ∧ sp [.ref a, y] H (fun v H2 => ∃ b : Bool, v = .bl b ∧ Q (.bl b) H2) E0) := by
  intro pins s σ H x y v u Q I rx ry h
  obtain ⟨a, dx, fs, rfl, ha, ⟨t, ty, nf⟩, q⟩ := h
  obtain rfl : v = Value.ref a := rx
  obtain ⟨mA, O, _⟩ := ins_get I.hok ha
  obtain ⟨od, J, _⟩ := O.look
  obtain ⟨m, hF⟩ := I.fr
  obtain ⟨P, Z, hp, _⟩ := kit_of I ry ty
  refine PySem.W.cmp_ofEq (PySem.W.cmp_K (op := .Eq) hr.units0 hF I.ok.mod.kin J (Z.ty _ _ I.kIn hp) nf hs hf (wpAny_mono (run_at (E := E0) (vs := [.ref a, y]) (us := [.ref a, u]) F hr I.env0 hb (fun _ _ z => z.elim) I (.cons rfl (.cons ry .nil)) q) (fun u s2 hv => ?_) fun _ _ z => z))
  obtain ⟨v, H2, I2, rv, b, rfl, q2⟩ := hv
  obtain rfl : u = Value.bool b := rv
  exact ⟨.bl b, H2, I2, rfl, q2⟩
/-- object.__ne__ by the own __eq__ -/
theorem op_neO (F : FnOk X.prog X.w X.K X.mg X.base CX0 k f fd ps sp) (hr : Room (k + 1) X.A) (hb : Binds X.K fd ps []) (hs : PySem.W.findIn X.K (.ref C) "__eq__" = some (some (.ref f))) (hf : PySem.W.isFn X.K (.ref f) = true)
    (hn : PySem.W.findIn X.K (.ref C) "__ne__" = some (some (.builtin "object.__ne__"))) (hm : PySem.W.mroIn X.K C (.type "object") = some true) :
    OpR X (compareOp .NotEq) (fun x y H Q => ∃ a dx fs, x = .ref a ∧ H a = some (.ins C dx fs) ∧ Oth X.K C H y ∧ sp [.ref a, y] H (fun v H2 => ∃ b : Bool, v = .bl b ∧ Q (.bl (!b)) H2) E0) := by
  intro pins s σ H x y v u Q I rx ry h
  obtain ⟨a, dx, fs, rfl, ha, ⟨t, ty, nf⟩, q⟩ := h
  obtain rfl : v = Value.ref a := rx
  obtain ⟨mA, O, _⟩ := ins_get I.hok ha
  obtain ⟨od, J, _⟩ := O.look
  obtain ⟨m, hF⟩ := I.fr
  obtain ⟨P, Z, hp, _⟩ := kit_of I ry ty
  have back : wpAny (model X.prog X.w) X.A.in1 (call (.ref f) [.ref a, u]) (fun r s2 => ∃ b, r = .bool b ∧ EP X pins σ Q (.bool (!b)) s2) X.xe s :=
    wpAny_mono (run_at (E := E0) (vs := [.ref a, y]) (us := [.ref a, u]) F hr.in1 I.env0.in1 hb (fun _ _ z => z.elim) I (.cons rfl (.cons ry .nil)) q) (fun r s2 hv => by
      obtain ⟨v, H2, I2, rv, b, rfl, q2⟩ := hv
      obtain rfl : r = Value.bool b := rv
      exact ⟨b, rfl, .bl (!b), H2, I2, rfl, q2⟩) fun _ _ z => z
  have body : wpAny (model X.prog X.w) X.A.in1 (Builtin.«object.__ne__» ⟨[.ref a, u], []⟩) (fun fin s2 => ∃ b : Bool, fin = .done (.ret (.bool b)) ∧ EP X pins σ Q (.bool b) s2) X.xe s := by
    unfold Builtin.«object.__ne__»
    refine wpAny_bind (m := slotArgs "__ne__" 1 _) (wpAny_pure ?_)
    refine wpAny_bind (m := cRoomFor _ _) (wpAny_cRoomFor hr.in1.units0 ?_)
    refine wpAny_bind (m := callSpecialIfBound? (.ref a) "__eq__" [u]) (PySem.W.ifBound_K I.kIn J hs hf (wpAny_mono back (fun r s2 hv => ?_) fun _ _ z => z))
    obtain ⟨b, rfl, e⟩ := hv
    exact wpAny_bind (wpAny_pure (wpAny_pure ⟨!b, rfl, e⟩))
  have sub : PySem.W.Looks (model X.prog X.w) s.heap (isInstance (.ref a) (.type "object")) true := J.type.andThen (PySem.W.looks_mroIn I.kIn hm)
  have ran : wpAny (model X.prog X.w) X.A (call (.builtin "object.__ne__") [.ref a, u]) (fun r s2 => ∃ b : Bool, r = .bool b ∧ EP X pins σ Q (.bool b) s2) X.xe s := by
    refine wpAny_call (codeAny_call_builtin PySem.F.slot_object_ne.plain PySem.F.entry_object_ne (PySem.W.check_slot (i := "object.__ne__") (owner := "object") (n := "__ne__") (by decide +kernel) (by decide +kernel) sub (PySem.F.args_object_ne_2 _ _) ?_))
    refine wpAny_mono body (fun fin s2 hv => ?_) fun _ _ z => z
    obtain ⟨b, rfl, e⟩ := hv
    exact ⟨b, rfl, e⟩
  have ask : wpAny (model X.prog X.w) X.A (callSpecialIfBound? (.ref a) "__ne__" [u]) (fun r s2 => ∃ b : Bool, r = some (.bool b) ∧ EP X pins σ Q (.bool b) s2) X.xe s := by
    simp only [callSpecialIfBound?, bindSpecialIfBound?]
    refine wpAny_holding (wpAny_bind (wpAny_bind (wpAny_bind (J.type.here ((PySem.W.looks_findIn I.kIn hn).here ?_)))))
    refine wpAny_bind (wpAny_askSetting (wpAny_ite ?_))
    have fin : wpAny (model X.prog X.w) X.A (call (.builtin "object.__ne__") ([.ref a] ++ [u]) >>= fun v => pure (some v)) (fun r s2 => ∃ b : Bool, r = some (.bool b) ∧ EP X pins σ Q (.bool b) s2) X.xe s :=
      wpAny_bind (wpAny_mono ran (fun v s2 hv => by
        obtain ⟨b, rfl, e⟩ := hv
        exact wpAny_pure ⟨b, rfl, e⟩) fun _ _ z => z)
    split
    · exact wpAny_bind ((PySem.W.Looks.of_pure (PySem.F.slot_object_ne.bind _)).here (wpAny_pure (by exact fin)))
    · exact wpAny_tryCatch (wpAny_bind ((PySem.W.Looks.of_pure (PySem.F.slot_object_ne.bind _)).here (wpAny_pure (by exact fin))))
  have one : wpAny (model X.prog X.w) X.A (tryCompare (.ref a) (cmpInfo .NotEq).2.1 u) (fun r s2 => ∃ v, r = some v ∧ EP X pins σ Q v s2) X.xe s := by
    unfold tryCompare
    refine wpAny_bind (wpAny_mono ask (fun r s2 hv => ?_) fun _ _ z => z)
    obtain ⟨b, rfl, e⟩ := hv
    exact wpAny_pure ⟨_, rfl, e⟩
  refine PySem.W.cmp_ofNotEq ?_
  unfold richCompare
  simp only [oneThing_ref]
  refine wpAny_holding (wpAny_bind (wpAny_cRoomFor (Nat.lt_of_lt_of_le hr.in1.units0 (Nat.le_refl _) |> fun z => Nat.lt_of_le_of_lt (Nat.le_succ _) z) ?_))
  refine wpAny_bind (J.type.here (wpAny_bind ((Z.ty _ _ I.kIn hp).here ?_)))
  have last : wpAny (model X.prog X.w) X.A (tryCompare (.ref a) (cmpInfo .NotEq).2.1 u) (fun r s2 => ∃ v, r = some v ∧ EP X pins σ Q v s2) X.xe s := one
  split
  · rename_i qn
    have e : PySem.W.subIn X.K t (.ref C) = some false := by
      rcases Bool.or_eq_true_iff.mp nf with e | e
      · rw [beq_iff_eq.mp e] at qn
        simp at qn
      · exact beq_iff_eq.mp e
    refine wpAny_bind ((PySem.W.looks_subIn I.kIn e).here ?_)
    simp only [Bool.false_eq_true, if_false]
    refine wpAny_bind (wpAny_mono last (fun r s2 z => ?_) fun _ _ e => e)
    obtain ⟨v, rfl, hq⟩ := z
    exact wpAny_pure hq
  · refine wpAny_bind (wpAny_pure ?_)
    simp only [Bool.false_eq_true, if_false]
    refine wpAny_bind (wpAny_mono last (fun r s2 z => ?_) fun _ _ e => e)
    obtain ⟨v, rfl, hq⟩ := z
    exact wpAny_pure hq
/-- what the class says of +, - with an int on the right -/
structure Arith (K : PySem.W.Frag) (C : Addr) (op : Operator) (f : Addr) : Prop where
  first : PySem.W.selfFirst K C = true
  own : PySem.W.findIn K (.ref C) (PySem.dunder op.info.2) = some (some (.ref f))
  fn : PySem.W.isFn K (.ref f) = true
  back : ∃ rc, PySem.W.findIn K (.ref C) (dunderR op.info.2) = some rc ∧ (rc = none ∨ ∃ g : Addr, rc = some (.ref g))
  io : ∃ fo, PySem.W.findIn K (.type "int") (PySem.dunder op.info.2) = some fo
  ir : ∃ ro, PySem.W.findIn K (.type "int") (dunderR op.info.2) = some ro
  sub : PySem.W.subIn K (.type "int") (.ref C) = some false
theorem op_binO {op : Operator} (F : FnOk X.prog X.w X.K X.mg X.base CX0 k f fd ps sp) (hr : Room k X.A) (hb : Binds X.K fd ps []) (T : Arith X.K C op f) :
    OpR X (binaryOp op) (fun x y H Q => ∃ a dx fs i, x = .ref a ∧ y = .int i ∧ H a = some (.ins C dx fs) ∧ sp [.ref a, y] H (fun v H2 => (∃ p, v = .ref p) ∧ Q v H2) E0) := by
  intro pins s σ H x y v u Q I rx ry h
  obtain ⟨a, dx, fs, i, rfl, rfl, ha, q⟩ := h
  obtain rfl : v = Value.ref a := rx
  obtain ⟨t, rfl⟩ := ry
  obtain ⟨mA, O, _⟩ := ins_get I.hok ha
  obtain ⟨od, J, _⟩ := O.look
  obtain ⟨m, hF⟩ := I.fr
  obtain ⟨rc, b1, b2⟩ := T.back
  obtain ⟨fo, c1⟩ := T.io
  obtain ⟨ro, c2⟩ := T.ir
  refine PySem.W.ksp_binT (T := "int") hF I.ok.mod.kin J rfl T.first T.own T.fn b1 b2 c1 c2 T.sub (wpAny_mono (run_at (E := E0) (vs := [.ref a, .int i]) (us := [.ref a, .int i t]) F hr I.env0 hb (fun _ _ z => z.elim) I (.cons rfl (.cons ⟨t, rfl⟩ .nil)) q) (fun r s2 hv => ?_) fun _ _ z => z)
  obtain ⟨v, H2, I2, rv, ⟨p, rfl⟩, q2⟩ := hv
  obtain rfl : r = Value.ref p := rv
  exact ⟨.ref p, H2, I2, rfl, q2⟩
end
end Mz
set_option Elab.async false
set_option linter.all false
set_option maxRecDepth 100000
set_option maxHeartbeats 4000000
/-! + and - with an instance of an own class on one side, where the own def may raise -/
namespace Mz
open PySem PySem.Spec PyProof.Rows L2
section
variable {prog : Program} {w : World} {A : Around} {E : Value → Shared → Prop} {s : Shared} {K : PySem.W.Frag} {x C f : Addr} {ox : Obj} {od : Option Obj} {T : String} {op : Operator}
open PySem.W in
/-- the instance is on the left, on the right is a value of a built-in type -/
theorem bin1_type {b : Value} {fo ro rc : Option Value} {Q : Value → Shared → Prop} (X : K.In s.heap) (J : InstAt s.heap x ox C od) (hb : ∀ h : Heap, s.heap = h → Looks (model prog w) h (typeOf b) (.type T)) (first : selfFirst K C = true)
    (own : findIn K (.ref C) (PySem.dunder op.info.2) = some (some (.ref f))) (fn : isFn K (.ref f) = true) (back : findIn K (.ref C) (dunderR op.info.2) = some rc) (how : rc = none ∨ ∃ g : Addr, rc = some (.ref g))
    (t1 : findIn K (.type T) (PySem.dunder op.info.2) = some fo) (t2 : findIn K (.type T) (dunderR op.info.2) = some ro) (low : subIn K (.type T) (.ref C) = some false)
    (run : wpAny (model prog w) A (call (.ref f) [.ref x, b]) (PySem.W.CmpBack Q) E s) : wpAny (model prog w) A (binaryOp1 op.info.2 (.ref x) b) (fun r s2 => ∃ v, r = some v ∧ Q v s2) E s := by
  obtain ⟨cd, rest, hcd, hm⟩ := ksp_first first
  rcases hi : op.info with ⟨sym, nm⟩
  rw [hi] at own back t1 t2
  have tried := ksp_try X J own fn run
  obtain ⟨hp, gn, dp, tk, os⟩ := s
  have K1 : Looks (model prog w) hp (typeOf (.ref x)) (.ref C) := J.type
  have K2 : Looks (model prog w) hp (typeOf b) (.type T) := hb _ rfl
  have K3 : Looks (model prog w) hp (fillsNumberSlot (.ref C) nm) true := fills_K X hcd hm own
  have K4 := ksp_fillsT (M := model prog w) X t1 t2
  have K5 : Looks (model prog w) hp (isSubtype (.type T) (.ref C)) false := looks_subIn X low
  have K6 : Looks (model prog w) hp (numberSlotInPython (.ref C) nm) true := ksp_inPy X own back how
  have K7 : Looks (model prog w) hp (numberSlotInPython (.type T) nm) false := Looks.of_pure rfl
  have K8 : Looks (model prog w) hp (typeLookup (.type T) (dunderR nm)) ro := looks_findIn X t2
  have unlike : (Value.ref C == Value.type T) = false := by
    cases e : (Value.ref C == Value.type T) with
    | false => rfl
    | true => cases beq_iff_eq.mp e
  revert K4
  generalize ((fo.isSome && !isSeqSlot fo) || (ro.isSome && !isSeqSlot ro)) = fills
  intro K4
  have fin : ∀ r s2, (∃ v, r = some v ∧ Q v s2) → wpAny (model prog w) A (pure r) (fun r s3 => ∃ v, r = some v ∧ Q v s3) E s2 := fun r s2 h => wpAny_pure h
  show wpAny (model prog w) A (binaryOp1 nm (.ref x) b) _ E _
  unfold binaryOp1
  refine wpAny_bind (K1.at (wpAny_bind (K2.at (wpAny_bind (K3.at ?_)))))
  simp only [unlike, Bool.false_eq_true, if_false]
  cases fills
  all_goals
    ksp_lk
    refine wpAny_mono tried (fun r s2 hr => ?_) fun _ _ z => z
    obtain ⟨v, rfl, hq⟩ := hr
    ksp_lk
    exact ⟨v, rfl, hq⟩
open PySem.W in
theorem bin_of1 {a b : Value} {Q : Value → Shared → Prop} (h : wpAny (model prog w) A (binaryOp1 op.info.2 a b) (fun r s2 => ∃ v, r = some v ∧ Q v s2) E s) : wpAny (model prog w) A (binaryOp op a b) Q E s := by
  rcases hi : op.info with ⟨sym, nm⟩
  rw [hi] at h
  simp only [binaryOp, hi]
  refine wpAny_holding (wpAny_bind (wpAny_mono h (fun r s2 hr => ?_) fun _ _ z => z))
  obtain ⟨v, rfl, hq⟩ := hr
  exact wpAny_pure hq
/-- a class whose types ahead of object know no += : it goes as + -/
theorem inp_of1 {b : Value} {Q : Value → Shared → Prop} (X : K.In s.heap) (J : PySem.W.InstAt s.heap x ox C od) (hc : (PySem.W.clsIn K C).map (·.mro) = some [.ref C, .type "object"]) (n1 : PySem.W.findIn K (.ref C) (dunderI op.info.2) = some none) (n2 : PySem.W.findIn K (.type "object") (dunderI op.info.2) = some none)
    (h : wpAny (model prog w) A (binaryOp1 op.info.2 (.ref x) b) (fun r s2 => ∃ v, r = some v ∧ Q v s2) E s) : wpAny (model prog w) A (inplaceOp op (.ref x) b) Q E s := by
  obtain ⟨cd, hcd, hm⟩ := Option.map_eq_some_iff.mp hc
  have no : PySem.W.Looks (model prog w) s.heap (fillsInplaceSlot (.ref C) op.info.2 (op == .Add)) false := by
    intro A2 Q2 E2 s2 k q2
    have Lm : PySem.W.Looks (model prog w) s.heap (mroOf (.ref C)) cd.mro := (PySem.W.looks_clsIn X hcd).andThen (f := fun cd => pure cd.mro) .now
    have L1 : PySem.W.Looks (model prog w) s.heap (typeLookup (.ref C) (dunderI op.info.2)) none := PySem.W.looks_findIn X n1
    have L2' : PySem.W.Looks (model prog w) s.heap (typeLookup (.type "object") (dunderI op.info.2)) none := PySem.W.looks_findIn X n2
    have M1 := Lm.keeps k
    have M2 := L1.keeps k
    have M3 := L2'.keeps k
    obtain ⟨hp, gn, dp, tk, os⟩ := s2
    unfold fillsInplaceSlot
    refine wpAny_bind (M1.at ?_)
    rw [hm, List.anyM_cons]
    refine wpAny_bind (wpAny_bind (M2.at (wpAny_pure ?_)))
    rw [if_neg Bool.false_ne_true, List.anyM_cons]
    refine wpAny_bind (wpAny_bind (M3.at (wpAny_pure ?_)))
    exact wpAny_pure q2
  unfold inplaceOp
  refine wpAny_holding (wpAny_bind (J.type.here (wpAny_bind (no.here ?_))))
  simp only [Bool.false_eq_true, if_false]
  refine wpAny_bind (wpAny_mono h (fun r s2 hr => ?_) fun _ _ z => z)
  obtain ⟨v, rfl, hq⟩ := hr
  exact wpAny_pure hq
open PySem.W in
/-- both sides are of the class -/
theorem bin_own {b : Value} {Q : Value → Shared → Prop} (X : K.In s.heap) (J : InstAt s.heap x ox C od) (hb : ∀ h : Heap, s.heap = h → Looks (model prog w) h (typeOf b) (.ref C)) (first : selfFirst K C = true)
    (own : findIn K (.ref C) (PySem.dunder op.info.2) = some (some (.ref f))) (fn : isFn K (.ref f) = true)
    (run : wpAny (model prog w) A (call (.ref f) [.ref x, b]) (PySem.W.CmpBack Q) E s) : wpAny (model prog w) A (binaryOp op (.ref x) b) Q E s := by
  obtain ⟨cd, rest, hcd, hm⟩ := ksp_first first
  rcases hi : op.info with ⟨sym, nm⟩
  rw [hi] at own
  have tried := ksp_try X J own fn run
  obtain ⟨hp, gn, dp, tk, os⟩ := s
  have K1 : Looks (model prog w) hp (typeOf (.ref x)) (.ref C) := J.type
  have K2 : Looks (model prog w) hp (typeOf b) (.ref C) := hb _ rfl
  have K3 : Looks (model prog w) hp (fillsNumberSlot (.ref C) nm) true := fills_K X hcd hm own
  have like : (Value.ref C == Value.ref C) = true := beq_self_eq_true _
  simp only [binaryOp, hi]
  refine wpAny_holding (wpAny_bind ?_)
  unfold binaryOp1
  refine wpAny_bind (K1.at (wpAny_bind (K2.at (wpAny_bind (K3.at ?_)))))
  simp only [like, if_true]
  ksp_lk
  refine wpAny_mono tried (fun r s2 hr => ?_) fun _ _ z => z
  obtain ⟨v, rfl, hq⟩ := hr
  ksp_lk
  exact hq
/-- int.__add__ declines what is an instance -/
theorem add_declines {b : Value} {dx : Addr} {Q : Value → Shared → Prop} (hx : s.heap.get? x = some (PySem.W.instObj C dx)) (hb : (∃ i t, b = .int i t) ∨ ∃ y, b = .bool y) (q : Q .notImplemented s) :
    wpAny (model prog w) A (call (.builtin "int.__add__") [b, .ref x]) Q E s := by
  have body : ∀ (A2 : Around) (E2 : Value → Shared → Prop) (Q2 : Fin → Shared → Prop), Q2 (.done (.ret .notImplemented)) s → wpAny (model prog w) A2 (Builtin.«int.__add__» ⟨[b, .ref x], []⟩) Q2 E2 s := by
    intro A2 E2 Q2 q2
    obtain ⟨hp, gn, dp, tk, os⟩ := s
    rcases hb with ⟨i, t, rfl⟩ | ⟨y, rfl⟩
    all_goals
      unfold Builtin.«int.__add__» Builtin.Int.intBinary
      refine wpAny_bind (m := slotArgs "__add__" 1 _) (wpAny_pure ?_)
      refine wpAny_bind (wpAny_pure ?_)
      refine wpAny_bind ?_
      show wpAny _ _ (asInt? (.ref x)) _ _ _
      unfold asInt?
      refine wpAny_bind (wpAny_load hx ?_)
      refine wpAny_pure ?_
      exact wpAny_bind (wpAny_rule (wpAny_pure q2))
  rcases hb with ⟨i, t, rfl⟩ | ⟨y, rfl⟩
  · exact wpAny_call (codeAny_call_builtin F.slot_int_add.plain F.entry_int_add (F.slot_int_add.check _ _ _ _ _ _ _ _ (typeIs_int s i t) (F.args_int_add_2 _ _) (body _ _ _ q)))
  · exact wpAny_call (codeAny_call_builtin F.slot_bool_add.plain F.entry_int_add (F.slot_bool_add.check _ _ _ _ _ _ _ _ rfl (F.args_int_add_2 _ _) (body _ _ _ q)))
open PySem.W in
/-- an int or a bool on the left, which declines, the instance on the right -/
theorem add_back {b : Value} {dx : Addr} {Q : Value → Shared → Prop} (X : K.In s.heap) (J : InstAt s.heap x ox C od) (hx : s.heap.get? x = some (PySem.W.instObj C dx)) (first : selfFirst K C = true) (own : findIn K (.ref C) (PySem.dunder "add") = some (some (.ref f))) {g : Addr} (back : findIn K (.ref C) (dunderR "add") = some (some (.ref g)))
    (fn : isFn K (.ref g) = true) (lo1 : subIn K (.ref C) (.type "int") = some false) (lo2 : subIn K (.ref C) (.type "bool") = some false) (hb : (∃ i t, b = .int i t) ∨ ∃ y, b = .bool y)
    (run : wpAny (model prog w) A (call (.ref g) [.ref x, b]) (PySem.W.CmpBack Q) E s) : wpAny (model prog w) A (binaryOp .Add b (.ref x)) Q E s := by
  obtain ⟨cd, rest, hcd, hm⟩ := ksp_first first
  have tried := ksp_try X J back fn run
  have no : ∀ {Q2 : Option Value → Shared → Prop}, Q2 none s → wpAny (model prog w) A (tryMethod b (PySem.dunder "add") (.ref x)) Q2 E s := by
    intro Q2 q
    have dec : wpAny (model prog w) A (call (.builtin "int.__add__") [b, .ref x]) (fun v s2 => v = .notImplemented ∧ Q2 none s2) E s := add_declines hx hb ⟨rfl, q⟩
    rcases id hb with ⟨i, t, e⟩ | ⟨y, e⟩
    · have ty : s.TypeIs b "int" := by
        rw [e]
        exact typeIs_int s i t
      exact wpAny_tryMethod_declines ty F.slot_int_add dec
    · have ty : s.TypeIs b "bool" := by
        rw [e]
        exact rfl
      exact wpAny_tryMethod_declines ty F.slot_bool_add dec
  have main : ∀ T : String, typeOf b = pure (.type T) → fillsNumberSlot (.type T) "add" = pure true → subIn K (.ref C) (.type T) = some false → wpAny (model prog w) A (binaryOp .Add b (.ref x)) Q E s := by
    intro T hty hf hlow
    have no2 := @no
    revert tried no2
    obtain ⟨hp, gn, dp, tk, os⟩ := s
    intro tried no2
    have K1 : Looks (model prog w) hp (typeOf b) (.type T) := Looks.of_pure hty
    have K2 : Looks (model prog w) hp (typeOf (.ref x)) (.ref C) := J.type
    have K3 : Looks (model prog w) hp (fillsNumberSlot (.type T) "add") true := Looks.of_pure hf
    have K4 : Looks (model prog w) hp (fillsNumberSlot (.ref C) "add") true := fills_K X hcd hm own
    have K5 : Looks (model prog w) hp (isSubtype (.ref C) (.type T)) false := looks_subIn X hlow
    have K6 : Looks (model prog w) hp (numberSlotInPython (.type T) "add") false := Looks.of_pure rfl
    have unlike : (Value.type T == Value.ref C) = false := by
      cases e : (Value.type T == Value.ref C) with
      | false => rfl
      | true => cases beq_iff_eq.mp e
    simp only [binaryOp, Operator.info]
    refine wpAny_holding (wpAny_bind ?_)
    unfold binaryOp1
    refine wpAny_bind (K1.at (wpAny_bind (K2.at (wpAny_bind (K3.at ?_)))))
    simp only [unlike, Bool.false_eq_true, if_false]
    ksp_lk
    refine no2 ?_
    ksp_lk
    refine wpAny_mono tried (fun r s2 hr => ?_) fun _ _ z => z
    obtain ⟨v, rfl, hq⟩ := hr
    ksp_lk
    exact hq
  rcases id hb with ⟨i, t, rfl⟩ | ⟨y, rfl⟩
  · exact main "int" rfl F.fills_int_add lo1
  · exact main "bool" rfl F.fills_bool_add lo2
end
/-! the rules -/
theorem back_of {X : Cx} {pins : List (Addr × Obj)} {σ : L2.St} {Q : VK} {u : Value} {s : Shared} (h : EP X pins σ Q u s) : PySem.W.CmpBack (EP X pins σ Q) u s := by
  cases u
  case notImplemented =>
    obtain ⟨v, H, I, r, q⟩ := h
    exfalso
    cases v <;> first | exact nomatch r | (obtain ⟨_, e⟩ := r; cases e)
  all_goals exact h
/-- what the class says of a operator's def on its left -/
structure Lty (K : PySem.W.Frag) (C : Addr) (op : Operator) (f : Addr) : Prop where
  first : PySem.W.selfFirst K C = true
  own : PySem.W.findIn K (.ref C) (PySem.dunder op.info.2) = some (some (.ref f))
  fn : PySem.W.isFn K (.ref f) = true
  back : ∃ rc, PySem.W.findIn K (.ref C) (dunderR op.info.2) = some rc ∧ (rc = none ∨ ∃ g : Addr, rc = some (.ref g))
/-- what a built-in type on the right says -/
structure Rty (K : PySem.W.Frag) (C : Addr) (op : Operator) (T : String) : Prop where
  io : ∃ fo, PySem.W.findIn K (.type T) (PySem.dunder op.info.2) = some fo
  ir : ∃ ro, PySem.W.findIn K (.type T) (dunderR op.info.2) = some ro
  sub : PySem.W.subIn K (.type T) (.ref C) = some false
def rLeft (K : PySem.W.Frag) (C : Addr) (op : Operator) (sp : Sp) (E : XK) : R2 := fun x y H Q => ∃ a dx fs, x = .ref a ∧ H a = some (.ins C dx fs) ∧ ((∃ T, TyX K H y (.type T) ∧ Rty K C op T) ∨ TyX K H y (.ref C)) ∧ sp [.ref a, y] H Q E
section
variable {X : Cx} {CX : CXT} {k : Nat} {f C : Addr} {fd : FuncData} {ps : List Str} {sp : Sp} {op : Operator} {E : L2.St → XK} {ea eb : Expr} {ta tb : TE} {pos : Pos}
theorem op_leftS (F : FnOk X.prog X.w X.K X.mg X.base CX k f fd ps sp) (hr : Room k X.A) (hb : Binds X.K fd ps []) (T : Lty X.K C op f) (hx : ∀ σ, PassesAt CX X σ (E σ)) (pins : List (Addr × Obj)) (s : Shared) (σ : L2.St) (H : Hp) (x y : V) (v u : Value) (Q : VK) (I : Inv X pins σ H s) (rx : RelV x v) (ry : RelV y u)
    (h : rLeft X.K C op sp (E σ) x y H Q) : wpAny (model X.prog X.w) X.A (binaryOp op v u) (EP X pins σ Q) X.xe s := by
  obtain ⟨a, dx, fs, rfl, ha, hy, q⟩ := h
  obtain rfl : v = Value.ref a := rx
  obtain ⟨mA, O, _⟩ := ins_get I.hok ha
  obtain ⟨od, J, _⟩ := O.look
  have run : wpAny (model X.prog X.w) X.A (call (.ref f) [.ref a, u]) (PySem.W.CmpBack (EP X pins σ Q)) X.xe s := wpAny_mono (run_fnS (vs := [.ref a, y]) (us := [.ref a, u]) F hr hb (hx σ) I (.cons rfl (.cons ry .nil)) q) (fun _ _ z => back_of z) fun _ _ z => z
  rcases hy with ⟨T2, ty, R⟩ | ty
  · obtain ⟨P, Z, hp, _⟩ := kit_of I ry ty
    obtain ⟨rc, b1, b2⟩ := T.back
    obtain ⟨fo, c1⟩ := R.io
    obtain ⟨ro, c2⟩ := R.ir
    exact bin_of1 (bin1_type I.kIn J (fun h e => by rw [← e]; exact Z.ty _ _ I.kIn hp) T.first T.own T.fn b1 b2 c1 c2 R.sub run)
  · obtain ⟨P, Z, hp, _⟩ := kit_of I ry ty
    exact bin_own I.kIn J (fun h e => by rw [← e]; exact Z.ty _ _ I.kIn hp) T.first T.own T.fn run
theorem pe_leftS {K : PySem.W.Frag} (F : FnOk X.prog X.w X.K X.mg X.base CX k f fd ps sp) (hr : Room k X.A) (hb : Binds X.K fd ps []) (T : Lty K C op f) (hx : ∀ σ, PassesAt CX X σ (E σ)) (ha : PE X ea ta) (hb2 : PE X eb tb) (hK : X.K = K := by rfl) :
    PE X (.BinOp ea op eb pos) (fun σ H Q => ta σ H fun x H1 => tb σ H1 fun y H2 => rLeft K C op sp (E σ) x y H2 Q) := by
  subst hK
  exact ⟨fun pins s σ H Q I h => wpAny_BinOp (binT ha hb2 I h fun v u s2 x y H2 I2 rx ry q => op_leftS F hr hb T hx pins s2 σ H2 x y v u Q I2 rx ry q)⟩
/-- += at a name that holds an instance -/
theorem pip_left (F : FnOk X.prog X.w X.K X.mg X.base CX k f fd ps sp) (hr : Room k X.A) (hb : Binds X.K fd ps []) (T : Lty X.K C op f) (R : Rty X.K C op "int") (hc : (PySem.W.clsIn X.K C).map (·.mro) = some [.ref C, .type "object"]) (n1 : PySem.W.findIn X.K (.ref C) (dunderI op.info.2) = some none) (n2 : PySem.W.findIn X.K (.type "object") (dunderI op.info.2) = some none)
    (hx : ∀ σ, PassesAt CX X σ E0) : InOp X op (fun x y H Q => ∃ a dx fs i, x = .ref a ∧ y = .int i ∧ H a = some (.ins C dx fs) ∧ sp [.ref a, y] H Q E0) := by
  intro pins s σ H x y v u Q I rx ry h
  obtain ⟨a, dx, fs, i, rfl, rfl, ha, q⟩ := h
  obtain rfl : v = Value.ref a := rx
  obtain ⟨mA, O, _⟩ := ins_get I.hok ha
  obtain ⟨od, J, _⟩ := O.look
  have run : wpAny (model X.prog X.w) X.A (call (.ref f) [.ref a, u]) (PySem.W.CmpBack (EP X pins σ Q)) X.xe s := wpAny_mono (run_fnS (E := fun _ => E0) (vs := [.ref a, .int i]) (us := [.ref a, u]) F hr hb (hx σ) I (.cons rfl (.cons ry .nil)) q) (fun _ _ z => back_of z) fun _ _ z => z
  obtain ⟨P, Z, hp, _⟩ := kit_of I ry (.base (.int i))
  obtain ⟨rc, b1, b2⟩ := T.back
  obtain ⟨fo, c1⟩ := R.io
  obtain ⟨ro, c2⟩ := R.ir
  exact inp_of1 I.kIn J hc n1 n2 (bin1_type I.kIn J (fun h e => by rw [← e]; exact Z.ty _ _ I.kIn hp) T.first T.own T.fn b1 b2 c1 c2 R.sub run)
def rBack (C : Addr) (sp : Sp) (E : XK) : R2 := fun x y H Q => ∃ a dx fs, y = .ref a ∧ H a = some (.ins C dx fs) ∧ ((∃ i, x = .int i) ∨ ∃ b, x = .bl b) ∧ sp [.ref a, x] H Q E
/-- int + instance -/
theorem pe_backS {fA : Addr} (F : FnOk X.prog X.w X.K X.mg X.base CX k f fd ps sp) (hr : Room k X.A) (hb : Binds X.K fd ps []) (first : PySem.W.selfFirst X.K C = true) (own : PySem.W.findIn X.K (.ref C) (PySem.dunder "add") = some (some (.ref fA))) (back : PySem.W.findIn X.K (.ref C) (dunderR "add") = some (some (.ref f))) (fn : PySem.W.isFn X.K (.ref f) = true)
    (lo1 : PySem.W.subIn X.K (.ref C) (.type "int") = some false) (lo2 : PySem.W.subIn X.K (.ref C) (.type "bool") = some false) (hx : ∀ σ, PassesAt CX X σ (E σ)) (ha : PE X ea ta) (hb2 : PE X eb tb) :
    PE X (.BinOp ea .Add eb pos) (fun σ H Q => ta σ H fun x H1 => tb σ H1 fun y H2 => rBack C sp (E σ) x y H2 Q) := by
  refine ⟨fun pins s σ H Q I h => wpAny_BinOp (binT ha hb2 I h fun v u s2 x y H2 I2 rx ry q => ?_)⟩
  obtain ⟨a, dx, fs, rfl, hH, hx2, q⟩ := q
  obtain rfl : u = Value.ref a := ry
  obtain ⟨mA, O, _⟩ := ins_get I2.hok hH
  obtain ⟨od, J, _⟩ := O.look
  have run : wpAny (model X.prog X.w) X.A (call (.ref f) [.ref a, v]) (PySem.W.CmpBack (EP X pins σ Q)) X.xe s2 := wpAny_mono (run_fnS (vs := [.ref a, x]) (us := [.ref a, v]) F hr hb (hx σ) I2 (.cons rfl (.cons rx .nil)) q) (fun _ _ z => back_of z) fun _ _ z => z
  refine add_back I2.kIn J O.1 first own back fn lo1 lo2 ?_ run
  rcases hx2 with ⟨i, rfl⟩ | ⟨b, rfl⟩
  · obtain ⟨t, rfl⟩ := rx
    exact .inl ⟨i, t, rfl⟩
  · exact .inr ⟨b, rx⟩
/-- a call that raises nothing here -/
theorem pass_no {σ : L2.St} : PassesAt (L2.CX X.prog X.w) X σ E0 := by
  intro pins H s e s2 I c
  obtain ⟨_, _, _, _, _, _, _, _, _, _, _, _, z⟩ := c
  exact z.elim
end
end Mz
set_option Elab.async false
set_option linter.all false
set_option maxRecDepth 100000
set_option maxHeartbeats 4000000
/-! calls of defs that raise nothing, within an except suite -/
namespace Mz
open PySem PySem.Spec PyProof.Rows L2
theorem roomC_in1 {k : Nat} {A : Around} (r : L2H.RoomH (k + 1) A) : L2H.RoomH k A.in1 := by
  have h1 := r.dp
  have h2 := r.un
  refine ⟨?_, ?_⟩
  · show A.depth + 3 * k + 5 < _
    omega
  · show A.units + 1 + 16 * k + 200 < _
    omega
/-- a promise that holds whatever is being handled -/
structure FnC (P : Program) (w : World) (K : PySem.W.Frag) (mg : Str → Option Value) (base : Heap) (k : Nat) (f : Addr) (fd : FuncData) (ps : List Str) (sp : Sp) : Prop where
  lenC : ∀ vs H Q E, sp vs H Q E → vs.length = ps.length
  runC : ∀ (A : Around) (outer : List Env) (s : Shared) (H : Hp) (args : Args) (us : List Value) (vs : List V) (Q : VK) (p : Addr × Obj),
    L2H.RoomH k A → L2H.PinOk outer H s p → Env0 P w K mg base A outer s H → BindsTo s fd args (ps.zip us) → Vals vs us → sp vs H Q E0 → codeAny (model P w) A (.call (.ref f) args) (CR CX0 outer P w H s Q E0) s
section
variable {P : Program} {w : World} {K : PySem.W.Frag} {mg : Str → Option Value} {base : Heap} {k : Nat} {f : Addr} {ps : List Str} {sp : Sp}
theorem fnC_of {name qual : Str} {params : Arguments} {body : List Stmt} {scope : Scope} {dV kV doc pm cdv ct oc : Value} {an od : Option Addr} {osl : Array (Option Value)} {N : List Str}
    (lk : K.lookup f = some ⟨oc, od, .func (PySem.W.fnOf name qual params body scope dV kV doc pm an cdv ct), osl⟩) (hcd : PySem.W.codeIn K cdv qual = true) (S : FnScope N ps scope)
    (len : ∀ vs H Q E, sp vs H Q E → vs.length = ps.length)
    (hb : ∀ (A : Around) (outer : List Env) (s : Shared) (H : Hp) (vs : List V) (Q : VK) (p : Addr × Obj), L2H.RoomH k (A.deeper (envOfC qual scope s.heap.objs.size f cdv)) → sp vs H Q E0 →
      ∃ t, PSs (L2H.cxH CX0 P w K mg base N qual scope f cdv A outer s H E0 p) body t ∧ t { nx := fun _ H' => Q .non H', rt := Q } (start N vs) H) :
    FnC P w K mg base (k + 1) f (PySem.W.fnOf name qual params body scope dV kV doc pm an cdv ct) ps sp := by
  refine ⟨len, fun A outer s H args us vs Q p hr pin e0 hbi r hsp => ?_⟩
  have lenv := len _ _ _ _ hsp
  have KX : K.In s.heap := e0.mod.kin.keeps fun b o e => (e0.bs b o e).1
  have lim : s.heap.NoLimit := e0.mod.nolimit.keeps fun b o e => (e0.bs b o e).1
  have kinds : ∀ y ∈ ps.zip us, scope.names.lookup y.1 = some .local ∨ (scope.names.lookup y.1 = some .cell ∧ ((cellsFrom (s.heap.objs.size + 1) scope.names []).lookup y.1).isSome = true) := by
    intro y hy
    obtain ⟨n, v⟩ := y
    rcases S.par n (List.of_mem_zip hy).1 with q | q
    · exact .inl q
    · exact .inr ⟨q, PySem.W.cellsFrom_some _ _ _ (.inl q)⟩
  refine codeAny_call_function hr.depth (KX _ _ lk) rfl S.co S.gen rfl (PySem.W.codeRec_of KX hcd) (hbi _ _ _ _ ?_)
  refine wpAny_newFunctionEnv_cells S.kind kinds fun env he s1 x => ?_
  subst he
  refine ⟨lim.keeps x.toInCall.keep, codeAny_func ?_⟩
  obtain ⟨t, ht, hq⟩ := hb A outer s H vs Q p (hr.deeper _) hsp
  have I : Inv (L2H.cxH CX0 P w K mg base N qual scope f cdv A outer s H E0 p) [] (start N vs) H s1 := L2H.inv_startH S pin e0 lenv r x
  refine wpAny_mono (ht.run [] s1 (start N vs) H _ I hq) (fun fl s' hs => ?_) fun e s' hs => hs
  cases fl with
  | ret u =>
    obtain ⟨v, σ', H', J, rv, q⟩ := hs
    exact ⟨v, H', J.os, J.bare, J.base, J.hok, rv, q⟩
  | next =>
    obtain ⟨σ', H', J, q⟩ := hs
    exact ⟨V.non, H', J.os, J.bare, J.base, J.hok, rfl, q⟩
  | brk =>
    obtain ⟨_, _, _, q⟩ := hs
    exact q.elim
  | cont =>
    obtain ⟨_, _, _, q⟩ := hs
    exact q.elim
theorem fun_okC {x qual : Str} {st : Stmt} {fd : FuncData} {N : List Str} (F : Fun K x qual st f fd) (S : FnScope N ps (defScope st)) (len : ∀ vs H Q E, sp vs H Q E → vs.length = ps.length)
    (hb : ∀ (cdv : Value) (A : Around) (outer : List Env) (s : Shared) (H : Hp) (vs : List V) (Q : VK) (p : Addr × Obj), L2H.RoomH k (A.deeper (envOfC qual (defScope st) s.heap.objs.size f cdv)) → sp vs H Q E0 →
      ∃ t, PSs (L2H.cxH CX0 P w K mg base N qual (defScope st) f cdv A outer s H E0 p) (defBody st) t ∧ t { nx := fun _ H' => Q .non H', rt := Q } (start N vs) H) : FnC P w K mg base (k + 1) f fd ps sp := by
  obtain ⟨oc, od, kV, doc, pm, an, cdv, ct, osl, rfl, lk, hcd⟩ := F.ex
  exact fnC_of lk hcd S len fun A outer s H vs Q p hr hsp => hb cdv A outer s H vs Q p hr hsp
end
/-- e.f, a property, within a suite -/
theorem pe_propC {X : Cx} {k : Nat} {C p g : Addr} {f : Str} {fd : FuncData} {ps : List Str} {sp : Sp} {e : Expr} {pos : Pos} {ta : TE} {pin : Addr × Obj} (he : PE X e ta) (c : Cls X.K C) (hp : PropOf X.K C f p g) (F : FnC X.prog X.w X.K X.mg X.base k g fd ps sp) (hr : L2H.RoomH (k + 1) X.A) (hm : pin ∈ X.pn) (hb : Binds X.K fd ps [])
    (hab : attributeBase e f X.env (eval e X.env) = eval e X.env) : PE X (.Attribute e f pos) (tProp C sp [] E0 ta) := by
  refine ⟨fun pins s σ H Q I h => ?_⟩
  refine attr_of hab (thn (he.run pins s σ H _ I h) fun u s1 hv => ?_)
  obtain ⟨x, H1, I1, rx, a, dx, fs, rfl, ea, q⟩ := hv
  obtain rfl : u = Value.ref a := rx
  obtain ⟨mA, O, _⟩ := ins_get I1.hok ea
  obtain ⟨od, J, _⟩ := O.look
  obtain ⟨rest, hrec⟩ := hp.rec_
  have I2 := I1.tok (s1.toks + 1)
  have hl : ([Value.ref a] ++ []).length = ps.length := F.lenC _ _ _ _ q
  have hc : (PySem.W.clsIn X.K C).isSome = true := by
    obtain ⟨cd, hcd, _⟩ := PySem.W.any_some c.hd
    rw [hcd]
    rfl
  refine PySem.W.get_bind I1.kIn J (PySem.W.plainGet_of (c.get f)).1 (PySem.W.findObj_data hc hp.at_ hp.get hp.tak) (PySem.W.plainGet_of (c.get f)).2 (wpAny_call (PySem.W.prop_get (s := { s1 with toks := s1.toks + 1 }) I1.kIn hrec ?_))
  have P1 := I2.pin pin (List.mem_append_left _ hm)
  have pok : L2H.PinOk X.stack H1 { s1 with toks := s1.toks + 1 } pin := ⟨P1.1, P1.2.1, fun z => (List.mem_cons.mp (I2.stkSub pin.1 z)).elim P1.2.2.1 P1.2.2.2.1, P1.2.2.2.2⟩
  have bind := hb { s1 with toks := s1.toks + 1 } [.ref a] I2.kIn hl
  rw [List.append_nil] at bind
  refine codeAny_mono (F.runC X.A.in1 X.stack { s1 with toks := s1.toks + 1 } H1 ⟨[.ref a], []⟩ [.ref a] [.ref a] Q pin (roomC_in1 hr) pok I2.env0.in1 bind (.cons rfl .nil) q) fun r s' hq => ?_
  match r, hq with
  | .error er, hq => exact hq.elim
  | .ok .next, hq => exact hq.elim
  | .ok .brk, hq => exact hq.elim
  | .ok .cont, hq => exact hq.elim
  | .ok (.ret u), hq =>
    obtain ⟨v, H', I3, rv, q3⟩ := I2.after hq
    show wpAny _ _ (handedOut u) _ _ _
    rw [PySem.W.handedOut_of (handed_of rv)]
    exact wpAny_pure ⟨v, H', I3, rv, q3⟩
end Mz
set_option Elab.async false
set_option linter.all false
set_option maxRecDepth 100000
set_option maxHeartbeats 4000000
/-! a small int in a field of an f-string with its sign written -/
namespace Mz
open PySem PySem.Spec PyProof.Rows L2 PySem.W
def signS (i : Int) : Str := if i = 1 then "+1" else if i = 2 then "+2" else if i = 3 then "+3" else if i = -1 then "-1" else if i = -2 then "-2" else "-3"
theorem small_six {i : Int} (h0 : -3 ≤ i) (h1 : i ≤ 3) (h : i ≠ 0) : i = 1 ∨ i = 2 ∨ i = 3 ∨ i = -1 ∨ i = -2 ∨ i = -3 := by omega
theorem fmt_plus {prog : Program} {w : World} {A : Around} {E : Value → Shared → Prop} {s : Shared} {i : Int} {t : Tok} {Q : Value → Shared → Prop} (h0 : -3 ≤ i) (h1 : i ≤ 3) (hz : i ≠ 0) (h : ∀ u k, Q (.str (signS i) u) { s with toks := k }) :
    wpAny (model prog w) A (formatField (.int i t) ("+d" : Str)) Q E s := by
  rcases small_six h0 h1 hz with rfl | rfl | rfl | rfl | rfl | rfl
  · exact KXf.field_int (y := "+1") rfl (by decide +kernel) (by decide +kernel) (by kxf_run_i) h
  · exact KXf.field_int (y := "+2") rfl (by decide +kernel) (by decide +kernel) (by kxf_run_i) h
  · exact KXf.field_int (y := "+3") rfl (by decide +kernel) (by decide +kernel) (by kxf_run_i) h
  · exact KXf.field_int (y := "-1") rfl (by decide +kernel) (by decide +kernel) (by kxf_run_i) h
  · exact KXf.field_int (y := "-2") rfl (by decide +kernel) (by decide +kernel) (by kxf_run_i) h
  · exact KXf.field_int (y := "-3") rfl (by decide +kernel) (by decide +kernel) (by kxf_run_i) h
section
variable {X : Cx}
theorem pe_fmtP {e : Expr} {te : TE} {j : Nat} {p1 p2 pos : Pos} (he : PE X e te) : PE X (.FormattedValue e (-1) (some (.JoinedStr [.Constant (.str "+d") j p1] p2)) pos)
    (fun σ H Q => te σ H fun x H1 => ∃ i : Int, x = .int i ∧ -3 ≤ i ∧ i ≤ 3 ∧ i ≠ 0 ∧ Q (.str (signS i)) H1) := by
  refine ⟨fun pins s σ H Q I h => ?_⟩
  refine wpAny_FormattedValue_spec (thn (he.run pins s σ H _ I h) fun v s1 hv => ?_)
  obtain ⟨x, H1, I1, r1, i, rfl, h0, h1, hz, q⟩ := hv
  obtain ⟨t, rfl⟩ := r1
  have sp : PE X (.JoinedStr [.Constant (.str "+d") j p1] p2) (tC (.str "+d")) := pe_joined1 pe_str
  refine wpAny_mono (sp.run pins s1 σ H1 (fun y H2 => y = .str "+d" ∧ Q (.str (signS i)) H2) I1 ⟨rfl, q⟩) (fun u s2 hv => ?_) fun _ _ z => z
  obtain ⟨y, H2, I2, r2, rfl, q2⟩ := hv
  obtain ⟨u2, rfl⟩ := r2
  exact ⟨_, u2, rfl, fmt_plus h0 h1 hz fun u k => ⟨.str (signS i), H2, I2.tok _, ⟨u, rfl⟩, q2⟩⟩
end
end Mz
set_option Elab.async false
set_option linter.all false
set_option maxRecDepth 100000
set_option maxHeartbeats 4000000
/-! a class held by a parameter, called; a classmethod called by keywords alone -/
namespace Mz
open PySem PySem.Spec PyProof.Rows L2
section
variable {X : Cx} {CX : CXT} {k n i : Nat} {f C : Addr} {fd : FuncData} {ps ks : List Str} {sp : Sp} {E : XK} {x : Str} {p pos : Pos} {e : Expr} {es : List Expr} {kws : List Keyword} {t tk : TA} {g : List Value → List Value → List Value} {gV : List V → List V → List V}
/-- cls(k = v, ..), cls a local name that holds the class at C -/
theorem pe_makeL0 (hN : X.N[i]? = some x) (hv : Vis X.env.scope x) (M : Mk X.K C f) (F : FnOk X.prog X.w X.K X.mg X.base CX k f fd ps sp) (hr : Room (k + 1) X.A) (hb : KBn X.K fd ps 1 ks g gV) (hx : Passes CX X E) (hkw : PK X kws tk)
    (hall : (backToKw pos (keywordEach kws X.env)).all (·.1.isSome) = true := by rfl) (hks : (backToKw pos (keywordEach kws X.env)).filterMap (·.1) = ks := by rfl) (hdb : (x == ("__debug__" : Str)) = false := by decide) (hcd : (x == ("__classdict__" : Str)) = false := by decide)
    (hpl : ((backTo pos (starEach [] X.env)).any (·.1) || (backToKw pos (keywordEach kws X.env)).any (·.1.isNone)) = false := by rfl) :
    PE X (.Call (.Name x p) [] kws pos) (fun σ H Q => σ[i]? = some (some (.ref C)) ∧ tMakeK C 0 ks.length sp gV E tNil tk σ H Q) := by
  refine ⟨fun pins s σ H Q I h => ?_⟩
  obtain ⟨hσ, h⟩ := h
  have ld : PE X (.Name x p) (tVar i) := pe_var hN hv hdb hcd
  refine wpAny_Call_Name_kw (wpAny_mono (ld.run pins s σ H (fun v H2 => v = .ref C ∧ tMakeK C 0 ks.length sp gV E tNil tk σ H2 Q) I ⟨_, hσ, rfl, h⟩) (fun u s1 hv => ?_) fun _ _ z => z)
  obtain ⟨v, H1, I1, rv, rfl, q⟩ := hv
  obtain rfl : u = Value.ref C := rv
  refine PySem.W.callWith_KW0 (h₀ := X.base) I.ok.mod.kin M.kp hall (thn (hkw.run pos pins s1 σ H1 _ I1 q) fun ws s2 hw => ?_) hpl
  obtain ⟨zs, H2, I2, rz, l1, l2, q2⟩ := hw
  rw [hks]
  exact ⟨I2.kIn, run_makeK (us := []) (vs := []) M F hr hb hx I2 .nil rz rfl l2 q2⟩
/-- cls(e, .., k = v, ..) -/
theorem pe_makeL (hN : X.N[i]? = some x) (hv : Vis X.env.scope x) (M : Mk X.K C f) (F : FnOk X.prog X.w X.K X.mg X.base CX k f fd ps sp) (hr : Room (k + 1) X.A) (hb : KBn X.K fd ps (n + 1) ks g gV) (hx : Passes CX X E) (ha : PA X (e :: es) t) (hkw : PK X kws tk)
    (hall : (backToKw pos (keywordEach kws X.env)).all (·.1.isSome) = true := by rfl) (hks : (backToKw pos (keywordEach kws X.env)).filterMap (·.1) = ks := by rfl) (hdb : (x == ("__debug__" : Str)) = false := by decide) (hcd : (x == ("__classdict__" : Str)) = false := by decide)
    (he : starEach (e :: es) X.env = (false, eval e X.env) :: starEach es X.env := by rfl) (hpl : ((backTo pos (starEach (e :: es) X.env)).any (·.1) || (backToKw pos (keywordEach kws X.env)).any (·.1.isNone)) = false := by rfl) :
    PE X (.Call (.Name x p) (e :: es) kws pos) (fun σ H Q => σ[i]? = some (some (.ref C)) ∧ tMakeK C n ks.length sp gV E t tk σ H Q) := by
  refine ⟨fun pins s σ H Q I h => ?_⟩
  obtain ⟨hσ, h⟩ := h
  have ld : PE X (.Name x p) (tVar i) := pe_var hN hv hdb hcd
  refine wpAny_Call_Name_kw (wpAny_mono (ld.run pins s σ H (fun v H2 => v = .ref C ∧ tMakeK C n ks.length sp gV E t tk σ H2 Q) I ⟨_, hσ, rfl, h⟩) (fun u s1 hv => ?_) fun _ _ z => z)
  obtain ⟨v, H1, I1, rv, rfl, q⟩ := hv
  obtain rfl : u = Value.ref C := rv
  refine PySem.W.callWith_KW (h₀ := X.base) I.ok.mod.kin M.kp hall (thn (ha.run pos pins s1 σ H1 _ I1 q) fun us s2 hw => ?_) hpl he
  obtain ⟨vs, H2, I2, r2, q2⟩ := hw
  refine thn (hkw.run pos pins s2 σ H2 _ I2 q2) fun ws s3 hw => ?_
  obtain ⟨zs, H3, I3, rz, l1, l2, q3⟩ := hw
  rw [hks]
  exact ⟨I3.kIn, run_makeK M F hr hb hx I3 r2 rz l1 l2 q3⟩
/-- C.m(k = v, ..), m a classmethod, keywords alone -/
theorem pe_cmethK0 {o : Expr} {ta : TE} {m : Str} {q g0 : Addr} {mc : Value} {apos : Pos} {pl : Sem Bool} {ES : L2.St → XK} (ho : PE X o ta) (r : ClX.CRead X.K C mc) (c : ClX.CMet X.K C mc m q g0) (F : FnOk X.prog X.w X.K X.mg X.base CX k g0 fd ps sp) (hr : Room k X.A) (hb : KBn X.K fd ps 1 ks g gV) (hx : ∀ σ, PassesAt CX X σ (ES σ)) (hkw : PK X kws tk)
    (hall : (backToKw pos (keywordEach kws X.env)).all (·.1.isSome) = true := by rfl) (hks : (backToKw pos (keywordEach kws X.env)).filterMap (·.1) = ks := by rfl)
    (hpl : ((backTo pos (starEach [] X.env)).any (·.1) || (backToKw pos (keywordEach kws X.env)).any (·.1.isNone)) = false := by rfl)
    (ht : eval (.Call (.Attribute o m apos) [] kws pos) X.env = (do
      let ov ← eval o X.env
      standAt apos.atName
      let (f, first) ← holding [ov] (getMethod ov m pl)
      callWith pos f first (backTo pos (starEach [] X.env)) (backToKw pos (keywordEach kws X.env))) := by rfl) :
    PE X (.Call (.Attribute o m apos) [] kws pos) (fun σ H Q => ta σ H fun x H1 => x = .ref C ∧ tk σ H1 fun zs H2 => zs.length = ks.length ∧ sp (gV [.ref C] zs) H2 Q (ES σ)) := by
  refine ⟨fun pins s σ H Q I h => PySem.W.methodCall_KW (pl := pl) (thn (ho.run pins s σ H _ I h) fun u s1 hv => ?_) ht⟩
  obtain ⟨x, H1, I1, rx, rfl, q1⟩ := hv
  obtain rfl : u = Value.ref C := rx
  refine ClX.getmethcm_ok I1 r c fun s2 I2 => ?_
  refine PySem.W.callWith_of (P := PySem.W.MethP X.K s1.heap.objs.size g0 (.ref C)) hpl (PySem.W.keeps_M c.fi) (evalArgs_kw2_nil hall (thn (hkw.run pos _ s2 σ H1 _ I2 q1) fun ws s3 hw => ?_))
  obtain ⟨zs, H2, I3, rz, l2, q2⟩ := hw
  refine ⟨⟨ClX.pin_at I3, I3.kIn⟩, ?_⟩
  rw [hks]
  have r1 : Vals [V.ref C] [Value.ref C] := .cons rfl .nil
  have z : wpAny (model X.prog X.w) X.A (call (.ref s1.heap.objs.size) [] (ks.zip ws)) (EP X ((s1.heap.objs.size, PySem.W.methodObj (.ref g0) (.ref C)) :: pins) σ Q) X.xe s3 := by
    refine wpAny_call (PySem.W.method_call (ClX.pin_at I3) (codeAny_mono (F.run X.A X.stack s3 H2 ⟨[.ref C], ks.zip ws⟩ (g [.ref C] ws) (gV [.ref C] zs) Q (ES σ) hr I3.env0 (hb.to s3 [.ref C] ws I3.kIn rfl (rz.length.symm.trans l2)) (hb.rel r1 rz) q2) fun r s4 hq => ?_))
    cases r with
    | error e => exact hx σ _ H2 s3 e s4 I3 hq
    | ok fl =>
      cases fl with
      | ret u => exact I3.after hq
      | next => exact hq.elim
      | brk => exact hq.elim
      | cont => exact hq.elim
  exact thn z fun _ _ y => ClX.unpinE y
/-- C.m(e, ..), m a classmethod; what is raised is wished for at the caller's slots -/
theorem pe_cmethS {o : Expr} {ta : TE} {m : Str} {q g0 : Addr} {mc : Value} {apos : Pos} {pl : Sem Bool} {ES : L2.St → XK} (ho : PE X o ta) (r : ClX.CRead X.K C mc) (c : ClX.CMet X.K C mc m q g0) (F : FnOk X.prog X.w X.K X.mg X.base CX k g0 fd ps sp) (hr : Room k X.A) (hb : Binds X.K fd ps [])
    (hx : ∀ σ, PassesAt CX X σ (ES σ)) (ha : PA X (e :: es) t) (hst : starEach (e :: es) X.env = (false, eval e X.env) :: starEach es X.env := by rfl) (hpl : (backTo pos (starEach es X.env)).any (·.1) = false := by rfl)
    (ht : eval (.Call (.Attribute o m apos) (e :: es) [] pos) X.env = (do
      let ov ← eval o X.env
      standAt apos.atName
      let (f, first) ← holding [ov] (getMethod ov m pl)
      callWith pos f first (backTo pos (starEach (e :: es) X.env)) (backToKw pos (keywordEach [] X.env))) := by rfl) :
    PE X (.Call (.Attribute o m apos) (e :: es) [] pos) (fun σ H Q => ta σ H fun x H1 => x = .ref C ∧ t σ H1 fun vs H2 => sp (.ref C :: vs) H2 Q (ES σ)) := by
  refine ⟨fun pins s σ H Q I h => PySem.W.methodCall_KW (pl := pl) (thn (ho.run pins s σ H _ I h) fun u s1 hv => ?_) ht⟩
  obtain ⟨x, H1, I1, rx, rfl, q1⟩ := hv
  obtain rfl : u = Value.ref C := rx
  refine ClX.getmethcm_ok I1 r c fun s2 I2 => ?_
  refine ClX.callwith_cm I2 (ClX.base_none I1 (Nat.le_refl _)) c.fi (thn (ha.run pos _ s2 σ H1 _ I2 q1) fun us s3 hw => ?_) hst hpl
  obtain ⟨vs, H2, I3, rv, q2⟩ := hw
  refine ⟨⟨ClX.pin_at I3, I3.kIn⟩, ?_⟩
  have r1 : Vals (V.ref C :: vs) (Value.ref C :: us) := .cons rfl rv
  have hl : (Value.ref C :: us ++ []).length = ps.length := by
    rw [List.append_nil]
    exact r1.length.symm.trans (F.len _ _ _ _ q2)
  have hbi := hb s3 (Value.ref C :: us) I3.kIn hl
  rw [List.append_nil] at hbi
  have z : wpAny (model X.prog X.w) X.A (call (.ref s1.heap.objs.size) us) (EP X ((s1.heap.objs.size, PySem.W.methodObj (.ref g0) (.ref C)) :: pins) σ Q) X.xe s3 := by
    refine wpAny_call (PySem.W.method_call (ClX.pin_at I3) (codeAny_mono (F.run X.A X.stack s3 H2 ⟨Value.ref C :: us, []⟩ (Value.ref C :: us) (V.ref C :: vs) Q (ES σ) hr I3.env0 hbi r1 q2) fun r s4 hq => ?_))
    cases r with
    | error e => exact hx σ _ H2 s3 e s4 I3 hq
    | ok fl =>
      cases fl with
      | ret u => exact I3.after hq
      | next => exact hq.elim
      | brk => exact hq.elim
      | cont => exact hq.elim
  exact thn z fun _ _ y => ClX.unpinE y
end
end Mz
set_option Elab.async false
set_option linter.all false
set_option maxRecDepth 100000
set_option maxHeartbeats 4000000
/-! repr of lists that hold instances with an own __repr__ -/
namespace Mz
open PySem PySem.Spec PyProof.Rows L2
/-- v is shown as t, under the containers as -/
def ShV (X : Cx) (k : Nat) (as : List Addr) (Pre : Hp → Prop) (v : V) (t : Str) : Prop :=
  ∀ (base : Nat), base + t.length ≤ sizeLine → ∀ (A : Around) (g : List Code) (pins : List (Addr × Obj)) (σ : L2.St) (H : Hp) (s : Shared) (u : Value) (Q : Str → Shared → Prop), A.frames = some X.stack → A.guards = some g → (∀ b ∈ as, Clear g b) → Room k A →
    Inv X pins σ H s → Pre H → RelV v u → (∀ H' s', Inv X pins σ H' s' → Same H H' → Q t s') → wpAny (model X.prog X.w) A (pyReprUnder base u) Q X.xe s
section
variable {X : Cx} {k : Nat} {as : List Addr} {Pre : Hp → Prop}
theorem shv_is {v : V} {t : Str} (h : ∀ u, RelV v u → ReprIs X.prog X.w u t) : ShV X k as Pre v t :=
  fun base hb A g pins σ H s u Q _ _ _ _ I _ r q => (h u r) base hb A X.xe s Q fun tk => q H _ (I.tok _) (Same.refl H)
theorem shv_str {z : Str} (h : (reprText z).length ≤ sizeLine) : ShV X k as Pre (.str z) (reprText z) := shv_is fun u r => by
  obtain ⟨t, rfl⟩ := r
  exact ReprIs.str z t h
theorem shv_int {i : Int} (h : i.natAbs.log2 < 1920) : ShV X k as Pre (.int i) (Str.ofString (toString i)) := shv_is fun u r => by
  obtain ⟨t, rfl⟩ := r
  exact ReprIs.int t h
theorem ifBoundBy_K {M : Model} {A : Around} {E : Value → Shared → Prop} {s : Shared} {K : PySem.W.Frag} {x C f : Addr} {ox : Obj} {od : Option Obj} {name : Str} {last : Value → List Value → Sem Value} {Q : Option Value → Shared → Prop} (KX : K.In s.heap) (I : PySem.W.InstAt s.heap x ox C od)
    (hs : PySem.W.findIn K (.ref C) name = some (some (.ref f))) (hf : PySem.W.isFn K (.ref f) = true)
    (h : wpAny M A (last (.ref f) [.ref x]) (fun v => Q (some v)) E s) : wpAny M A (callSpecialIfBoundBy? last (.ref x) name) Q E s := by
  simp only [callSpecialIfBoundBy?, bindSpecialIfBound?]
  refine wpAny_holding (wpAny_bind (wpAny_bind (wpAny_bind (I.type.here ((PySem.W.looks_findIn KX hs).here ?_)))))
  refine wpAny_bind (wpAny_askSetting (wpAny_ite ?_))
  have fin : wpAny M A (last (.ref f) [.ref x] >>= fun v => pure (some v)) Q E s := wpAny_bind (wpAny_mono h (fun v s' h' => wpAny_pure h') fun _ _ h' => h')
  split
  · exact wpAny_bind ((PySem.W.bind_fn KX _ (beq_iff_eq.mp hf)).here (wpAny_pure (by exact fin)))
  · exact wpAny_tryCatch (wpAny_bind ((PySem.W.bind_fn KX _ (beq_iff_eq.mp hf)).here (wpAny_pure (by exact fin))))
theorem env_at {pins : List (Addr × Obj)} {σ : L2.St} {H : Hp} {s : Shared} {A : Around} (I : Inv X pins σ H s) (h : A.frames = some X.stack) : Env0 X.prog X.w X.K X.mg X.base A X.stack s H := by
  have e := I.env0
  exact ⟨h, e.mod, e.bs, e.bsz, e.funs, e.frf, e.hok, e.bare⟩
theorem shv_own {j : Nat} {f C p : Addr} {fd : FuncData} {sp : Sp} {t : Str} (F : FnOk X.prog X.w X.K X.mg X.base CX0 k f fd ["self"] sp) (hb : Binds X.K fd ["self"] []) (hs : PySem.W.findIn X.K (.ref C) "__repr__" = some (some (.ref f))) (hf : PySem.W.isFn X.K (.ref f) = true)
    (hp : ∀ H, Pre H → ∃ dx fs, H p = some (.ins C dx fs) ∧ sp [.ref p] H (fun v H2 => v = .str t ∧ Same H H2) E0) : ShV X k as Pre (.ref p) t := by
  intro base hbs A g pins σ H s u Q hfr hg hcl hr I pre r q
  obtain rfl : u = Value.ref p := r
  obtain ⟨dx, fs, ha, hsp⟩ := hp H pre
  obtain ⟨mA, O, _⟩ := ins_get I.hok ha
  obtain ⟨od, J, _⟩ := O.look
  refine wpAny_pyReprUnder_ref (by omega) ?_
  unfold pyReprObjUnder pyReprObjBy
  refine wpAny_bind (wpAny_cRoomFor hr.units0 ?_)
  refine wpAny_bind (wpAny_bind (J.type.here ((PySem.W.looks_findIn I.kIn hs).here ?_)))
  refine wpAny_bind (ifBoundBy_K I.kIn J hs hf ?_)
  have run := run_at (Q := fun v H2 => v = .str t ∧ Same H H2) (E := E0) (E2 := X.xe) (vs := [.ref p]) (us := [.ref p]) F hr (env_at I hfr) hb (fun _ _ z => z.elim) I (.cons rfl .nil) hsp
  refine wpAny_mono run (fun v s2 hv => ?_) fun _ _ z => z
  obtain ⟨w, H2, I2, rv, rfl, sm⟩ := hv
  obtain ⟨tk, rfl⟩ := rv
  exact wpAny_bind (wpAny_isInstance (T := "str") (b := true) rfl isSubtype_str_str (wpAny_pure ⟨_, _, rfl, q _ _ I2 sm⟩))
/-- texts, as a tracked list has them -/
theorem strs_done : ∀ {l : List Str} {us : List Value}, Vals (l.map V.str) us → ∃ done : List (Str × Tok), us = strValues done ∧ done.map (·.1) = l
  | [], _, .nil => ⟨[], rfl, rfl⟩
  | z :: l, _, .cons ⟨t, e⟩ r => by
    obtain ⟨done, rfl, e2⟩ := strs_done r
    exact ⟨(z, t) :: done, by rw [e]; rfl, by rw [List.map_cons, e2]⟩
theorem frames_list_loop {A : Around} {l : List Env} {args : Args} (h : A.frames = some l) : (A.under (.builtin "list.__repr__.loop" args)).frames = some l := by
  first | exact h | (simpa [Around.under, Code.envs, Code.isFrame, pushEnvs] using h)
theorem loop_depth {A : Around} {args : Args} : (A.under (.builtin "list.__repr__.loop" args)).depth ≤ A.depth + 1 := by
  first | exact Nat.le_refl _ | (simp [Around.under, Code.weight, Code.isCreation, Code.isGuard, Code.isCaller, Code.frames, Code.isFrame, guardIds])
theorem _root_.L2.Room.list_loop {A : Around} {k : Nat} (r : Room (k + 1) A) (args : Args) : Room k (A.under (.builtin "list.__repr__.loop" args)) :=
  ⟨r.hd, by have := r.dp; have := loop_depth (A := A) (args := args); omega, by have := r.un; rw [units_under_list_loop]; omega⟩
/-- the loop of list.__repr__ -/
theorem loop_own {A : Around} {g : List Code} {pins : List (Addr × Obj)} {σ : L2.St} {a P : Addr} {vs : List V} {ts : List Str} {base : Nat} {R : Result → Shared → Prop} (hfr : A.frames = some X.stack) (hg : A.guards = some g) (hcl : ∀ b ∈ as, Clear g b) (hr : Room (k + 1) A) (hna : a ∉ as)
    (mono : ∀ H H', Same H H' → Pre H → Pre H') (hne : a ≠ P) (hlen : ts.length = vs.length) (hT : ∀ (i : Nat) (v : V), vs[i]? = some v → ∃ t, ts[i]? = some t ∧ ShV X k as Pre v t) (hsz : base + (listText ts).length ≤ sizeLine) (hE : ∀ e s', X.xe e s' → R (.error e) s') :
    ∀ (n i : Nat) (H : Hp) (s : Shared), vs.length - i = n → i ≤ vs.length → Inv X pins σ H s → (∀ H', (∀ p o, p ≠ P → H p = some o → H' p = some o) → Pre H') → H a = some (.lst vs) → H P = some (.lst ((ts.take i).map V.str)) →
    (∀ H' s' u, Inv X pins σ H' s' → (∀ p o, p ≠ P → H p = some o → H' p = some o) → R (.ok (.ret (.str (listText ts) u))) s') →
    codeAny (model X.prog X.w) A (.builtin "list.__repr__.loop" ⟨[.ref a, rawInt i, .ref P, rawInt ((base + piled (ts.take i) : Nat) : Int)], []⟩) R s := by
  have hL := textFrom_len ts 0 "["
  have hX : (listText ts).length = (textFrom 0 "[" ts).length + 1 := by
    show (textFrom 0 "[" ts ++ "]").length = _
    rw [strLen_append]; rfl
  have hsz1 : vs.length ≤ sizeLine := by
    have h1 := hL.1
    rw [if_neg (Nat.lt_irrefl 0)] at h1
    omega
  have hsz2 : ∀ t ∈ ts, t.length ≤ sizeLine := fun t ht => by
    have h2 := hL.2.1 t ht
    omega
  have hsz3 : (listText ts).length ≤ sizeLine := by omega
  have hp3 := piled_le_listText ts
  intro n
  induction n with
  | zero =>
    intro i H s hk hi I pre hA hP q
    obtain ⟨_, its, na, rv, l1, ha⟩ := I.lstM hA
    obtain ⟨_, its2, nc, rv2, l2, hP2⟩ := I.lstM hP
    obtain ⟨done, rfl, hdone⟩ := strs_done rv2
    have hin : i = vs.length := by omega
    refine codeAny_builtin PySem.F.entry_list_repr_loop ?_
    show wpAny _ _ (Builtin.«list.__repr__.loop» ⟨[.ref a, .int i 0, .ref P, .int ((base + piled (ts.take i) : Nat) : Int) 0], []⟩) _ _ s
    rw [repr_loop_tree]
    refine wpAny_bind (wpAny_listItems ha rfl ?_)
    have hnone : its.toArray[(i : Int).toNat]? = none := by simp [hin, l1]
    simp only [hnone]
    unfold reprEnd
    refine wpAny_bind (wpAny_listItems hP2 rfl ?_)
    rw [show (strValues done).toArray.toList = strValues done from rfl, repr_fold]
    refine wpAny_bind (wpAny_pure ?_)
    have hall : done.map (·.1) = ts := by rw [hdone, hin, ← hlen, List.take_length]
    rw [hall]
    refine wpAny_bind (wpAny_mkStr (wpAny_pure ?_) hsz3)
    exact q H _ _ (I.tok _) fun _ _ _ e => e
  | succ n ih =>
    intro i H s hk hi I pre hA hP q
    obtain ⟨_, its, na, rv, l1, ha⟩ := I.lstM hA
    have hlt : i < vs.length := by omega
    obtain ⟨t, ht, hrep⟩ := hT i vs[i] (List.getElem?_eq_getElem hlt)
    obtain ⟨u, hu, rel⟩ := rv.get (List.getElem?_eq_getElem hlt)
    have hp1 := piled_take_succ ht
    have hp2 := piled_take_le ts (i + 1)
    refine codeAny_builtin PySem.F.entry_list_repr_loop ?_
    show wpAny _ _ (Builtin.«list.__repr__.loop» ⟨[.ref a, .int i 0, .ref P, .int ((base + piled (ts.take i) : Nat) : Int) 0], []⟩) _ _ s
    rw [repr_loop_tree]
    refine wpAny_bind (wpAny_listItems ha rfl ?_)
    have hsome : its.toArray[(i : Int).toNat]? = some u := by simpa using hu
    simp only [hsome]
    rw [Int.toNat_natCast]
    have hpre : Pre H := pre H fun _ _ _ e => e
    refine wpAny_bind (wpAny_holding (wpAny_mono (hrep (base + piled (ts.take i) + 1) (by omega) _ _ pins σ H s u (fun t' s' => t' = t ∧ ∃ H', Inv X pins σ H' s' ∧ Same H H') (frames_list_loop hfr) (guards_under_guard (isGuard_list_loop _) hg) (fun b hb => (hcl b hb).cons (a := a) fun e => hna (e ▸ hb)) (hr.list_loop _) I hpre rel fun H' s' I' sm => ⟨rfl, H', I', sm⟩) (fun t' s' hh => ?_) fun e s' z => hE e s' z))
    obtain ⟨rfl, H', I', sm⟩ := hh
    refine wpAny_bind (wpAny_mkStr ?_ (hsz2 t' (List.mem_of_getElem? ht)))
    refine wpAny_bind ?_
    show wpAny _ _ (updateSeq P _) _ _ _
    have hP' := sm _ _ hP
    obtain ⟨_, its2, nc, rv2, l2, hP2⟩ := I'.lstM hP'
    have take_len : (ts.take i).length ≤ i := by rw [List.length_take]; omega
    have asz : its2.toArray.size ≤ sizeLine := by
      rw [List.size_toArray, ← l2, List.length_map]
      omega
    refine wpAny_updateSeq hP2 rfl (wpAny_pure ⟨PySem.F.quiet_list_repr_loop _, ?_⟩) asz
    have e1 : ((i : Int) + 1) = ((i + 1 : Nat) : Int) := by omega
    have e2 : base + piled (ts.take i) + (t'.length + 2) = base + piled (ts.take (i + 1)) := by omega
    rw [e1, e2]
    have e3 : (ts.take i).map V.str ++ [V.str t'] = (ts.take (i + 1)).map V.str := by
      rw [List.take_add_one, ht, List.map_append]
      rfl
    have I2 : Inv X pins σ (upd H' P (.lst ((ts.take (i + 1)).map V.str))) _ := I'.lset (its' := its2 ++ [.str t' s'.toks]) (f := fun xs => xs.push (.str t' s'.toks)) (t' := s'.toks + 1) hP' hP2 (by simp) (by rw [← e3]; exact rv2.append (.cons ⟨_, rfl⟩ .nil)) (by rw [List.length_map, List.length_take]; omega)
    have keepP : ∀ p o, p ≠ P → H p = some o → (upd H' P (.lst ((ts.take (i + 1)).map V.str))) p = some o := fun p o np e => by
      rw [upd_ne np]
      exact sm p o e
    refine ih (i + 1) _ _ (by omega) hlt I2 (fun H2 k2 => pre H2 fun p o np e => k2 p o np (keepP p o np e)) (keepP a _ hne hA) upd_same fun H2 s2 u2 I3 k3 => ?_
    exact q H2 s2 u2 I3 fun p o np e => k3 p o np (keepP p o np e)
/-- repr of a list some of whose items are instances -/
def rReprO (X : Cx) (k : Nat) : List V → Hp → VK → Prop := fun xs H Q => ∃ (a : Addr) (v0 : V) (vr : List V) (ts : List Str) (Pre : Hp → Prop), xs = [.ref a] ∧ H a = some (.lst (v0 :: vr)) ∧ (∀ H H', Same H H' → Pre H → Pre H') ∧ Pre H ∧ ts.length = (v0 :: vr).length ∧
  (∀ (i : Nat) (v : V), (v0 :: vr)[i]? = some v → ∃ t, ts[i]? = some t ∧ ShV X k [] Pre v t) ∧ (listText ts).length ≤ sizeLine ∧ ∀ H', Same H H' → Q (.str (listText ts)) H'
theorem call_reprO (g0 : X.A.guards = some []) (hr : Room (k + 2) X.A) : CallR X (.builtin "repr") (rReprO X k) := by
  intro pins s σ H xs us Q I r h
  obtain ⟨a, v0, vr, ts, Pre, rfl, hA, mono, pre, hlen, hT, hsz, q⟩ := h
  obtain ⟨u, rfl, rx⟩ := vals1 r
  obtain rfl : u = Value.ref a := rx
  obtain ⟨z, its, n, rv, l1, ha⟩ := I.lstM hA
  match its, rv with
  | x :: l, rv =>
  refine call_repr_slot (T := "list") (by have := hr.units; omega) ⟨_, ha, rfl⟩ PySem.F.slot_list_repr.toG ?_
  refine wpAny_call (codeAny_call_builtin PySem.F.slot_list_repr.plain PySem.F.entry_list_repr (PySem.F.slot_list_repr.check _ _ _ _ _ _ _ _ ⟨_, ha, rfl⟩ (PySem.F.args_list_repr_1 _) ?_))
  refine wpAny_list_repr_head (A := X.A.in1.in1) (g := []) (b := 0) g0 (fun v rest kw hm => nomatch hm) ha rfl ?_
  refine wpAny_bind (m := newList []) (wpAny_newObj_type ?_)
  refine wpAny_pure ⟨PySem.F.quiet_list_repr_loop _, ?_⟩
  have I1 := I.lnew (ys := []) (its := []) (t' := s.toks) .nil (Nat.zero_le _)
  have nP : H s.heap.objs.size = none := I.hok.fresh (Nat.le_refl _)
  have neP : a ≠ s.heap.objs.size := ne_of_none hA nP
  have same : ∀ {H' : Hp}, (∀ p o, p ≠ s.heap.objs.size → (upd H s.heap.objs.size (.lst [])) p = some o → H' p = some o) → Same H H' := fun k2 p o e => k2 p o (ne_of_none e nP) (by rw [upd_ne (ne_of_none e nP)]; exact e)
  have pz : piled (ts.take 0) = 0 := rfl
  refine loop_own (X := X) (k := k) (as := []) (Pre := Pre) (A := X.A.in1) (g := []) (pins := pins) (σ := σ) (a := a) (P := s.heap.objs.size) (vs := v0 :: vr) (ts := ts) (base := 0) I.env0.frames g0 (fun b hb => nomatch hb) hr.in1 (fun hb => nomatch hb) mono neP hlen hT (by omega) (fun e s' z => z) _ 0 (upd H s.heap.objs.size (.lst [])) _ rfl (Nat.zero_le _) I1
    (fun H' k2 => mono H H' (same k2) pre) (by rw [upd_ne neP]; exact hA) upd_same fun H' s' u2 I2 k2 => ?_
  exact ⟨_, _, rfl, .str _, H', I2, ⟨u2, rfl⟩, q H' (same k2)⟩
end
end Mz
set_option Elab.async false
set_option linter.all false
set_option maxRecDepth 100000
set_option maxHeartbeats 4000000
namespace Mz
open PySem L2
/-! the text by places -/
def top (i : Nat) : Stmt := PySem.Challenge.pw_mapsizes_k04_places_moved.main.body.getD i (.Pass ⟨0, 0, 0, 0⟩)
abbrev sMapError : Stmt := top 1
abbrev sInvInt : Stmt := top 3
abbrev sUnord : Stmt := top 6
abbrev sWhole : Stmt := top 13
abbrev sIsInt : Stmt := top 14
abbrev sIsName : Stmt := top 15
abbrev sLeast : Stmt := top 16
abbrev sPlace : Stmt := top 18
abbrev sDiff : Stmt := top 19
abbrev sCell : Stmt := top 21
abbrev sBox : Stmt := top 22
abbrev sTake : Stmt := top 23
abbrev sBase4 : Stmt := top 24
abbrev sPair : Stmt := top 25
abbrev sStep4 : Stmt := top 26
abbrev sTried : Stmt := top 27
abbrev sText4 : Stmt := top 28
abbrev sDue4 : Stmt := top 29
abbrev sLaw : Stmt := top 30
end Mz
set_option Elab.async false
set_option linter.all false
set_option maxRecDepth 100000
set_option maxHeartbeats 4000000
/-! the draws: a cell of the script, its box, a digit out of the box -/
namespace Mz
open PySem PySem.Spec PyProof.Rows L2
/-- all that was tracked, but what stands at b, stands as it stood -/
def Kp (b : Addr) (H H' : Hp) : Prop := ∀ p o, p ≠ b → H p = some o → H' p = some o
theorem Kp.refl {b : Addr} {H : Hp} : Kp b H H := fun _ _ _ e => e
theorem Kp.trans {b : Addr} {H H1 H2 : Hp} (x : Kp b H H1) (y : Kp b H1 H2) : Kp b H H2 := fun p o n e => y p o n (x p o n e)
theorem Kp.fresh {b p : Addr} {H : Hp} {o : HO} (h : H p = none) : Kp b H (upd H p o) := fun q u _ e => by
  rw [upd_ne (ne_of_none e h)]
  exact e
theorem Kp.here {b : Addr} {H : Hp} {o : HO} : Kp b H (upd H b o) := fun q u n e => by
  rw [upd_ne n]
  exact e
/-- a box: what is left of the cell, its seed, how many digits were mixed (at most n) -/
def Bx (H : Hp) (b : Addr) (n : Nat) : Prop := ∃ x y z : Int, H b = some (.lst [.int x, .int y, .int z]) ∧ 0 ≤ x ∧ 0 ≤ y ∧ y < 2147483563 ∧ 0 ≤ z ∧ z ≤ (n : Int)
theorem Bx.upd {H : Hp} {b p : Addr} {n : Nat} {o : HO} (h : Bx H b n) (hp : H p = none) : Bx (upd H p o) b n := by
  obtain ⟨x, y, z, e, r⟩ := h
  exact ⟨x, y, z, by rw [upd_ne (ne_of_none e hp)]; exact e, r⟩
theorem Bx.more {H : Hp} {b : Addr} {n m : Nat} (h : Bx H b n) (le : n ≤ m) : Bx H b m := by
  obtain ⟨x, y, z, e, h1, h2, h3, h4, h5⟩ := h
  exact ⟨x, y, z, e, h1, h2, h3, h4, by omega⟩
def spCell (K : PySem.W.Frag) : Sp := fun vs H Q _ => ∃ (a : Addr) (ns : List Int) (k : Nat), vs = [.ref a, .int k] ∧ SqL K H a (ns.map V.int) ∧ k < 1000 ∧ ∀ i : Int, Q (.int i) H
def spBox : Sp := fun vs H Q _ => ∃ i : Int, vs = [.int i] ∧ ∀ (b : Addr) (H' : Hp), H b = none → Bx H' b 0 → Kp b H H' → Q (.ref b) H'
def spTake : Sp := fun vs H Q _ => ∃ (b : Addr) (n : Nat) (m : Int), vs = [.ref b, .int m] ∧ Bx H b n ∧ n ≤ 1000000 ∧ 0 < m ∧ m < 2 ^ 64 ∧
  ∀ (r : Int) (H' : Hp), 0 ≤ r → r < m → Bx H' b (n + 1) → Kp b H H' → Q (.int r) H'
/-- the built-ins that the draws call -/
structure Blt (mg : Str → Option Value) : Prop where
  len : mg "len" = none
  max : mg "max" = none
  min : mg "min" = none
  int : mg "int" = none
  range : mg "range" = none
section
variable {P : Program} {w : World} {K : PySem.W.Frag} {mg : Str → Option Value} {base : Heap}
theorem scCell : FnScope ["_law_script", "_law_k"] ["_law_script", "_law_k"] (defScope sCell) := ⟨rfl, rfl, rfl, by decide +kernel, rfl, by decide +kernel, by decide +kernel⟩
theorem ok_cell {f : Addr} {fd : FuncData} (F : Fun K "_law_cell" "_law_cell" sCell f fd) (B : Blt mg) : FnOk P w K mg base CX0 1 f fd ["_law_script", "_law_k"] (spCell K) := by
  refine F.ok scCell (fun vs H Q E h => ?_) (fun cdv A outer s H vs Q E hr h => ?_)
  · obtain ⟨a, ns, k, rfl, _⟩ := h
    rfl
  · obtain ⟨a, ns, k, rfl, hS, hk, q⟩ := h
    refine ⟨_, pss_one (ps_ret (pe_ifExp (pt_cmpR op_lt (pv 1) (pe_callB call_len_seq (by rfl) B.len PySem.boot_len (pa_cons (pv 0) pa_nil)) (nomark _))
      (pe_ix ix_list (pv 0) (pv 1) (fun _ _ => rfl)) (pe_op op_add (pe_op op_mul pe_int (pv 1)) pe_int))), ?_⟩
    refine ⟨_, rfl, _, rfl, a, _, rfl, .inl hS, _, _, rfl, rfl, _, rfl, ?_⟩
    refine ite2 (fun hc => ?_) (fun _ => ?_)
    · have hlt : k < ns.length := by
        have z := of_decide_eq_true hc
        rw [List.length_map] at z
        omega
      exact ⟨_, rfl, _, rfl, a, _, _, _, rfl, rfl, hS, atI_nat (v := V.int (ns[k])) (by rw [List.getElem?_map, List.getElem?_eq_getElem hlt]; rfl), q _⟩
    · exact ⟨_, rfl, _, _, rfl, rfl, .inl ⟨by decide, by decide⟩, _, _, rfl, rfl, q _⟩
theorem scBox : FnScope ["_law_cell_here"] ["_law_cell_here"] (defScope sBox) := ⟨rfl, rfl, rfl, by decide +kernel, rfl, by decide +kernel, by decide +kernel⟩
theorem ok_box {f : Addr} {fd : FuncData} (F : Fun K "_law_box" "_law_box" sBox f fd) (B : Blt mg) : FnOk P w K mg base CX0 1 f fd ["_law_cell_here"] spBox := by
  refine F.ok scBox (fun vs H Q E h => ?_) (fun cdv A outer s H vs Q E hr h => ?_)
  · obtain ⟨i, rfl, _⟩ := h
    rfl
  · obtain ⟨i, rfl, q⟩ := h
    refine ⟨_, pss_one (ps_ret (pe_lst (pa_cons (pe_callB (call_max2 rfl) (by rfl) B.max (by decide +kernel) (pa_cons pe_int (pa_cons (pe_op op_sub (pv 0) (pe_op op_pow pe_int pe_int)) pa_nil)))
      (pa_cons (pe_op op_mod (pe_callTy call_int1 (by rfl) B.int (by decide +kernel) (pa_cons (pv 0) pa_nil)) pe_int) (pa_cons pe_int pa_nil))))), ?_⟩
    refine ⟨_, rfl, _, _, rfl, rfl, ⟨by decide, by decide, by decide⟩, _, _, rfl, rfl, _, _, rfl, ?_⟩
    refine ⟨_, rfl, .inl ⟨_, rfl, _, _, rfl, rfl, (by show (0 : Int) < 2147483563; decide), ?_⟩⟩
    refine ⟨(by show 3 ≤ sizeLine; decide), fun p np => q p _ np ⟨_, _, _, upd_same, ?_, ?_, ?_, by decide, by decide⟩ (Kp.fresh np)⟩
    · split <;> omega
    · exact Int.emod_nonneg _ (by decide)
    · exact Int.emod_lt_of_pos _ (by decide)
theorem scTake : FnScope ["_law_box_here", "_law_many", "_law_digit", "_law_mixed"] ["_law_box_here", "_law_many"] (defScope sTake) := ⟨rfl, rfl, rfl, by decide +kernel, rfl, by decide +kernel, by decide +kernel⟩
theorem fmod_low {i j : Int} (h : 0 < j) : 0 ≤ i.fmod j := Int.fmod_nonneg_of_pos i h
theorem fmod_high {i j : Int} (h : 0 < j) : i.fmod j < j := Int.fmod_lt_of_pos i h
theorem small_log {m : Int} (h0 : 0 < m) (h : m < 2 ^ 64) : m.natAbs.log2 < 9000 := by
  have h1 : m.natAbs < 2 ^ 64 := by omega
  exact Nat.lt_of_lt_of_le (PySem.Flt.log2_lt_of (by decide) h1) (by decide)
theorem ok_take {f : Addr} {fd : FuncData} (F : Fun K "_law_take" "_law_take" sTake f fd) (B : Blt mg) : FnOk P w K mg base CX0 1 f fd ["_law_box_here", "_law_many"] spTake := by
  refine F.ok scTake (fun vs H Q E h => ?_) (fun cdv A outer s H vs Q E hr h => ?_)
  · obtain ⟨b, n, m, rfl, _⟩ := h
    rfl
  · obtain ⟨b, n, m, rfl, ⟨x, y, z, hb, x0, y0, y1, z0, z1⟩, hn, m0, m1, q⟩ := h
    have nd := scTake.nd
    refine ⟨_, pss_cons (ps_if (pt_cmpR op_gt (pe_ix ix_list (pv 0) pe_int (fun _ _ => rfl)) pe_int (nomark _))
        (pss_cons (ps_set (i := 2) nd rfl (Or.inl rfl) (pe_op op_modN (pe_callTy call_int1 (by rfl) B.int (by decide +kernel) (pa_cons (pe_ix ix_list (pv 0) pe_int (fun _ _ => rfl)) pa_nil)) (pv 1)))
        (pss_cons (ps_asg (pe_op op_fdivW (pe_ix ix_list (pv 0) pe_int (fun _ _ => rfl)) (pv 1)) (pg_sub (pv 0) pe_int set_list))
        (pss_one (ps_ret (pv 2))))) pss_nil)
      (pss_cons (ps_asg (pe_op op_add (pe_ix ix_list (pv 0) pe_int (fun _ _ => rfl)) pe_int) (pg_sub (pv 0) pe_int set_list))
      (pss_cons (ps_set (i := 3) nd rfl (Or.inl rfl) (pe_op op_mod (pe_op op_pow (pe_callTy call_int1 (by rfl) B.int (by decide +kernel) (pa_cons (pe_op op_add (pe_op op_add (pe_ix ix_list (pv 0) pe_int (fun _ _ => rfl)) (pe_op op_mul pe_int (pe_ix ix_list (pv 0) pe_int (fun _ _ => rfl)))) pe_int) pa_nil)) pe_int) pe_int))
      (pss_cons (ps_set (i := 3) nd rfl (Or.inl rfl) (pe_op op_mod (pe_op op_pow (pe_callTy call_int1 (by rfl) B.int (by decide +kernel) (pa_cons (pe_op op_add (pv 3) (pe_op op_mul pe_int (pe_ix ix_list (pv 0) pe_int (fun _ _ => rfl)))) pa_nil)) pe_int) pe_int))
      (pss_one (ps_ret (pe_op op_modN (pe_op op_fdiv (pv 3) pe_int) (pv 1))))))), ?_⟩
    have a0 : ∀ {u v t : V}, atI [u, v, t] (0 : Int) = some u := rfl
    refine ⟨_, rfl, b, _, _, _, rfl, rfl, SqL.of hb, a0, _, _, rfl, rfl, _, rfl, ?_⟩
    refine ite2 (fun hc => ?_) (fun _ => ?_)
    · refine ⟨_, rfl, b, _, _, _, rfl, rfl, SqL.of hb, a0, .inl ⟨_, rfl, _, rfl, _, _, rfl, rfl, by omega, ?_⟩⟩
      refine ⟨_, rfl, b, _, _, _, rfl, rfl, SqL.of hb, a0, _, rfl, _, _, rfl, rfl, ⟨m0, small_log m0 m1⟩, ?_⟩
      refine ⟨_, rfl, b, _, _, _, rfl, rfl, hb, rfl, ?_⟩
      refine ⟨_, rfl, q _ _ (fmod_low m0) (fmod_high m0) ⟨_, y, z, upd_same, Int.ediv_nonneg x0 (by omega), y0, y1, z0, by omega⟩ Kp.here⟩
    · refine ⟨_, rfl, b, _, _, _, rfl, rfl, SqL.of hb, rfl, _, _, rfl, rfl, _, rfl, b, _, _, _, rfl, rfl, hb, rfl, ?_⟩
      have hb1 : upd H b (.lst [.int x, .int y, .int (z + 1)]) b = some (.lst [.int x, .int y, .int (z + 1)]) := upd_same
      refine ⟨_, rfl, b, _, _, _, rfl, rfl, SqL.of hb1, rfl, ?_⟩
      refine ⟨_, rfl, b, _, _, _, rfl, rfl, SqL.of hb1, rfl, ?_⟩
      refine ⟨_, _, rfl, rfl, .inl ⟨by decide, by decide⟩, _, _, rfl, rfl, _, _, rfl, rfl, .inl ⟨_, rfl, _, _, rfl, rfl, ⟨by decide, by decide, by omega⟩, ?_⟩⟩
      refine ⟨_, _, rfl, rfl, (by show (0 : Int) < 2147483647; decide), ?_⟩
      refine ⟨_, rfl, _, rfl, b, _, _, _, rfl, rfl, SqL.of hb1, rfl, ?_⟩
      have l1 := Int.emod_nonneg ((y + 7369 * (z + 1) + 229) ^ (5 : Int).toNat) (b := 2147483647) (by decide)
      have h1 := Int.emod_lt_of_pos ((y + 7369 * (z + 1) + 229) ^ (5 : Int).toNat) (b := 2147483647) (by decide)
      refine ⟨_, _, rfl, rfl, .inl ⟨by decide, by decide⟩, _, _, rfl, rfl, .inl ⟨_, rfl, _, _, rfl, rfl, ⟨by decide, by decide, by omega⟩, ?_⟩⟩
      refine ⟨_, _, rfl, rfl, (by show (0 : Int) < 2147483587; decide), ?_⟩
      refine ⟨_, rfl, _, _, rfl, rfl, ⟨by decide, by decide⟩, _, rfl, _, _, rfl, rfl, by omega, ?_⟩
      exact q _ _ (fmod_low m0) (fmod_high m0) ⟨x, y, z + 1, upd_same, x0, y0, y1, by omega, by omega⟩ Kp.here
end
end Mz
set_option Elab.async false
set_option linter.all false
set_option maxRecDepth 100000
set_option maxHeartbeats 4000000
/-! the program's own defs: integers, names, marks -/
namespace Mz
open PySem PySem.Spec PyProof.Rows L2
/-- any value, by what isinstance says of it -/
inductive Kd (K : PySem.W.Frag) (H : Hp) : V → Prop
  | int (i : Int) : Kd K H (.int i)
  | bl (b : Bool) : Kd K H (.bl b)
  | str (z : Str) (h : z.length ≤ 1000) (ok : PyData.strOk z = true) : Kd K H (.str z)
  | non : Kd K H .non
  | oth (a : Addr) (t : Value) (ty : TyX K H (.ref a) t) (ki : PySem.W.kitOne K t (.type "int") = some false) (ks : PySem.W.kitOne K t (.type "str") = some false) : Kd K H (.ref a)
def wholeV : V → Bool
  | .int _ => true
  | _ => false
def inB (lo hi : Int) : V → Bool
  | .int i => decide (lo ≤ i) && decide (i ≤ hi)
  | _ => false
abbrev abc : Str := "abcdefghijklmnopqrstuvwxyz"
/-- a name, as the program says it -/
def nameS (z : Str) : Bool := (decide (1 ≤ (z.length : Int)) && decide ((z.length : Int) ≤ 6)) && z.cps.toList.all fun c => decide (c ∈ abc.cps.toList)
def nameV : V → Bool
  | .str z => nameS z
  | _ => false
def noMarks : List V := [.str "old", .str "zero", .str "end", .str "fails", .str "more", .str "done", .str "none"]
def markV : V → Bool
  | .str z => nameS z && !inV (.str z) noMarks
  | _ => false
def spWhole (K : PySem.W.Frag) : Sp := fun vs H Q _ => ∃ v, vs = [v] ∧ Kd K H v ∧ Q (.bl (wholeV v)) H
def spIsInt (K : PySem.W.Frag) : Sp := fun vs H Q _ => ∃ v lo hi, vs = [v, .int lo, .int hi] ∧ Kd K H v ∧ Q (.bl (inB lo hi v)) H
/-- the list of the letters' answers is left behind -/
def spIsName (K : PySem.W.Frag) : Sp := fun vs H Q _ => ∃ v, vs = [v] ∧ Kd K H v ∧ ∀ H', Same H H' → Q (.bl (nameV v)) H'
def spIsMark (K : PySem.W.Frag) : Sp := fun vs H Q _ => ∃ v, vs = [v] ∧ Kd K H v ∧ ∀ H', Same H H' → Q (.bl (markV v)) H'
structure Blp (mg : Str → Option Value) : Prop where
  isi : mg "isinstance" = none
  bool : mg "bool" = none
  str : mg "str" = none
  all : mg "all" = none
section
variable {P : Program} {w : World} {K : PySem.W.Frag} {mg : Str → Option Value} {base : Heap}
theorem scWhole : FnScope ["value"] ["value"] (defScope sWhole) := ⟨rfl, rfl, rfl, by decide +kernel, rfl, by decide +kernel, by decide +kernel⟩
theorem ok_whole {f : Addr} {fd : FuncData} (F : Fun K "_is_whole" "_is_whole" sWhole f fd) (B : Blt mg) (D : Blp mg) : FnOk P w K mg base CX0 1 f fd ["value"] (spWhole K) := by
  refine F.ok scWhole (fun vs H Q E h => ?_) (fun cdv A outer s H vs Q E hr h => ?_)
  · obtain ⟨v, rfl, _⟩ := h
    rfl
  · obtain ⟨v, rfl, hk, q⟩ := h
    refine ⟨_, pss_one (ps_ret (pe_and (pe_callB call_isi (by rfl) D.isi (by decide +kernel) (pa_cons (pv 0) (pa_cons (pe_bltn (v := .ty "int") (by rfl) B.int (by decide +kernel) rfl) pa_nil)))
      (pe_one (pe_not (pe_callB call_isi (by rfl) D.isi (by decide +kernel) (pa_cons (pv 0) (pa_cons (pe_bltn (v := .ty "bool") (by rfl) D.bool (by decide +kernel) rfl) pa_nil))))))), ?_⟩
    refine ⟨_, rfl, ?_⟩
    cases hk with
    | int i => exact ⟨_, _, _, _, true, rfl, .ty _, .base (.int i), kit_ty (by decide +kernel), true, rfl, iteT ⟨_, rfl, _, _, _, _, false, rfl, .ty _, .base (.int i), kit_ty (by decide +kernel), false, rfl, q⟩⟩
    | bl b => exact ⟨_, _, _, _, true, rfl, .ty _, .base (.bl b), kit_ty (by decide +kernel), true, rfl, iteT ⟨_, rfl, _, _, _, _, true, rfl, .ty _, .base (.bl b), kit_ty (by decide +kernel), true, rfl, q⟩⟩
    | str z _ _ => exact ⟨_, _, _, _, false, rfl, .ty _, .base (.str z), kit_ty (by decide +kernel), false, rfl, iteF q⟩
    | non => exact ⟨_, _, _, _, false, rfl, .ty _, .base .non, kit_ty (by decide +kernel), false, rfl, iteF q⟩
    | oth a t ty ki ks => exact ⟨_, _, _, _, false, rfl, .ty _, ty, ki, false, rfl, iteF q⟩
theorem scIsInt : FnScope ["value", "low", "high"] ["value", "low", "high"] (defScope sIsInt) := ⟨rfl, rfl, rfl, by decide +kernel, rfl, by decide +kernel, by decide +kernel⟩
theorem ok_isInt {f f1 : Addr} {fd fd1 : FuncData} (F : Fun K "is_integer" "is_integer" sIsInt f fd) (G : FnOk P w K mg base CX0 1 f1 fd1 ["value"] (spWhole K)) (m1 : mg "_is_whole" = some (.ref f1)) (k1 : PySem.W.keepIn K (.ref f1) = true) (b1 : Binds K fd1 ["value"] []) :
    FnOk P w K mg base CX0 2 f fd ["value", "low", "high"] (spIsInt K) := by
  refine F.ok scIsInt (fun vs H Q E h => ?_) (fun cdv A outer s H vs Q E hr h => ?_)
  · obtain ⟨v, lo, hi, rfl, _⟩ := h
    rfl
  · obtain ⟨v, lo, hi, rfl, hk, q⟩ := h
    refine ⟨_, pss_one (ps_ret (pe_and (pe_call G hr (by rfl) m1 k1 b1 .nil pass0 (pa_cons (pv 0) pa_nil)) (pe_one (pe_chain op_le op_le (pv 1) (pv 0) (pv 2))))), ?_⟩
    refine ⟨_, rfl, v, rfl, hk, _, rfl, ?_⟩
    cases hk with
    | int i =>
      refine iteT ⟨_, rfl, _, rfl, _, _, rfl, rfl, _, rfl, ite2 (fun hc => ?_) (fun hc => ?_)⟩
      · refine ⟨_, rfl, _, _, rfl, rfl, ?_⟩
        have e : inB lo hi (.int i) = decide (i ≤ hi) := by
          show (decide (lo ≤ i) && decide (i ≤ hi)) = _
          rw [hc, Bool.true_and]
        rw [e] at q
        exact q
      · have e : inB lo hi (.int i) = false := by
          show (decide (lo ≤ i) && decide (i ≤ hi)) = _
          rw [Bool.eq_false_iff.mpr hc, Bool.false_and]
        rw [e] at q
        exact q
    | bl b => exact iteF q
    | str z _ _ => exact iteF q
    | non => exact iteF q
    | oth a t ty ki ks => exact iteF q
theorem scIsName : FnScope ["value", "letter"] ["value"] (defScope sIsName) := ⟨rfl, rfl, rfl, by decide +kernel, rfl, by decide +kernel, by decide +kernel⟩
theorem ok_isName {f : Addr} {fd : FuncData} {t1 t2 : Tok} (F : Fun K "is_name" "is_name" sIsName f fd) (B : Blt mg) (D : Blp mg) (mL : mg "_LONGEST_NAME" = some (.int 6 t1)) (mA : mg "_LETTERS" = some (.str abc t2)) : FnOk P w K mg base CX0 1 f fd ["value"] (spIsName K) := by
  refine F.ok scIsName (fun vs H Q E h => ?_) (fun cdv A outer s H vs Q E hr h => ?_)
  · obtain ⟨v, rfl, _⟩ := h
    rfl
  · obtain ⟨v, rfl, hk, q⟩ := h
    have nd := scIsName.nd
    refine ⟨_, pss_cons (ps_if (PW.pt (pw_or (pt_not (pt_val (pe_callB call_isi (by rfl) D.isi (by decide +kernel) (pa_cons (pv 0) (pa_cons (pe_bltn (v := .ty "str") (by rfl) D.str (by decide +kernel) rfl) pa_nil)))))
        (pw_or1 (pt_not (pt_chain op_le op_le pe_int (pe_callB call_len_str (by rfl) B.len PySem.boot_len (pa_cons (pv 0) pa_nil)) (pe_glob (v := .int 6) rfl mL ⟨_, rfl⟩)))))) (pss_one (ps_ret pe_bl)) pss_nil)
      (pss_one (ps_ret (pe_callB (cr_all rfl) (by rfl) D.all (by decide +kernel) (pa_cons (pe_lc (own := [("letter", 1)]) (g := gName 1) (tt := tYes) rfl nd (pi_str (pv 0)) (blkOk_by (N := ["value", "letter"]) (sc := defScope sIsName) (by decide +kernel))
        (fun _ _ _ _ _ => pg_name (i := 1) nd rfl (Or.inl rfl)) (fun _ _ _ _ _ => pts_nil) (fun _ _ _ _ _ => pe_cmpR op_in_sign (pv 1) (pe_glob (v := .str abc) rfl mA ⟨_, rfl⟩) (by rfl))) pa_nil)))), ?_⟩
    refine ⟨_, rfl, ?_⟩
    have no : ∀ {v : V}, nameV v = false → (∀ H', Same H H' → Q (.bl (nameV v)) H') → Q (.bl false) H := fun e q => by
      rw [← e]
      exact q _ fun _ _ z => z
    cases hk with
    | int i => exact ⟨_, _, _, _, false, rfl, .ty _, .base (.int i), kit_ty (by decide +kernel), false, rfl, iteT (iteT (no rfl q))⟩
    | bl b => exact ⟨_, _, _, _, false, rfl, .ty _, .base (.bl b), kit_ty (by decide +kernel), false, rfl, iteT (iteT (no rfl q))⟩
    | non => exact ⟨_, _, _, _, false, rfl, .ty _, .base .non, kit_ty (by decide +kernel), false, rfl, iteT (iteT (no rfl q))⟩
    | oth a t ty ki ks => exact ⟨_, _, _, _, false, rfl, .ty _, ty, ks, false, rfl, iteT (iteT (no rfl q))⟩
    | str z hz ok =>
      refine ⟨_, _, _, _, true, rfl, .ty _, .base (.str z), kit_ty (by decide +kernel), true, rfl, iteF ?_⟩
      have zl : z.length ≤ sizeLine := Nat.le_trans hz (by decide)
      refine ⟨_, rfl, _, rfl, zl, _, _, rfl, rfl, _, rfl, ite2 (fun h1 => ?_) (fun h1 => ?_)⟩
      · refine ⟨_, _, rfl, rfl, _, rfl, ?_⟩
        cases h6 : decide ((z.length : Int) ≤ 6) with
        | false =>
          refine iteT ?_
          have e : nameV (.str z) = false := by
            show ((decide (1 ≤ (z.length : Int)) && decide ((z.length : Int) ≤ 6)) && z.cps.toList.all fun c => decide (c ∈ abc.cps.toList)) = false
            rw [h6, Bool.and_false, Bool.false_and]
          exact no e q
        | true =>
          refine iteF ?_
          refine ⟨_, rfl, z, rfl, fun p np => lc_it walk_str (fun i H' => H' = upd H p (.lst ((z.cps.toList.take i).map fun c => V.bl (decide (c ∈ abc.cps.toList))))) rfl (fun _ _ _ _ => trivial) ?_ ?_⟩
          · rintro i x H0 H' hi rfl ⟨rfl, c, hc, rfl⟩
            refine ⟨rfl, ?_⟩
            unfold tYes
            refine iteT ⟨_, rfl, c, abc, rfl, rfl, _, upd_same, ?_, ?_⟩
            · rw [List.length_map, List.length_take]
              exact Nat.lt_of_le_of_lt (Nat.min_le_left _ _) (Nat.lt_of_lt_of_le hi zl)
            · rw [upd_upd]
              have hc2 : z.cps.toList[i]? = some c := by
                rw [Array.getElem?_toList]
                exact hc
              rw [List.take_succ, hc2, List.map_append]
              rfl
          · rintro H' rfl
            have sz : z.cps.toList.take z.cps.size = z.cps.toList := by
              rw [← Array.length_toList, List.take_length]
            refine ⟨p, (z.cps.toList.take z.cps.size).map fun c => decide (c ∈ abc.cps.toList), rfl, SqL.of (by rw [List.map_map]; exact upd_same), ?_⟩
            have e : nameV (.str z) = ((z.cps.toList.take z.cps.size).map fun c => decide (c ∈ abc.cps.toList)).all id := by
              show ((decide (1 ≤ (z.length : Int)) && decide ((z.length : Int) ≤ 6)) && z.cps.toList.all fun c => decide (c ∈ abc.cps.toList)) = _
              rw [h1, h6, sz, List.all_map]
              rfl
            rw [← e]
            refine q _ fun b o z => ?_
            rw [upd_ne (ne_of_none z np)]
            exact z
      · have e : nameV (.str z) = false := by
          show ((decide (1 ≤ (z.length : Int)) && decide ((z.length : Int) ≤ 6)) && z.cps.toList.all fun c => decide (c ∈ abc.cps.toList)) = false
          rw [Bool.eq_false_iff.mpr h1, Bool.false_and, Bool.false_and]
        exact ⟨_, rfl, iteT (no e q)⟩
end
end Mz
set_option Elab.async false
set_option linter.all false
set_option maxRecDepth 100000
set_option maxHeartbeats 4000000
namespace Mz
open PySem PySem.Spec PyProof.Rows L2
def lowS (z : Str) : Int := if z = "" then 0 else -3
def spLeast : Sp := fun vs H Q _ => ∃ z : Str, vs = [.str z] ∧ Q (.int (lowS z)) H
/-- a place's fields -/
def plF (z : Str) (k : Int) : List (Str × V) := putF "_shift" (.int k) (putF "_base" (.str z) [])
/-- a place that can be made: no error -/
def spInit (C : Addr) : Sp := fun vs H Q _ => ∃ (p dx : Addr) (z : Str) (k : Int), vs = [.ref p, .str z, .int k] ∧ H p = some (.ins C dx []) ∧ z.length ≤ 1000 ∧ PyData.strOk z = true ∧ (z = "" ∨ nameS z = true) ∧ lowS z ≤ k ∧ k ≤ 3 ∧
  ∀ H', (∀ q o, q ≠ p → H q = some o → H' q = some o) → H' p = some (.ins C dx (plF z k)) → Q .non H'
structure Cpl (K : PySem.W.Frag) (mg : Str → Option Value) (C : Addr) : Prop where
  cl : Cls K C
  nB : NoAttr K C "_base"
  nS : NoAttr K C "_shift"
  mgC : mg "Place" = some (.ref C)
section
variable {P : Program} {w : World} {K : PySem.W.Frag} {mg : Str → Option Value} {base : Heap}
theorem scLeast : FnScope ["base"] ["base"] (defScope sLeast) := ⟨rfl, rfl, rfl, by decide +kernel, rfl, by decide +kernel, by decide +kernel⟩
theorem ok_least {f : Addr} {fd : FuncData} {t : Tok} (F : Fun K "_least_shift" "_least_shift" sLeast f fd) (mM : mg "_MOST" = some (.int 3 t)) : FnOk P w K mg base CX0 1 f fd ["base"] spLeast := by
  refine F.ok scLeast (fun vs H Q E h => ?_) (fun cdv A outer s H vs Q E hr h => ?_)
  · obtain ⟨z, rfl, _⟩ := h
    rfl
  · obtain ⟨z, rfl, q⟩ := h
    refine ⟨_, pss_one (ps_ret (pe_ifExp (pt_cmpR op_eq (pv 0) pe_str (nomark _)) pe_int (pe_un un_neg (pe_glob (v := .int 3) rfl mM ⟨_, rfl⟩)))), ?_⟩
    refine ⟨_, rfl, rfl, _, rfl, ite2 (fun hc => ?_) (fun hc => ?_)⟩
    · have e : lowS z = 0 := if_pos (V.str.inj (of_decide_eq_true hc))
      rw [e] at q
      exact q
    · have e : lowS z = -3 := if_neg fun x => hc (decide_eq_true (by rw [x]))
      rw [e] at q
      exact ⟨_, rfl, q⟩
theorem scInit : FnScope ["self", "base", "shift"] ["self", "base", "shift"] (defScope (inClass sPlace 0)) := ⟨rfl, rfl, rfl, by decide +kernel, rfl, by decide +kernel, by decide +kernel⟩
theorem ok_init {f f1 f2 f3 C : Addr} {fd fd1 fd2 fd3 : FuncData} {t : Tok} {dvs : List V} {kws : List (Str × V)} {pa : Arguments} (F : FunD K "__init__" "Place.__init__" pa (defBody (inClass sPlace 0)) (defScope (inClass sPlace 0)) dvs kws f fd) (T : Cpl K mg C)
    (G1 : FnOk P w K mg base CX0 1 f1 fd1 ["value"] (spIsName K)) (m1 : mg "is_name" = some (.ref f1)) (k1 : PySem.W.keepIn K (.ref f1) = true) (b1 : Binds K fd1 ["value"] [])
    (G2 : FnOk P w K mg base CX0 2 f2 fd2 ["value", "low", "high"] (spIsInt K)) (m2 : mg "is_integer" = some (.ref f2)) (k2 : PySem.W.keepIn K (.ref f2) = true) (b2 : Binds K fd2 ["value", "low", "high"] [])
    (G3 : FnOk P w K mg base CX0 1 f3 fd3 ["base"] spLeast) (m3 : mg "_least_shift" = some (.ref f3)) (k3 : PySem.W.keepIn K (.ref f3) = true) (b3 : Binds K fd3 ["base"] [])
    (mM : mg "_MOST" = some (.int 3 t)) : FnOk P w K mg base CX0 3 f fd ["self", "base", "shift"] (spInit C) := by
  refine F.ok scInit (fun vs H Q E h => ?_) (fun cdv A outer s H vs Q E hr h => ?_)
  · obtain ⟨p, dx, z, k, rfl, _⟩ := h
    rfl
  · obtain ⟨p, dx, z, k, rfl, hp, hz, ok, hn, h1, h2, q⟩ := h
    refine ⟨_, PSs.nox (pss_cons (ps_if (PW.pt (pw_and (pt_cmpR op_ne (pv 1) pe_str (nomark _)) (pw_and1 (pt_not (pt_val (pe_call G1 (hr.mono (by decide)) (by rfl) m1 k1 b1 .nil pass0 (pa_cons (pv 1) pa_nil))))))) (pss_one ps_never) pss_nil)
      (pss_cons (ps_if (pt_not (pt_val (pe_call G2 hr (by rfl) m2 k2 b2 .nil pass0 (pa_cons (pv 2) (pa_cons (pe_call G3 (hr.mono (by decide)) (by rfl) m3 k3 b3 .nil pass0 (pa_cons (pv 1) pa_nil)) (pa_cons (pe_glob (v := .int 3) rfl mM ⟨_, rfl⟩) pa_nil)))))) (pss_one ps_never) pss_nil)
      (pss_cons (ps_fld (pv 0) (pv 1) rfl) (pss_one (ps_fld (pv 0) (pv 2) rfl))))), ?_⟩
    generalize hT : tSeq (tIfS (tNot _) _ _) (tSeq (sFld _ _ _ _) (sFld _ _ _ _)) = T2
    have rest : ∀ H1, Same H H1 → T2 { nx := fun _ H' => Q .non H', rt := Q } (start ["self", "base", "shift"] [V.ref p, V.str z, V.int k]) H1 := by
      intro H1 sm
      rw [← hT]
      have hp1 := sm _ _ hp
      refine ⟨_, rfl, _, rfl, z, rfl, .int k, lowS z, 3, rfl, Kd.int k, _, rfl, ?_⟩
      have e : inB (lowS z) 3 (.int k) = true := by
        show (decide (lowS z ≤ k) && decide (k ≤ 3)) = true
        rw [decide_eq_true h1, decide_eq_true h2]
        rfl
      rw [e]
      refine iteF ⟨_, rfl, _, rfl, p, C, dx, [], rfl, hp1, T.cl, T.nB, (by show 0 < 1000; decide), _, rfl, _, rfl, p, C, dx, _, rfl, upd_same, T.cl, T.nS, (by show 1 < 1000; decide), ?_⟩
      refine q _ (fun r o n e => ?_) upd_same
      rw [upd_ne n, upd_ne n]
      exact sm _ _ e
    have kd : Kd K H (.str z) := .str z hz ok
    by_cases hz0 : z = ""
    · subst hz0
      exact ⟨_, rfl, rfl, _, rfl, iteF (iteF (rest H (Same.refl H)))⟩
    · have hnm : nameS z = true := hn.resolve_left hz0
      have e : decide (V.str z = V.str "") = false := decide_eq_false fun x => hz0 (V.str.inj x)
      refine ⟨_, rfl, rfl, _, rfl, ?_⟩
      rw [e]
      refine iteT ⟨_, rfl, .str z, rfl, kd, fun H1 sm => ⟨_, rfl, ?_⟩⟩
      have e2 : nameV (.str z) = true := hnm
      rw [e2]
      exact iteF (rest H1 sm)
end
end Mz
set_option Elab.async false
set_option linter.all false
set_option maxRecDepth 100000
set_option maxHeartbeats 4000000
namespace Mz
open PySem PySem.Spec PyProof.Rows L2
theorem plF_base {z : Str} {k : Int} : (plF z k).lookup ("_base" : Str) = some (.str z) := by
  unfold plF
  rw [lookup_putF, if_neg (by decide +kernel), lookup_putF, if_pos rfl]
theorem plF_shift {z : Str} {k : Int} : (plF z k).lookup ("_shift" : Str) = some (.int k) := by
  unfold plF
  rw [lookup_putF, if_pos rfl]
/-- a place stands at a -/
def Pl (C : Addr) (H : Hp) (a : Addr) (z : Str) (k : Int) : Prop := ∃ dx, H a = some (.ins C dx (plF z k))
/-- a base and a shift that go together -/
def Good (z : Str) (k : Int) : Prop := z.length ≤ 1000 ∧ PyData.strOk z = true ∧ (z = "" ∨ nameS z = true) ∧ lowS z ≤ k ∧ k ≤ 3
theorem Good.lo {z : Str} {k : Int} (g : Good z k) : -3 ≤ k := by
  have h := g.2.2.2.1
  unfold lowS at h
  split at h <;> omega
theorem Good.hi {z : Str} {k : Int} (g : Good z k) : k ≤ 3 := g.2.2.2.2
theorem int_small {k : Int} (h0 : -3 ≤ k) (h1 : k ≤ 3) : k.natAbs.log2 < 1920 := by
  have h : k.natAbs < 2 ^ 3 := by omega
  exact Nat.lt_trans (PySem.Flt.log2_lt_of (by decide) h) (by decide)
/-- str of a place -/
def strP (z : Str) (k : Int) : Str := if z = "" then Str.ofString (toString k) else if k = 0 then z else "" ++ z ++ signS k
def spBase (C : Addr) : Sp := fun vs H Q _ => ∃ a z k, vs = [.ref a] ∧ Pl C H a z k ∧ Q (.str z) H
def spShift (C : Addr) : Sp := fun vs H Q _ => ∃ a z k, vs = [.ref a] ∧ Pl C H a z k ∧ Q (.int k) H
def spStr (C : Addr) : Sp := fun vs H Q _ => ∃ a z k, vs = [.ref a] ∧ Pl C H a z k ∧ Good z k ∧ Q (.str (strP z k)) H
/-- a value that is no place -/
def Oty (K : PySem.W.Frag) (C : Addr) (H : Hp) (y : V) : Prop := ∃ t, TyX K H y t ∧ PySem.W.kitOne K t (.ref C) = some false
def spEq (K : PySem.W.Frag) (C : Addr) : Sp := fun vs H Q _ => ∃ a z k, Pl C H a z k ∧ ((∃ b y i, vs = [.ref a, .ref b] ∧ Pl C H b y i ∧ Q (.bl (decide (z = y) && decide (k = i))) H) ∨ (∃ y, vs = [.ref a, y] ∧ Oty K C H y ∧ Q (.bl false) H))
def spAdd (C : Addr) : Sp := fun vs H Q _ => ∃ a z k i, vs = [.ref a, .int i] ∧ Pl C H a z k ∧ Good z k ∧ Good z (k + i) ∧ ∀ p H', H p = none → Same H H' → Pl C H' p z (k + i) → Q (.ref p) H'
theorem strlen_sign {k : Int} : (signS k).length = 2 := by
  unfold signS
  repeat' split
  all_goals decide +kernel
section
variable {P : Program} {w : World} {K : PySem.W.Frag} {mg : Str → Option Value} {base : Heap}
theorem scBase : FnScope ["self"] ["self"] (defScope (inClass sPlace 2)) := ⟨rfl, rfl, rfl, by decide +kernel, rfl, by decide +kernel, by decide +kernel⟩
theorem ok_base {f C : Addr} {fd : FuncData} (F : Fun K "base" "Place.base" (inClass sPlace 2) f fd) (T : Cpl K mg C) : FnOk P w K mg base CX0 1 f fd ["self"] (spBase C) := by
  refine F.ok scBase (fun vs H Q E h => ?_) (fun cdv A outer s H vs Q E hr h => ?_)
  · obtain ⟨a, z, k, rfl, _⟩ := h
    rfl
  · obtain ⟨a, z, k, rfl, ⟨dx, ha⟩, q⟩ := h
    exact ⟨_, pss_one (ps_ret (pe_fld (pv 0) rfl)), _, rfl, a, C, dx, _, _, rfl, ha, T.cl, T.nB, plF_base, q⟩
theorem scShift : FnScope ["self"] ["self"] (defScope (inClass sPlace 3)) := ⟨rfl, rfl, rfl, by decide +kernel, rfl, by decide +kernel, by decide +kernel⟩
theorem ok_shift {f C : Addr} {fd : FuncData} (F : Fun K "shift" "Place.shift" (inClass sPlace 3) f fd) (T : Cpl K mg C) : FnOk P w K mg base CX0 1 f fd ["self"] (spShift C) := by
  refine F.ok scShift (fun vs H Q E h => ?_) (fun cdv A outer s H vs Q E hr h => ?_)
  · obtain ⟨a, z, k, rfl, _⟩ := h
    rfl
  · obtain ⟨a, z, k, rfl, ⟨dx, ha⟩, q⟩ := h
    exact ⟨_, pss_one (ps_ret (pe_fld (pv 0) rfl)), _, rfl, a, C, dx, _, _, rfl, ha, T.cl, T.nS, plF_shift, q⟩
theorem scStr : FnScope ["self"] ["self"] (defScope (inClass sPlace 4)) := ⟨rfl, rfl, rfl, by decide +kernel, rfl, by decide +kernel, by decide +kernel⟩
theorem ok_str {f C : Addr} {fd : FuncData} (F : Fun K "__str__" "Place.__str__" (inClass sPlace 4) f fd) (T : Cpl K mg C) (D : Blp mg) : FnOk P w K mg base CX0 1 f fd ["self"] (spStr C) := by
  refine F.ok scStr (fun vs H Q E h => ?_) (fun cdv A outer s H vs Q E hr h => ?_)
  · obtain ⟨a, z, k, rfl, _⟩ := h
    rfl
  · obtain ⟨a, z, k, rfl, ⟨dx, ha⟩, g, q⟩ := h
    refine ⟨_, pss_cons (ps_if (pt_cmpR op_eq (pe_fld (pv 0) rfl) pe_str (nomark _)) (pss_one (ps_ret (pe_callTy call_str_int (by rfl) D.str (by decide +kernel) (pa_cons (pe_fld (pv 0) rfl) pa_nil)))) pss_nil)
      (pss_cons (ps_if (pt_cmpR op_eq (pe_fld (pv 0) rfl) pe_int (nomark _)) (pss_one (ps_ret (pe_joined1 (pe_fmt (pe_fld (pv 0) rfl))))) pss_nil)
      (pss_one (ps_ret (pe_joined (.cons (pe_fmt (pe_fld (pv 0) rfl)) (.cons (pe_fmtP (pe_fld (pv 0) rfl)) .nil)))))), ?_⟩
    have zl : z.length ≤ 1000 := g.1
    refine ⟨_, rfl, a, C, dx, _, _, rfl, ha, T.cl, T.nB, plF_base, rfl, _, rfl, ite2 (fun h1 => ?_) (fun h1 => ?_)⟩
    · have e : strP z k = Str.ofString (toString k) := if_pos (V.str.inj (of_decide_eq_true h1))
      rw [e] at q
      exact ⟨_, rfl, a, C, dx, _, _, rfl, ha, T.cl, T.nS, plF_shift, _, rfl, int_small g.lo g.hi, q⟩
    · have n1 : ¬ z = "" := fun x => h1 (decide_eq_true (by rw [x]))
      refine ⟨_, rfl, a, C, dx, _, _, rfl, ha, T.cl, T.nS, plF_shift, rfl, _, rfl, ite2 (fun h2 => ?_) (fun h2 => ?_)⟩
      · have e : strP z k = z := by
          unfold strP
          rw [if_neg n1, if_pos (V.int.inj (of_decide_eq_true h2))]
        rw [e] at q
        exact ⟨_, rfl, a, C, dx, _, _, rfl, ha, T.cl, T.nB, plF_base, .inl ⟨z, rfl, Nat.le_trans zl (by decide), q⟩⟩
      · have n2 : ¬ k = 0 := fun x => h2 (decide_eq_true (by rw [x]))
        have e : strP z k = "" ++ z ++ signS k := by
          unfold strP
          rw [if_neg n1, if_neg n2]
        rw [e] at q
        refine ⟨_, rfl, a, C, dx, _, _, rfl, ha, T.cl, T.nB, plF_base, .inl ⟨z, rfl, Nat.le_trans zl (by decide), z, rfl, ?_, ?_⟩⟩
        · rw [strLen_append]
          exact Nat.le_trans (Nat.add_le_add (show ("" : Str).length ≤ 0 by decide +kernel) zl) (by decide)
        · refine ⟨_, rfl, a, C, dx, _, _, rfl, ha, T.cl, T.nS, plF_shift, k, rfl, g.lo, g.hi, n2, signS k, rfl, ?_, q⟩
          rw [strLen_append, strLen_append, strlen_sign]
          exact Nat.le_trans (Nat.add_le_add_right (Nat.add_le_add (show ("" : Str).length ≤ 0 by decide +kernel) zl) 2) (by decide)
end
end Mz
set_option Elab.async false
set_option linter.all false
set_option maxRecDepth 100000
set_option maxHeartbeats 4000000
namespace Mz
open PySem PySem.Spec PyProof.Rows L2
section
variable {P : Program} {w : World} {K : PySem.W.Frag} {mg : Str → Option Value} {base : Heap}
/-- isinstance of a place and of no place -/
structure Pty (K : PySem.W.Frag) (C : Addr) : Prop where
  cl : Cls K C
  ha : PySem.W.findIn K (.ref C) "__class__" = some (some (.builtin "object.__class__"))
  hn : PySem.W.specialIn K (.builtin "object.__class__") "__get__" = some (some (.builtin "getset_descriptor.__get__"))
  htk : PySem.W.takesIn K (.builtin "object.__class__") = some true
  hm : PySem.W.mroIn K C (.type "object") = some true
theorem Pl.ty {C : Addr} {H : Hp} {a : Addr} {z : Str} {k : Int} (T : Pty K C) (h : Pl C H a z k) : TyX K H (.ref a) (.ref C) := by
  obtain ⟨dx, ha⟩ := h
  exact .base (.ins ha T.cl T.ha T.hn T.htk T.hm)
theorem kit_self {C : Addr} : PySem.W.kitOne K (.ref C) (.ref C) = some true := by
  unfold PySem.W.kitOne
  rw [if_pos (by simp)]
theorem scEq : FnScope ["self", "other"] ["self", "other"] (defScope (inClass sPlace 6)) := ⟨rfl, rfl, rfl, by decide +kernel, rfl, by decide +kernel, by decide +kernel⟩
theorem ok_eq {f C : Addr} {fd : FuncData} (F : Fun K "__eq__" "Place.__eq__" (inClass sPlace 6) f fd) (T : Cpl K mg C) (Y : Pty K C) (D : Blp mg) : FnOk P w K mg base CX0 1 f fd ["self", "other"] (spEq K C) := by
  refine F.ok scEq (fun vs H Q E h => ?_) (fun cdv A outer s H vs Q E hr h => ?_)
  · obtain ⟨a, z, k, _, ⟨b, y, i, rfl, _⟩ | ⟨y, rfl, _⟩⟩ := h
    · rfl
    · rfl
  · obtain ⟨a, z, k, pa, h⟩ := h
    refine ⟨_, pss_one (ps_ret (pe_and (pe_callB call_isi (by rfl) D.isi (by decide +kernel) (pa_cons (pv 1) (pa_cons (pe_glob (v := .ref C) rfl T.mgC rfl) pa_nil)))
      (pe_and (pe_cmpR op_eq (pe_fld (pv 0) rfl) (pe_fld (pv 1) rfl) (nomark _)) (pe_one (pe_cmpR op_eq (pe_fld (pv 0) rfl) (pe_fld (pv 1) rfl) (nomark _)))))), ?_⟩
    obtain ⟨dx, ha⟩ := id pa
    rcases h with ⟨b, y, i, rfl, pb, q⟩ | ⟨y, rfl, ⟨t, ty, kt⟩, q⟩
    · obtain ⟨dy, hb⟩ := id pb
      refine ⟨_, rfl, .ref b, .ref C, .ref C, .ref C, true, rfl, .own C, pb.ty Y, kit_self, true, rfl, iteT ?_⟩
      refine ⟨_, rfl, a, C, dx, _, _, rfl, ha, T.cl, T.nB, plF_base, _, rfl, b, C, dy, _, _, rfl, hb, T.cl, T.nB, plF_base, rfl, _, rfl, ite2 (fun h1 => ?_) (fun h1 => ?_)⟩
      · refine ⟨_, rfl, a, C, dx, _, _, rfl, ha, T.cl, T.nS, plF_shift, _, rfl, b, C, dy, _, _, rfl, hb, T.cl, T.nS, plF_shift, rfl, ?_⟩
        have e1 : z = y := V.str.inj (of_decide_eq_true h1)
        have e2 : decide (V.int k = V.int i) = decide (k = i) := decide_eq_decide.mpr ⟨fun x => V.int.inj x, fun x => by rw [x]⟩
        rw [decide_eq_true e1, Bool.true_and] at q
        rw [e2]
        exact q
      · have e1 : ¬ z = y := fun x => h1 (decide_eq_true (by rw [x]))
        rw [decide_eq_false e1, Bool.false_and] at q
        exact q
    · exact ⟨_, rfl, y, .ref C, t, .ref C, false, rfl, .own C, ty, kt, false, rfl, iteF q⟩
theorem scAdd : FnScope ["self", "other"] ["self", "other"] (defScope (inClass sPlace 7)) := ⟨rfl, rfl, rfl, by decide +kernel, rfl, by decide +kernel, by decide +kernel⟩
theorem ok_add {f f2 f3 fI C : Addr} {fd fd2 fd3 fdI : FuncData} {t : Tok} {g : List Value → List Value → List Value} (F : Fun K "__add__" "Place.__add__" (inClass sPlace 7) f fd) (T : Cpl K mg C)
    (G2 : FnOk P w K mg base CX0 2 f2 fd2 ["value", "low", "high"] (spIsInt K)) (m2 : mg "is_integer" = some (.ref f2)) (k2 : PySem.W.keepIn K (.ref f2) = true) (b2 : Binds K fd2 ["value", "low", "high"] [])
    (G3 : FnOk P w K mg base CX0 1 f3 fd3 ["base"] spLeast) (m3 : mg "_least_shift" = some (.ref f3)) (k3 : PySem.W.keepIn K (.ref f3) = true) (b3 : Binds K fd3 ["base"] [])
    (mM : mg "_MOST" = some (.int 3 t)) (M : Mk K C fI) (GI : FnOk P w K mg base CX0 3 fI fdI ["self", "base", "shift"] (spInit C)) (kI : KBn K fdI ["self", "base", "shift"] 2 ["shift"] g (fun vs zs => vs ++ zs)) :
    FnOk P w K mg base CX0 5 f fd ["self", "other"] (spAdd C) := by
  refine F.ok scAdd (fun vs H Q E h => ?_) (fun cdv A outer s H vs Q E hr h => ?_)
  · obtain ⟨a, z, k, i, rfl, _⟩ := h
    rfl
  · obtain ⟨a, z, k, i, rfl, ⟨dx, ha⟩, g1, g2, q⟩ := h
    refine ⟨_, PSs.nox (pss_cons (ps_if (pt_not (pt_val (pe_call G2 (hr.mono (by decide)) (by rfl) m2 k2 b2 .nil pass0 (pa_cons (pv 1) (pa_cons (pe_op op_sub (pe_call G3 (hr.mono (by decide)) (by rfl) m3 k3 b3 .nil pass0 (pa_cons (pe_fld (pv 0) rfl) pa_nil)) (pe_fld (pv 0) rfl))
        (pa_cons (pe_op op_sub (pe_glob (v := .int 3) rfl mM ⟨_, rfl⟩) (pe_fld (pv 0) rfl)) pa_nil)))))) (pss_one ps_never) pss_nil)
      (pss_one (ps_ret (pe_makeK M GI hr (by rfl) T.mgC kI pass0 (pa_cons (pe_fld (pv 0) rfl) pa_nil) (pk_cons (pe_op op_add (pe_fld (pv 0) rfl) (pv 1)) pk_nil))))), ?_⟩
    refine ⟨_, rfl, _, rfl, a, C, dx, _, _, rfl, ha, T.cl, T.nB, plF_base, z, rfl, _, rfl, a, C, dx, _, _, rfl, ha, T.cl, T.nS, plF_shift, _, _, rfl, rfl, ?_⟩
    refine ⟨_, rfl, a, C, dx, _, _, rfl, ha, T.cl, T.nS, plF_shift, _, _, rfl, rfl, .int i, _, _, rfl, .int i, _, rfl, ?_⟩
    have e : inB (lowS z - k) (3 - k) (.int i) = true := by
      have h1 := g2.2.2.2.1
      have h2 := g2.2.2.2.2
      show (decide (lowS z - k ≤ i) && decide (i ≤ 3 - k)) = true
      rw [decide_eq_true (by omega), decide_eq_true (by omega)]
      rfl
    rw [e]
    refine iteF ⟨_, rfl, a, C, dx, _, _, rfl, ha, T.cl, T.nB, plF_base, _, rfl, a, C, dx, _, _, rfl, ha, T.cl, T.nS, plF_shift, _, rfl, _, _, rfl, rfl, rfl, rfl, fun p dp np ndp nn => ?_⟩
    refine ⟨p, dp, z, k + i, rfl, upd_same, g2.1, g2.2.1, g2.2.2.1, g2.2.2.2.1, g2.2.2.2.2, fun H' u t' => ⟨rfl, q p H' np (fun r o hro => u r o (ne_of_none hro np) ?_) ⟨dp, t'⟩⟩⟩
    rw [upd_ne (ne_of_none hro np), upd_ne (ne_of_none hro ndp)]
    exact hro
end
end Mz
set_option Elab.async false
set_option linter.all false
set_option maxRecDepth 100000
set_option maxHeartbeats 4000000
namespace Mz
open PySem PySem.Spec PyProof.Rows L2
theorem sign_ok {z : Str} {c : Nat} (ok : PyData.strOk z = true) (h : c ∈ z.cps.toList) : PyData.strOk ⟨#[c]⟩ = true := by
  have h1 : c < 0x110000 := by
    unfold PyData.strOk at ok
    rw [Array.all_eq_true_iff_forall_mem] at ok
    exact of_decide_eq_true (ok c (Array.mem_toList_iff.mp h))
  unfold PyData.strOk
  simp only [Array.all_eq_true_iff_forall_mem]
  intro x hx
  have e : x = c := by simpa using hx
  rw [e]
  exact decide_eq_true h1
/-! texts of a bounded length, of signs that are some -/
def Sm (n : Nat) (z : Str) : Prop := z.length ≤ n ∧ PyData.strOk z = true
theorem strOk_iff {z : Str} : PyData.strOk z = true ↔ ∀ c ∈ z.cps.toList, c < 0x110000 := by
  unfold PyData.strOk
  rw [Array.all_eq_true_iff_forall_mem]
  exact ⟨fun h c hc => of_decide_eq_true (h c (Array.mem_toList_iff.mp hc)), fun h c hc => decide_eq_true (h c (Array.mem_toList_iff.mpr hc))⟩
theorem Sm.mono {n m : Nat} {z : Str} (h : Sm n z) (le : n ≤ m) : Sm m z := ⟨Nat.le_trans h.1 le, h.2⟩
theorem Sm.app {n m : Nat} {y z : Str} (hy : Sm n y) (hz : Sm m z) : Sm (n + m) (y ++ z) := by
  refine ⟨by rw [strLen_append]; exact Nat.add_le_add hy.1 hz.1, strOk_iff.mpr fun c hc => ?_⟩
  have hc2 : c ∈ (y.cps ++ z.cps).toList := hc
  rw [Array.toList_append] at hc2
  rcases List.mem_append.mp hc2 with e | e
  · exact strOk_iff.mp hy.2 c e
  · exact strOk_iff.mp hz.2 c e
theorem Sm.cut {n : Nat} {z : Str} (h : Sm n z) (lo hi : Option Int) : Sm n (cutS z lo hi) := by
  unfold cutS
  refine ⟨?_, strOk_iff.mpr fun c hc => ?_⟩
  · show ((z.cps.toList.drop _).take _).toArray.size ≤ n
    rw [List.size_toArray, List.length_take, List.length_drop]
    have e : z.cps.toList.length = z.length := rfl
    have := h.1
    omega
  · exact strOk_iff.mp h.2 c (List.mem_of_mem_drop (List.mem_of_mem_take hc))
theorem sm_sign {z : Str} {c : Nat} (ok : PyData.strOk z = true) (h : c ∈ z.cps.toList) : Sm 1 ⟨#[c]⟩ := ⟨Nat.le_refl _, sign_ok ok h⟩
theorem join_ok : ∀ l : List Str, (∀ y ∈ l, PyData.strOk y = true) → PyData.strOk (Str.join "" l) = true
  | [], _ => by decide +kernel
  | [x], h => h x List.mem_cons_self
  | x :: y :: r, h => by
    have h1 := h x List.mem_cons_self
    have h2 := join_ok (y :: r) fun z hz => h z (List.mem_cons_of_mem _ hz)
    show PyData.strOk (x ++ "" ++ Str.join "" (y :: r)) = true
    exact (Sm.app (Sm.app ⟨Nat.le_refl _, h1⟩ ⟨Nat.le_refl _, by decide +kernel⟩) ⟨Nat.le_refl _, h2⟩).2
theorem sum_ones : ∀ l : List Str, (∀ y ∈ l, Sm 1 y) → (l.map (·.length)).sum ≤ l.length
  | [], _ => Nat.le_refl _
  | x :: r, h => by
    have h1 := (h x List.mem_cons_self).1
    have h2 := sum_ones r fun z hz => h z (List.mem_cons_of_mem _ hz)
    rw [List.map_cons, List.sum_cons, List.length_cons]
    omega
theorem sm_join {l : List Str} (h : ∀ y ∈ l, Sm 1 y) : Sm l.length (Txt.join "" l) := by
  unfold Txt.join
  rw [StrLaws.glued_eq_join]
  refine ⟨?_, join_ok l fun y hy => (h y hy).2⟩
  have e := StrLaws.join_length_le "" l
  have e2 := sum_ones l h
  have e3 : l.length * ("" : Str).length = 0 := by
    rw [show ("" : Str).length = 0 by decide +kernel, Nat.mul_zero]
  omega
theorem atI_in {a : Type} {l : List a} {i : Int} (h0 : 0 ≤ i) (h1 : i < (l.length : Int)) : ∃ c, atI l i = some c ∧ c ∈ l := by
  obtain ⟨k, rfl⟩ := Int.eq_ofNat_of_zero_le h0
  have hk : k < l.length := by omega
  exact ⟨l[k], atI_nat (List.getElem?_eq_getElem hk), List.getElem_mem hk⟩
theorem str_empty {z : Str} (h : z.length = 0) : z = "" := by
  obtain ⟨l⟩ := z
  have e : l = #[] := Array.eq_empty_of_size_eq_zero h
  rw [e]
  rfl
theorem same_nw {H : Hp} {p : Addr} {o : HO} (h : H p = none) : Same H (upd H p o) := fun q u e => by
  rw [upd_ne (ne_of_none e h)]
  exact e
end Mz
set_option Elab.async false
set_option linter.all false
set_option maxRecDepth 100000
set_option maxHeartbeats 4000000
namespace Mz
open PySem PySem.Spec PyProof.Rows L2
/-- the types of int, bool, str, None are no places -/
structure Npl (K : PySem.W.Frag) (C : Addr) : Prop where
  int : PySem.W.kitOne K (.type "int") (.ref C) = some false
  bool : PySem.W.kitOne K (.type "bool") (.ref C) = some false
  str : PySem.W.kitOne K (.type "str") (.ref C) = some false
  non : PySem.W.kitOne K (.type "NoneType") (.ref C) = some false
/-- the exception's class, as the written part has it -/
structure Xcl (K : PySem.W.Frag) (mg : Str → Option Value) (x : Str) (C : Addr) (f : Str) : Prop where
  ox : OexC K C
  no : PySem.W.findIn K (.ref C) f = some none
  m : mg x = some (.ref C)
  xf : XfC K C
theorem good_num {i : Int} (h0 : 0 ≤ i) (h1 : i ≤ 3) : Good "" i := ⟨by decide +kernel, by decide +kernel, .inl rfl, h0, h1⟩
theorem low_name {z : Str} (h : nameS z = true) : lowS z = -3 := if_neg fun e => by
  rw [e] at h
  exact absurd h (by decide +kernel)
theorem good_name {z : Str} {k : Int} (hz : Sm 1000 z) (h : nameS z = true) (h0 : -3 ≤ k) (h1 : k ≤ 3) : Good z k := ⟨hz.1, hz.2, .inr h, by rw [low_name h]; exact h0, h1⟩
end Mz
set_option Elab.async false
set_option linter.all false
set_option maxRecDepth 100000
set_option maxHeartbeats 4000000
namespace Mz
open PySem PySem.Spec PyProof.Rows L2
/-! letters, by order and by the alphabet -/
def loC (c : Nat) : Bool := !decide ((⟨#[c]⟩ : Str).cps.toList < ("a" : Str).cps.toList)
def hiC (c : Nat) : Bool := !decide (("z" : Str).cps.toList < (⟨#[c]⟩ : Str).cps.toList)
theorem abc_range : abc.cps.toList = List.range' 97 26 := by decide +kernel
theorem one_lt (a b : Nat) : ([a] : List Nat) < [b] ↔ a < b := by
  rw [List.cons_lt_cons_iff]
  simp
theorem letter_eq (c : Nat) : (loC c && hiC c) = decide (c ∈ abc.cps.toList) := by
  have e1 : loC c = decide (97 ≤ c) := by
    unfold loC
    rw [show ("a" : Str).cps.toList = [97] by decide +kernel]
    show (!decide (([c] : List Nat) < [97])) = _
    rw [decide_eq_decide.mpr (one_lt c 97)]
    by_cases h : c < 97
    · rw [decide_eq_true h, decide_eq_false (by omega)]; rfl
    · rw [decide_eq_false h, decide_eq_true (by omega)]; rfl
  have e2 : hiC c = decide (c ≤ 122) := by
    unfold hiC
    rw [show ("z" : Str).cps.toList = [122] by decide +kernel]
    show (!decide (([122] : List Nat) < [c])) = _
    rw [decide_eq_decide.mpr (one_lt 122 c)]
    by_cases h : 122 < c
    · rw [decide_eq_true h, decide_eq_false (by omega)]; rfl
    · rw [decide_eq_false h, decide_eq_true (by omega)]; rfl
  rw [e1, e2, abc_range, ← Bool.decide_and]
  refine decide_eq_decide.mpr ?_
  rw [List.mem_range'_1]
  omega
theorem dp_strs {K : PySem.W.Frag} {H : Hp} : ∀ l : List Str, DpAll K H (l.map V.str) (l.map PyData.str)
  | [] => .nil
  | z :: l => .cons (.str z) (dp_strs l)
theorem strs_lay : ∀ l : List Str, (∀ z ∈ l, PyData.strOk z = true) → PyData.canLayAll0 (l.map PyData.str) = true ∧ PyData.depthAll (l.map PyData.str) = 0
  | [], _ => ⟨rfl, rfl⟩
  | z :: l, ok => by
    obtain ⟨h1, h2⟩ := strs_lay l fun y hy => ok y (List.mem_cons_of_mem _ hy)
    have h3 := ok z List.mem_cons_self
    rw [List.map_cons]
    refine ⟨?_, ?_⟩
    · simp [PyData.canLayAll0, PyData.canLay0, h1, h3]
    · simp [PyData.depthAll, PyData.depth, h2]
theorem shaped_strs (l : List Str) (ok : ∀ z ∈ l, PyData.strOk z = true) : SeqAt.shaped (.list (l.map PyData.str)) = true := by
  obtain ⟨h1, h2⟩ := strs_lay l ok
  unfold SeqAt.shaped
  simp [PyData.canLay0, PyData.depth, h1, h2]
theorem eqv_nil {xs : List PyData} : PyData.eqv (.list xs) (.list []) = xs.isEmpty := by
  cases xs <;> rfl
end Mz
set_option Elab.async false
set_option linter.all false
set_option maxRecDepth 100000
set_option maxHeartbeats 4000000
/-! a class called in a try: what is raised is wished for at the caller's slots -/
namespace Mz
open PySem PySem.Spec PyProof.Rows L2
section
variable {X : Cx} {CX : CXT} {k n : Nat} {f C : Addr} {fd : FuncData} {ps ks : List Str} {sp : Sp} {x : Str} {p pos : Pos} {e : Expr} {es : List Expr} {kws : List Keyword} {t tk : TA} {g : List Value → List Value → List Value} {gV : List V → List V → List V}
theorem run_makeKS {E : XK} {pins : List (Addr × Obj)} {σ : L2.St} {H : Hp} {s : Shared} {Q : VK} {us ws : List Value} {vs zs : List V} (M : Mk X.K C f) (F : FnOk X.prog X.w X.K X.mg X.base CX k f fd ps sp) (hr : Room (k + 1) X.A) (hb : KBn X.K fd ps (n + 1) ks g gV) (hx : PassesAt CX X σ E)
    (I : Inv X pins σ H s) (r : Vals vs us) (rz : Vals zs ws) (l1 : vs.length = n) (l2 : zs.length = ks.length)
    (h : ∀ x dx, H x = none → H dx = none → dx ≠ x → sp (gV (.ref x :: vs) zs) (upd (upd H dx (.own x)) x (.ins C dx [])) (fun v H2 => v = .non ∧ Q (.ref x) H2) E) :
    wpAny (model X.prog X.w) X.A (call (.ref C) us (ks.zip ws)) (EP X pins σ Q) X.xe s := by
  have hq := h (s.heap.objs.size + 1) s.heap.objs.size (I.hok.fresh (Nat.le_succ _)) (I.hok.fresh (Nat.le_refl _)) (Nat.ne_of_lt (Nat.lt_succ_self _))
  have I2 := Inv.made (C := C) I
  have r1 : Vals (V.ref (s.heap.objs.size + 1) :: vs) (Value.ref (s.heap.objs.size + 1) :: us) := .cons rfl r
  have r2 := hb.rel r1 rz
  have n1 : (Value.ref (s.heap.objs.size + 1) :: us).length = n + 1 := by
    rw [List.length_cons, ← r.length, l1]
  refine wpAny_call (make_map (f := f) I.kIn M.makes M.init (beq_iff_eq.mp M.fn) (codeAny_mono (F.run _ X.stack _ _ ⟨Value.ref (s.heap.objs.size + 1) :: us, ks.zip ws⟩ (g (Value.ref (s.heap.objs.size + 1) :: us) ws) _ _ E (hr.make C us (ks.zip ws))
    (I2.env0.make C us (ks.zip ws)) (hb.to _ (Value.ref (s.heap.objs.size + 1) :: us) ws I2.kIn n1 (rz.length.symm.trans l2)) r2 hq) fun r s' hq' => ?_))
  cases r with
  | error e => exact hx pins _ _ e s' I2 hq'
  | ok fl =>
    cases fl with
    | ret u =>
      obtain ⟨v, H', I3, rv, ev, q3⟩ := I2.after hq'
      subst ev
      exact ⟨rv, ⟨V.ref (s.heap.objs.size + 1), H', I3, rfl, q3⟩⟩
    | next => exact False.elim hq'
    | brk => exact False.elim hq'
    | cont => exact False.elim hq'
/-- C(e, .., k = v, ..) -/
theorem pe_makeKS {ES : L2.St → XK} (M : Mk X.K C f) (F : FnOk X.prog X.w X.K X.mg X.base CX k f fd ps sp) (hr : Room (k + 1) X.A) (hg : Gl X x) (hm : X.mg x = some (.ref C)) (hb : KBn X.K fd ps (n + 1) ks g gV) (hx : ∀ σ, PassesAt CX X σ (ES σ)) (ha : PA X (e :: es) t) (hkw : PK X kws tk)
    (hall : (backToKw pos (keywordEach kws X.env)).all (·.1.isSome) = true := by rfl) (hks : (backToKw pos (keywordEach kws X.env)).filterMap (·.1) = ks := by rfl) (hdb : (x == ("__debug__" : Str)) = false := by decide)
    (he : starEach (e :: es) X.env = (false, eval e X.env) :: starEach es X.env := by rfl) (hpl : ((backTo pos (starEach (e :: es) X.env)).any (·.1) || (backToKw pos (keywordEach kws X.env)).any (·.1.isNone)) = false := by rfl) :
    PE X (.Call (.Name x p) (e :: es) kws pos) (fun σ H Q => tMakeK C n ks.length sp gV (ES σ) t tk σ H Q) := by
  refine ⟨fun pins s σ H Q I h => ?_⟩
  refine wpAny_Call_Name_kw (ld_glob I hg hm ?_ hdb)
  refine PySem.W.callWith_KW (h₀ := X.base) I.ok.mod.kin M.kp hall (thn (ha.run pos pins s σ H _ I h) fun us s1 ⟨vs, H1, I1, r, q⟩ => ?_) hpl he
  refine thn (hkw.run pos pins s1 σ H1 _ I1 q) fun ws s2 ⟨zs, H2, I2, rz, l1, l2, q2⟩ => ⟨I2.kIn, ?_⟩
  rw [hks]
  exact run_makeKS M F hr hb (hx σ) I2 r rz l1 l2 q2
/-- f"{x}", x an instance with an own __str__ -/
theorem pe_fmtO {j : Nat} {te : TE} (he : PE X e te) (F : FnOk X.prog X.w X.K X.mg X.base CX0 j f fd ["self"] sp) (hr : Room (j + 2) X.A) (hb : Binds X.K fd ["self"] []) (hs : PySem.W.findIn X.K (.ref C) "__str__" = some (some (.ref f))) (hf : PySem.W.isFn X.K (.ref f) = true)
    (hfm : PySem.W.findIn X.K (.ref C) "__format__" = some (some (.builtin "object.__format__"))) (hm : PySem.W.mroIn X.K C (.type "object") = some true) :
    PE X (.FormattedValue e (-1) none pos) (fun σ H Q => te σ H fun x H1 => ∃ a dx fs, x = .ref a ∧ H1 a = some (.ins C dx fs) ∧ sp [.ref a] H1 (fun v H2 => ∃ z : Str, v = .str z ∧ z.length ≤ sizeLine ∧ Q (.str z) H2) E0) := by
  refine ⟨fun pins s σ H Q I h => ?_⟩
  refine wpAny_FormattedValue_plain (thn (he.run pins s σ H _ I h) fun v s1 hv => ?_)
  obtain ⟨x, H1, I1, r1, a, dx, fs, rfl, ha, q⟩ := hv
  obtain rfl : v = Value.ref a := r1
  obtain ⟨mA, O, _⟩ := ins_get I1.hok ha
  obtain ⟨od, J, _⟩ := O.look
  refine PySem.W.kfo_fieldS hr.in1.units0 I1.kIn J hfm hm hs hf ?_
  refine wpAny_mono (run_at (E := E0) (E2 := X.xe) (vs := [.ref a]) (us := [.ref a]) (F.mono (Nat.le_refl _)) (hr.in1.mono (Nat.le_succ _)) (I1.tok _).env0.in1 hb (fun _ _ z => z.elim) (I1.tok _) (.cons rfl .nil) q) (fun u s2 hv => ?_) fun _ _ z => z
  obtain ⟨w, H2, I2, rv, z, rfl, _, q2⟩ := hv
  obtain ⟨tk, rfl⟩ := rv
  exact ⟨.str z, H2, I2, ⟨tk, rfl⟩, q2⟩
end
end Mz
set_option Elab.async false
set_option linter.all false
set_option maxRecDepth 100000
set_option maxHeartbeats 4000000
/-! repr of a list of a text and a dict of one pair -/
namespace Mz
open PySem PySem.Spec PyProof.Rows L2
def pairText (z : Str) (i : Int) : Str := dictText (List.zipWith (fun k v : Str => k ++ ": " ++ v) [reprText z] [Str.ofString (toString i)])
def twoText (r z : Str) (i : Int) : Str := listText [reprText r, pairText z i]
def rRepr2 : List V → Hp → VK → Prop := fun xs H Q => ∃ (p : Addr) (r : Str) (a : Addr) (z : Str) (i : Int), xs = [.ref p] ∧ H p = some (.lst [.str r, .ref a]) ∧ H a = some (.dK [(.inr z, .int i)]) ∧
  i.natAbs.log2 < 1920 ∧ (reprText r).length ≤ 1000 ∧ (reprText z).length ≤ 1000 ∧ (twoText r z i).length ≤ sizeLine ∧ Q (.str (twoText r z i)) H
theorem call_repr2 {X : Cx} (g0 : X.A.guards = some []) (hu : X.A.units + 64 < cLine) : CallR X (.builtin "repr") rRepr2 := by
  intro pins s σ H xs us Q I rv h
  obtain ⟨p, r, a, z, i, rfl, hp, ha, hi, hr, hz, hsz, q⟩ := h
  obtain ⟨u, rfl, rx⟩ := vals1 rv
  obtain rfl : u = Value.ref p := rx
  have ends : ∀ h' t tk, (∀ b o, s.heap.get? b = some o → h'.get? b = some o) → EP X pins σ Q (.str (twoText r z i) t) { s with heap := h', toks := tk } := fun h' t tk hk => ⟨.str _, H, I.kept hk, ⟨_, rfl⟩, q⟩
  obtain ⟨_, its, n, vl, hl⟩ := (show ObjOk X.prog X.w H s.heap p (.lst [.str r, .ref a]) from I.hok p _ hp)
  obtain ⟨_, hsys, vs, kv, o, es, ep, ho, hx, hd, _, hpair, _⟩ := dk_of I.hok ha
  -- the two items
  match its, vl with
  | [u1, u2], .cons r1 (.cons r2 .nil) =>
  obtain ⟨t1, rfl⟩ := r1
  obtain rfl : u2 = Value.ref a := r2
  -- the one entry
  match vs, kv with
  | [(k2, v2)], .cons ⟨ek, rv2⟩ .nil =>
  obtain ⟨t2, rfl⟩ := rv2
  have ek2 : k2 = Sum.inr z := ek.symm
  subst ek2
  have entry : ∃ e, es.toList = [e] ∧ (∃ t, e.key = .str z t) ∧ e.val = .int i t2 := by
    generalize es.toList = l at hpair ⊢
    cases hpair with
    | cons hk hv hn =>
      cases hn
      obtain ⟨t, et⟩ := Value.isStrOf_shape (x := z) hk
      exact ⟨_, rfl, ⟨t, et⟩, hv⟩
  obtain ⟨e, he, ⟨t3, hkey⟩, hval⟩ := entry
  have kz : ReprK X.prog X.w [] s.heap 0 e.key (reprText z) := by
    rw [hkey]
    exact .of_is (ReprIs.str z t3 (Nat.le_trans hz (by decide))) _ _ _
  have vz : ReprK X.prog X.w [] s.heap 0 e.val (Str.ofString (toString i)) := by
    rw [hval]
    exact .of_is (ReprIs.int t2 hi) _ _ _
  have hE : ReprEntriesK X.prog X.w [] s.heap 0 es.toList (List.zipWith (fun k v : Str => k ++ ": " ++ v) [reprText z] [Str.ofString (toString i)]) := by
    rw [he]
    exact ReprEntriesK.of_two [e] _ _ (.cons kz .nil) (.cons vz .nil)
  have dk : ReprK X.prog X.w [a] s.heap 1 (.ref a) (pairText z i) := ReprK.dict ho hx.1 hd hsys (by simp) hE
  have sk : ReprK X.prog X.w [a] s.heap 1 (.str r t1) (reprText r) := .of_is (ReprIs.str r t1 (Nat.le_trans hr (by decide))) _ _ _
  have npa : p ∉ [a] := by
    intro hm
    rw [List.mem_singleton.mp hm, ha] at hp
    cases hp
  refine call_repr_slot (T := "list") (by omega) ⟨_, hl, rfl⟩ F.slot_list_repr.toG ?_
  refine call_list_reprK (as := [a]) (d := 1) (ts := [reprText r, pairText z i]) hl rfl rfl npa rfl (fun j y hy => ?_) (A := X.A.in1) g0 (fun b _ => Clear.nil b) (by show X.A.units + 1 + 2 < cLine; omega) (fun _ _ z => z) (fun h' t tk hk => ⟨_, _, rfl, ends h' t tk hk⟩) hsz
  match j, hy with
  | 0, hy =>
    cases hy
    exact ⟨_, rfl, sk⟩
  | 1, hy =>
    cases hy
    exact ⟨_, rfl, dk⟩
  | j + 2, hy =>
    exact absurd hy (by simp)
end Mz
set_option Elab.async false
set_option linter.all false
set_option maxRecDepth 100000
set_option maxHeartbeats 4000000
namespace Mz
open PySem PySem.Spec PyProof.Rows L2
theorem pos_len {z : Str} (h : ¬ z = "") : 0 < z.length := Nat.pos_of_ne_zero fun x => h (str_empty x)
theorem int_fits {i : Int} (h0 : 0 ≤ i) (h1 : i < 12) : i.natAbs.log2 < 1920 := by
  have h : i.natAbs < 2 ^ 4 := by omega
  exact Nat.lt_trans (PySem.Flt.log2_lt_of (by decide) h) (by decide)
theorem sm_str12 {i : Int} (h0 : 0 ≤ i) (h1 : i < 12) : Sm 100 (Str.ofString (toString i)) := by
  obtain ⟨k, rfl⟩ := Int.eq_ofNat_of_zero_le h0
  have hk : k < 12 := by omega
  have all : ∀ k : Fin 12, Sm 100 (Str.ofString (toString ((k.val : Nat) : Int))) := by
    unfold Sm
    decide +kernel
  exact all ⟨k, hk⟩
/-- repr of data or of a text with a dict -/
def rReprU (K : PySem.W.Frag) : List V → Hp → VK → Prop := fun xs H Q => rReprD K xs H Q ∨ rRepr2 xs H Q
theorem call_reprU {X : Cx} (g0 : X.A.guards = some []) (hu : X.A.units + 64 < cLine) : CallR X (.builtin "repr") (rReprU X.K) := by
  intro pins s σ H xs us Q I r h
  rcases h with h | h
  · exact call_reprD g0 hu pins s σ H xs us Q I r h
  · exact call_repr2 g0 hu pins s σ H xs us Q I r h
theorem list2_len (a b : Str) : (listText [a, b]).length = a.length + b.length + 4 := by
  show ((("[" ++ ((if 0 > 0 then ", " else "" : String) : Str) ++ a) ++ ((if 1 > 0 then ", " else "" : String) : Str) ++ b) ++ "]" : Str).length = _
  rw [if_neg (by decide), if_pos (by decide)]
  simp only [strLen_append]
  have e1 : (("[" : String) : Str).length = 1 := by decide +kernel
  have e2 : (("" : String) : Str).length = 0 := by decide +kernel
  have e3 : ((", " : String) : Str).length = 2 := by decide +kernel
  have e4 : (("]" : String) : Str).length = 1 := by decide +kernel
  rw [e1, e2, e3, e4]
  omega
theorem list3_len (a b c : Str) : (listText [a, b, c]).length = a.length + b.length + c.length + 6 := by
  show (((("[" ++ ((if 0 > 0 then ", " else "" : String) : Str) ++ a) ++ ((if 1 > 0 then ", " else "" : String) : Str) ++ b) ++ ((if 2 > 0 then ", " else "" : String) : Str) ++ c) ++ "]" : Str).length = _
  rw [if_neg (by decide), if_pos (by decide), if_pos (by decide)]
  simp only [strLen_append]
  have e1 : (("[" : String) : Str).length = 1 := by decide +kernel
  have e2 : (("" : String) : Str).length = 0 := by decide +kernel
  have e3 : ((", " : String) : Str).length = 2 := by decide +kernel
  have e4 : (("]" : String) : Str).length = 1 := by decide +kernel
  rw [e1, e2, e3, e4]
  omega
theorem repr_len {z : Str} {n : Nat} (h : Sm n z) : (reprText z).length ≤ 10 * n + 2 := by
  have h1 := StrLaws.reprText_len z fun c hc => Nat.lt_trans (strOk_iff.mp h.2 c hc) (by decide)
  have h2 := h.1
  omega
theorem kshift_text {k : Int} (h0 : -3 ≤ k) (h1 : k ≤ 3) : (Str.ofString (toString k)).length ≤ 10 := by
  have all : ∀ i : Fin 7, (Str.ofString (toString (((i.val : Nat) : Int) - 3))).length ≤ 10 := by decide +kernel
  obtain ⟨i, hi⟩ := Int.eq_ofNat_of_zero_le (show 0 ≤ k + 3 by omega)
  have e : k = ((i : Nat) : Int) - 3 := by omega
  rw [e]
  exact all ⟨i, by omega⟩
section
variable {P : Program} {w : World} {K : PySem.W.Frag} {mg : Str → Option Value} {base : Heap}
/-- _law_take of the text -/
structure Tk (P : Program) (w : World) (K : PySem.W.Frag) (mg : Str → Option Value) (base : Heap) (f : Addr) (fd : FuncData) : Prop where
  ok : FnOk P w K mg base CX0 1 f fd ["_law_box_here", "_law_many"] spTake
  m : mg "_law_take" = some (.ref f)
  k : PySem.W.keepIn K (.ref f) = true
  b : Binds K fd ["_law_box_here", "_law_many"] []
end
theorem Bx.same {H H' : Hp} {b : Addr} {n : Nat} (s : Same H H') (h : Bx H b n) : Bx H' b n := by
  obtain ⟨x, y, z, e, r⟩ := h
  exact ⟨x, y, z, s _ _ e, r⟩
theorem Kp.same {H H' : Hp} {b : Addr} (s : Same H H') : Kp b H H' := fun p o _ e => s p o e
theorem ty_at {K : PySem.W.Frag} {H H' : Hp} {v : V} {t : Value} (s : ∀ a, v = .ref a → ∀ o, H a = some o → H' a = some o) (h : TyX K H v t) : TyX K H' v t := by
  cases h with
  | base b =>
    cases b with
    | non => exact .base .non
    | bl x => exact .base (.bl x)
    | int i => exact .base (.int i)
    | str x => exact .base (.str x)
    | flt x => exact .base (.flt x)
    | lst e => exact .base (.lst (s _ rfl _ e))
    | frz e => exact .base (.frz (s _ rfl _ e))
    | tup e => exact .base (.tup (s _ rfl _ e))
    | dK e => exact .base (.dK (s _ rfl _ e))
    | dT e => exact .base (.dT (s _ rfl _ e))
    | ins e cl ha hn htk hm => exact .base (.ins (s _ rfl _ e) cl ha hn htk hm)
  | byt b => exact .byt b
  | set e => exact .set (s _ rfl _ e)
  | kList e c => exact .kList e c
  | kTuple e c => exact .kTuple e c
  | kDict e c => exact .kDict e c
  | fTuple e => exact .fTuple (s _ rfl _ e)
  | fDict e => exact .fDict (s _ rfl _ e)
theorem Kd.at {K : PySem.W.Frag} {H H' : Hp} {v : V} (s : ∀ a, v = .ref a → ∀ o, H a = some o → H' a = some o) (h : Kd K H v) : Kd K H' v := by
  cases h with
  | int i => exact .int i
  | bl b => exact .bl b
  | str z h ok => exact .str z h ok
  | non => exact .non
  | oth a t ty ki ks => exact .oth a t (ty_at s ty) ki ks
/-- data that holds no object, or a list or tuple of such -/
inductive Flt : V → PyData → Prop
  | non : Flt .non .none
  | bl (b : Bool) : Flt (.bl b) (.bool b)
  | int (i : Int) : Flt (.int i) (.int i)
  | str (x : Str) : Flt (.str x) (.str x)
inductive FltAll : List V → List PyData → Prop
  | nil : FltAll [] []
  | cons {v : V} {d : PyData} {vs : List V} {ds : List PyData} : Flt v d → FltAll vs ds → FltAll (v :: vs) (d :: ds)
inductive Fl (H : Hp) : V → PyData → Prop
  | flat {v : V} {d : PyData} (h : Flt v d) : Fl H v d
  | lst {a : Addr} {xs : List V} {ds : List PyData} (h : H a = some (.lst xs)) (f : FltAll xs ds) : Fl H (.ref a) (.list ds)
  | tup {a : Addr} {xs : List V} {ds : List PyData} (h : H a = some (.tup xs)) (f : FltAll xs ds) : Fl H (.ref a) (.tuple ds)
theorem Flt.dp {K : PySem.W.Frag} {H : Hp} {v : V} {d : PyData} (h : Flt v d) : Dp K H v d := by
  cases h with
  | non => exact .non
  | bl b => exact .bl b
  | int i => exact .int i
  | str x => exact .str x
theorem FltAll.dp {K : PySem.W.Frag} {H : Hp} : ∀ {vs : List V} {ds : List PyData}, FltAll vs ds → DpAll K H vs ds
  | _, _, .nil => .nil
  | _, _, .cons h r => .cons h.dp r.dp
theorem Fl.dp {K : PySem.W.Frag} {H : Hp} {v : V} {d : PyData} (h : Fl H v d) : Dp K H v d := by
  cases h with
  | flat h => exact h.dp
  | lst h f => exact .lst (SqL.of h) f.dp
  | tup h f => exact .tup (SqT.of h) f.dp
theorem Fl.at {H H' : Hp} {v : V} {d : PyData} (s : ∀ a, v = .ref a → ∀ o, H a = some o → H' a = some o) (h : Fl H v d) : Fl H' v d := by
  cases h with
  | flat h => exact .flat h
  | lst h f => exact .lst (s _ rfl _ h) f
  | tup h f => exact .tup (s _ rfl _ h) f
/-- what can be shown -/
def Fit (d : PyData) : Prop := PyData.showable d = true ∧ PyData.hasDict d = false ∧ PyData.depth d < 50 ∧ (PyData.shown d).length ≤ 2000
/-- data that is no text -/
def Fb (K : PySem.W.Frag) (H : Hp) (v : V) : Prop := (∃ d, Fl H v d ∧ Fit d ∧ SeqAt.shaped d = true ∧ PyData.eqv d (.str "") = false) ∧ Kd K H v ∧ ∀ z, v ≠ .str z
/-- a base -/
def Bs (K : PySem.W.Frag) (C : Addr) (H : Hp) (v : V) : Prop := (∃ z, v = .str z ∧ Sm 100 z) ∨ Fb K H v ∨ ∃ a, v = .ref a ∧ Pl C H a "n" 0
/-- a shift -/
def Sv (K : PySem.W.Frag) (H : Hp) (v : V) : Prop := (∃ d, Fl H v d ∧ Fit d) ∧ Kd K H v
section
variable {K : PySem.W.Frag} {C : Addr} {H H' : Hp} {v : V}
theorem Fb.at (s : ∀ a, v = .ref a → ∀ o, H a = some o → H' a = some o) (h : Fb K H v) : Fb K H' v := by
  obtain ⟨⟨d, h1, h2⟩, h3, h4⟩ := h
  exact ⟨⟨d, h1.at s, h2⟩, h3.at s, h4⟩
theorem Bs.at (s : ∀ a, v = .ref a → ∀ o, H a = some o → H' a = some o) (h : Bs K C H v) : Bs K C H' v := by
  rcases h with h | h | ⟨a, rfl, dx, ha⟩
  · exact .inl h
  · exact .inr (.inl (h.at s))
  · exact .inr (.inr ⟨a, rfl, dx, s a rfl _ ha⟩)
theorem Sv.at (s : ∀ a, v = .ref a → ∀ o, H a = some o → H' a = some o) (h : Sv K H v) : Sv K H' v := by
  obtain ⟨⟨d, h1, h2⟩, h3⟩ := h
  exact ⟨⟨d, h1.at s, h2⟩, h3.at s⟩
theorem Bs.same (s : Same H H') (h : Bs K C H v) : Bs K C H' v := h.at fun a _ o e => s a o e
theorem Sv.same (s : Same H H') (h : Sv K H v) : Sv K H' v := h.at fun a _ o e => s a o e
theorem Bs.kp {b : Addr} (s : Kp b H H') (n : ∀ a, v = .ref a → a ≠ b) (h : Bs K C H v) : Bs K C H' v := h.at fun a e o ho => s a o (n a e) ho
theorem str_ext {a b : Str} (h : a.cps.toList = b.cps.toList) : a = b := by
  obtain ⟨x⟩ := a
  obtain ⟨y⟩ := b
  have e : x = y := Array.toList_inj.mp h
  rw [e]
theorem app_list (a b : Str) : (a ++ b).cps.toList = a.cps.toList ++ b.cps.toList := by
  show (a.cps ++ b.cps).toList = _
  rw [Array.toList_append]
theorem nil_list : ("" : Str).cps.toList = [] := by decide +kernel

def baseOk : V → Bool
  | .str z => decide (z = "") || nameS z
  | _ => false
end
/-- a value held against "" -/
def rNeU (K : PySem.W.Frag) (C : Addr) (sp : Sp) : R2 := fun x y H Q => rNe x y H Q ∨ rNeD K x y H Q ∨ ∃ a dx fs, x = .ref a ∧ H a = some (.ins C dx fs) ∧ Oth K C H y ∧ sp [.ref a, y] H (fun v H2 => ∃ b : Bool, v = .bl b ∧ Q (.bl (!b)) H2) E0
theorem op_neU {X : Cx} {k : Nat} {f C : Addr} {fd : FuncData} {ps : List Str} {sp : Sp} (F : FnOk X.prog X.w X.K X.mg X.base CX0 k f fd ps sp) (hr : Room (k + 1) X.A) (hb : Binds X.K fd ps []) (hs : PySem.W.findIn X.K (.ref C) "__eq__" = some (some (.ref f))) (hf : PySem.W.isFn X.K (.ref f) = true)
    (hn : PySem.W.findIn X.K (.ref C) "__ne__" = some (some (.builtin "object.__ne__"))) (hm : PySem.W.mroIn X.K C (.type "object") = some true) : OpR X (compareOp .NotEq) (rNeU X.K C sp) := by
  intro pins s σ H x y v u Q I rx ry h
  rcases h with h | h | h
  · exact op_ne pins s σ H x y v u Q I rx ry h
  · exact op_neD hr.units pins s σ H x y v u Q I rx ry h
  · exact op_neO F hr hb hs hf hn hm pins s σ H x y v u Q I rx ry h
section
variable {K : PySem.W.Frag} {C : Addr} {H : Hp} {v : V} {Q : VK}
theorem shaped_empty : SeqAt.shaped (.str "") = true := by decide +kernel
/-- what is no text is unlike "" -/
theorem Bs.ne (Y : Pty K C) (N : Npl K C) (h : Bs K C H v) : (∃ z, v = .str z ∧ Sm 100 z) ∨ ((∀ z, v ≠ .str z) ∧ ∀ Q : VK, Q (.bl true) H → rNeU K C (spEq K C) v (.str "") H Q) := by
  rcases h with h | ⟨⟨d, h1, h2, h3, h4⟩, h5, h6⟩ | ⟨a, rfl, pa⟩
  · exact .inl h
  · refine .inr ⟨h6, fun Q q => .inr (.inl ⟨d, .str "", h1.dp, .str "", h3, shaped_empty, ?_⟩)⟩
    rw [h4]
    exact q
  · obtain ⟨dx, ha⟩ := id pa
    exact .inr ⟨fun z e => (nomatch e), fun Q q => .inr (.inr ⟨a, dx, _, rfl, ha, ⟨_, .base (.str ""), by simp [PySem.W.notFirst]; rfl⟩, a, "n", 0, pa, .inr ⟨_, rfl, ⟨_, .base (.str ""), N.str⟩, false, rfl, q⟩⟩)⟩
theorem Bs.kd (Y : Pty K C) (ki : PySem.W.kitOne K (.ref C) (.type "int") = some false) (ks : PySem.W.kitOne K (.ref C) (.type "str") = some false) (h : Bs K C H v) : Kd K H v := by
  rcases h with ⟨z, rfl, h⟩ | ⟨_, h, _⟩ | ⟨a, rfl, pa⟩
  · exact .str z (Nat.le_trans h.1 (by decide)) h.2
  · exact h
  · exact .oth a _ (pa.ty Y) ki ks
end
end Mz
set_option Elab.async false
set_option linter.all false
set_option maxRecDepth 100000
set_option maxHeartbeats 4000000
namespace Mz
open PySem PySem.Spec PyProof.Rows L2
/-- an exception of two fields that is being made -/
def spX2 (K : PySem.W.Frag) (C : Addr) (f g : Str) : Sp := fun vs H Q _ => ∃ (a : Addr) (v u : V), vs = [.ref a, v, u] ∧ H a = some (exo a C none) ∧
  ∀ dx, H dx = none → dx ≠ a → Q .non (upd (upd (upd (upd H dx (exd dx [(f, v)])) a (exo a C (some dx))) dx (exd dx [(g, u), (f, v)])) a (exo a C (some dx)))
section
variable {P : Program} {w : World} {K : PySem.W.Frag} {mg : Str → Option Value} {base : Heap}
theorem scXinitI : FnScope ["self", "value"] ["self", "value"] (defScope (inClass sInvInt 0)) := ⟨rfl, rfl, rfl, by decide +kernel, rfl, by decide +kernel, by decide +kernel⟩
theorem ok_xinitI {f C cM : Addr} {fd : FuncData} (F : Fun K "__init__" "InvalidInteger.__init__" (inClass sInvInt 0) f fd) (T : Xcl K mg "InvalidInteger" C "value") (mM : mg "MapError" = some (.ref cM)) (rd : ClX.CRead K cM (.type "type"))
    (fc : PySem.W.findCls K (.ref cM) (.type "type") "__init__" = some (.val (.builtin "ValueError.__init__"))) : FnOk P w K mg base CX0 1 f fd ["self", "value"] (spX1 K C "value") := by
  refine F.ok scXinitI (fun vs H Q E h => ?_) (fun cdv A outer s H vs Q E hr h => ?_)
  · obtain ⟨a, v, rfl, _⟩ := h
    rfl
  · obtain ⟨a, v, rfl, ha, q⟩ := h
    refine ⟨_, pss_cons (ps_expr (pe_meinit (by rfl) mM rd fc (pa_cons (pv 0) (pa_cons pe_str pa_nil)))) (pss_one (ps_ost (pv 0) (pv 1))), ?_⟩
    refine ⟨_, rfl, a, C, _, rfl, (by show 1 ≤ 1000; decide), T.ox, ha, ?_⟩
    exact ⟨_, rfl, _, rfl, a, C, rfl, T.ox, T.no, .inl ⟨ha, fun dx n1 n2 => q dx n1 n2⟩⟩
theorem scXinitU : FnScope ["self", "left", "right"] ["self", "left", "right"] (defScope (inClass sUnord 0)) := ⟨rfl, rfl, rfl, by decide +kernel, rfl, by decide +kernel, by decide +kernel⟩
/-- the exception's class with two fields -/
structure Xc2 (K : PySem.W.Frag) (mg : Str → Option Value) (x : Str) (C : Addr) (f g : Str) : Prop where
  ox : OexC K C
  nf : PySem.W.findIn K (.ref C) f = some none
  ng : PySem.W.findIn K (.ref C) g = some none
  m : mg x = some (.ref C)
  xf : XfC K C
theorem ok_xinitU {f C cM : Addr} {fd : FuncData} (F : Fun K "__init__" "Unordered.__init__" (inClass sUnord 0) f fd) (T : Xc2 K mg "Unordered" C "left" "right") (mM : mg "MapError" = some (.ref cM)) (rd : ClX.CRead K cM (.type "type"))
    (fc : PySem.W.findCls K (.ref cM) (.type "type") "__init__" = some (.val (.builtin "ValueError.__init__"))) : FnOk P w K mg base CX0 1 f fd ["self", "left", "right"] (spX2 K C "left" "right") := by
  refine F.ok scXinitU (fun vs H Q E h => ?_) (fun cdv A outer s H vs Q E hr h => ?_)
  · obtain ⟨a, v, u, rfl, _⟩ := h
    rfl
  · obtain ⟨a, v, u, rfl, ha, q⟩ := h
    refine ⟨_, pss_cons (ps_expr (pe_meinit (by rfl) mM rd fc (pa_cons (pv 0) (pa_cons pe_str pa_nil)))) (pss_cons (ps_ost (pv 0) (pv 1)) (pss_one (ps_ost (pv 0) (pv 2)))), ?_⟩
    refine ⟨_, rfl, a, C, _, rfl, (by show 1 ≤ 1000; decide), T.ox, ha, ?_⟩
    refine ⟨_, rfl, _, rfl, a, C, rfl, T.ox, T.nf, .inl ⟨ha, fun dx n1 n2 => ?_⟩⟩
    have e2 : (upd (upd H dx (exd dx [("left", v)])) a (exo a C (some dx))) dx = some (exd dx [("left", v)]) := by
      rw [upd_ne n2, upd_same]
    refine ⟨_, rfl, _, rfl, a, C, rfl, T.ox, T.ng, .inr ⟨dx, [("left", v)], upd_same, e2, (by show 1 ≤ 900; decide), ?_⟩⟩
    have fin := q dx n1 n2
    have eq : upd (upd (upd (upd H dx (exd dx [("left", v)])) a (exo a C (some dx))) dx (exd dx [("right", u), ("left", v)])) a (exo a C (some dx)) = upd (upd (upd H dx (exd dx [("left", v)])) a (exo a C (some dx))) dx (exd dx [("right", u), ("left", v)]) := by
      funext b
      by_cases hb : b = a
      · subst hb
        rw [upd_same, upd_ne n2.symm, upd_same]
      · rw [upd_ne hb]
    rw [eq] at fin
    exact fin
end
section
variable {P : Program} {w : World} {K : PySem.W.Frag} {mg : Str → Option Value} {base : Heap}
/-- an exception of one field made -/
theorem mko_x1 {K : PySem.W.Frag} {cE : Addr} {i : Nat} {u : V} {σ : L2.St} {H1 : Hp} {E : XK} (hi : σ[i]? = some (some u)) (q : ∀ d H', H1 d = none → Same H1 H' → H' d = some (.xd [("value", u)]) → E (.ref cE) (some d) H') : tMkO cE (spX1 K cE "value") [] (tCons (tVar i) tNil) σ H1 E := by
  refine ⟨_, hi, (by show 1 ≤ 1000; decide), fun a na => ⟨a, u, rfl, upd_same, fun dx n1 n2 => ⟨rfl, dx, [("value", u)], upd_same, ?_, ?_, ?_⟩⟩⟩
  · rw [upd_ne n2, upd_same]
  · rw [upd_ne n2] at n1
    exact n1
  · have n3 : H1 dx = none := by
      rw [upd_ne n2] at n1
      exact n1
    refine q dx _ n3 (fun b o hb => ?_) upd_same
    have x1 : b ≠ dx := ne_of_none hb n3
    have x2 : b ≠ a := ne_of_none hb na
    rw [upd_ne x1, del_ne x2, upd_ne x2, upd_ne x1, upd_ne x2]
    exact hb
theorem mko_x2 {K : PySem.W.Frag} {cE : Addr} {i j : Nat} {u v : V} {σ : L2.St} {H1 : Hp} {E : XK} (hi : σ[i]? = some (some u)) (hj : σ[j]? = some (some v)) (q : ∀ d H', H1 d = none → Same H1 H' → H' d = some (.xd [("right", v), ("left", u)]) → E (.ref cE) (some d) H') :
    tMkO cE (spX2 K cE "left" "right") [] (tCons (tVar i) (tCons (tVar j) tNil)) σ H1 E := by
  refine ⟨_, hi, _, hj, (by show 2 ≤ 1000; decide), fun a na => ⟨a, u, v, rfl, upd_same, fun dx n1 n2 => ⟨rfl, dx, [("right", v), ("left", u)], upd_same, ?_, ?_, ?_⟩⟩⟩
  · rw [upd_ne n2, upd_same]
  · rw [upd_ne n2] at n1
    exact n1
  · have n3 : H1 dx = none := by
      rw [upd_ne n2] at n1
      exact n1
    refine q dx _ n3 (fun b o hb => ?_) upd_same
    have x1 : b ≠ dx := ne_of_none hb n3
    have x2 : b ≠ a := ne_of_none hb na
    rw [upd_ne x1, del_ne x2, upd_ne x2, upd_ne x1, upd_ne x2, upd_ne x1, upd_ne x2]
    exact hb
end
/-- a place moved by a value: sg is 1 or -1 -/
def spMov (K : PySem.W.Frag) (C cI : Addr) (sg : Int) : Sp := fun vs H Q E => ∃ a z k y, vs = [.ref a, y] ∧ Pl C H a z k ∧ Good z k ∧ Kd K H y ∧
  (∀ i, y = .int i → Good z (k + sg * i) → ∀ p H', H p = none → Same H H' → Pl C H' p z (k + sg * i) → Q (.ref p) H') ∧
  ((∀ i, y = .int i → ¬ Good z (k + sg * i)) → ∀ d H', H d = none → Same H H' → H' d = some (.xd [("value", y)]) → E (.ref cI) (some d) H')
def spRadd (K : PySem.W.Frag) (C cI : Addr) : Sp := fun vs H Q E => (∃ a y, vs = [.ref a, y] ∧ ((∃ i, y = .int i) ∨ ∃ b, y = .bl b)) ∧ spMov K C cI 1 vs H Q E
def spDif (C cU : Addr) : Sp := fun vs H Q E => ∃ a b z k y i, vs = [.ref a, .ref b] ∧ Pl C H a z k ∧ Pl C H b y i ∧ (z = y → Q (.int (k - i)) H) ∧
  (z ≠ y → ∀ d H', H d = none → Same H H' → H' d = some (.xd [("right", .ref b), ("left", .ref a)]) → E (.ref cU) (some d) H')
def spSub (K : PySem.W.Frag) (C cI cU : Addr) : Sp := fun vs H Q E => (∃ a y, vs = [.ref a, y] ∧ Oty K C H y ∧ spMov K C cI (-1) vs H Q E) ∨ spDif C cU vs H Q E
section
variable {P : Program} {w : World} {K : PySem.W.Frag} {mg : Str → Option Value} {base : Heap}
/-- what the methods that move a place need -/
structure Movs (P : Program) (w : World) (K : PySem.W.Frag) (mg : Str → Option Value) (base : Heap) (C cI f2 f3 fI fX : Addr) (fd2 fd3 fdI fdX : FuncData) (g : List Value → List Value → List Value) (t : Tok) : Prop where
  Z : Cpl K mg C
  G2 : FnOk P w K mg base CX0 2 f2 fd2 ["value", "low", "high"] (spIsInt K)
  m2 : mg "is_integer" = some (.ref f2)
  k2 : PySem.W.keepIn K (.ref f2) = true
  b2 : Binds K fd2 ["value", "low", "high"] []
  G3 : FnOk P w K mg base CX0 1 f3 fd3 ["base"] spLeast
  m3 : mg "_least_shift" = some (.ref f3)
  k3 : PySem.W.keepIn K (.ref f3) = true
  b3 : Binds K fd3 ["base"] []
  mM : mg "_MOST" = some (.int 3 t)
  M : Mk K C fI
  GI : FnOk P w K mg base CX0 3 fI fdI ["self", "base", "shift"] (spInit C)
  kI : KBn K fdI ["self", "base", "shift"] 2 ["shift"] g (fun vs zs => vs ++ zs)
  TI : Xcl K mg "InvalidInteger" cI "value"
  GX : FnOk P w K mg base CX0 1 fX fdX ["self", "value"] (spX1 K cI "value")
  iX : PySem.W.findIn K (.ref cI) "__init__" = some (some (.ref fX))
  tX : PySem.W.typeIn K (.ref fX) = some (.type "function")
  bX : Binds K fdX ["self", "value"] []
variable {C cI f2 f3 fI fX : Addr} {fd2 fd3 fdI fdX : FuncData} {g : List Value → List Value → List Value} {t : Tok}
theorem kd_in {H : Hp} {y : V} {lo hi : Int} (h : Kd K H y) : (∃ i, y = .int i ∧ inB lo hi y = (decide (lo ≤ i) && decide (i ≤ hi))) ∨ ((∀ i, y ≠ .int i) ∧ inB lo hi y = false) := by
  cases h with
  | int i => exact .inl ⟨i, rfl, rfl⟩
  | _ => exact .inr ⟨fun i e => (nomatch e), rfl⟩
theorem good_iff {z : Str} {k j : Int} (g : Good z k) : Good z j ↔ lowS z ≤ j ∧ j ≤ 3 := ⟨fun h => h.2.2.2, fun h => ⟨g.1, g.2.1, g.2.2.1, h⟩⟩
theorem scAddR : FnScope ["self", "other"] ["self", "other"] (defScope (inClass sPlace 7)) := ⟨rfl, rfl, rfl, by decide +kernel, rfl, by decide +kernel, by decide +kernel⟩
theorem ok_addR {f : Addr} {fd : FuncData} (F : Fun K "__add__" "Place.__add__" (inClass sPlace 7) f fd) (W : Movs P w K mg base C cI f2 f3 fI fX fd2 fd3 fdI fdX g t) : FnOk P w K mg base (L2.CX P w) 5 f fd ["self", "other"] (spMov K C cI 1) := by
  refine F.okX scAddR (fun vs H Q E h => ?_) (fun cdv A outer s H vs Q E hr h => ?_)
  · obtain ⟨a, z, k, y, rfl, _⟩ := h
    rfl
  · obtain ⟨a, z, k, y, rfl, ⟨dx, ha⟩, g1, kd, q1, q2⟩ := h
    refine ⟨_, pss_cons (ps_if (pt_not (pt_val (pe_call W.G2 (hr.mono (by decide)) (by rfl) W.m2 W.k2 W.b2 .nil pass0 (pa_cons (pv 1) (pa_cons (pe_op op_sub (pe_call W.G3 (hr.mono (by decide)) (by rfl) W.m3 W.k3 W.b3 .nil pass0 (pa_cons (pe_fld (pv 0) rfl) pa_nil)) (pe_fld (pv 0) rfl))
        (pa_cons (pe_op op_sub (pe_glob (v := .int 3) rfl W.mM ⟨_, rfl⟩) (pe_fld (pv 0) rfl)) pa_nil)))))) (pss_one (ps_raise rfl (takes_of rfl rfl rfl rfl) (pmk_oex W.TI.ox W.iX W.tX W.GX (hr.mono (by decide)) W.bX .nil pass0 (by rfl) W.TI.m (pa_cons (pv 1) pa_nil)))) pss_nil)
      (PSs.nox (pss_one (ps_ret (pe_makeK W.M W.GI hr (by rfl) W.Z.mgC W.kI pass0 (pa_cons (pe_fld (pv 0) rfl) pa_nil) (pk_cons (pe_op op_add (pe_fld (pv 0) rfl) (pv 1)) pk_nil))))), ?_⟩
    refine ⟨_, rfl, _, rfl, a, C, dx, _, _, rfl, ha, W.Z.cl, W.Z.nB, plF_base, z, rfl, _, rfl, a, C, dx, _, _, rfl, ha, W.Z.cl, W.Z.nS, plF_shift, _, _, rfl, rfl, ?_⟩
    refine ⟨_, rfl, a, C, dx, _, _, rfl, ha, W.Z.cl, W.Z.nS, plF_shift, _, _, rfl, rfl, y, _, _, rfl, kd, _, rfl, ?_⟩
    have bad : inB (lowS z - k) (3 - k) y = false → (∀ i, y = .int i → ¬ Good z (k + 1 * i)) := by
      intro e i ei hg
      subst ei
      have h := (good_iff g1).mp hg
      have e2 : (decide (lowS z - k ≤ i) && decide (i ≤ 3 - k)) = false := e
      rw [decide_eq_true (by omega), decide_eq_true (by omega)] at e2
      cases e2
    rcases kd_in (lo := lowS z - k) (hi := 3 - k) kd with ⟨i, rfl, e⟩ | ⟨ni, e⟩
    · cases hb : inB (lowS z - k) (3 - k) (.int i) with
      | false => exact iteT (mko_x1 rfl fun d H' nd s2 hd => q2 (bad hb) d H' nd s2 hd)
      | true =>
        rw [hb] at e
        have e3 := (Bool.and_eq_true_iff.mp e.symm)
        have h1 := of_decide_eq_true e3.1
        have h2 := of_decide_eq_true e3.2
        have g2 : Good z (k + 1 * i) := (good_iff g1).mpr (by omega)
        have ek : k + 1 * i = k + i := by omega
        rw [ek] at g2
        refine iteF ⟨_, rfl, a, C, dx, _, _, rfl, ha, W.Z.cl, W.Z.nB, plF_base, _, rfl, a, C, dx, _, _, rfl, ha, W.Z.cl, W.Z.nS, plF_shift, _, rfl, _, _, rfl, rfl, rfl, rfl, fun p dp np ndp nn => ?_⟩
        refine ⟨p, dp, z, k + i, rfl, upd_same, g2.1, g2.2.1, g2.2.2.1, g2.2.2.2.1, g2.2.2.2.2, fun H' u t' => ⟨rfl, q1 i rfl (by rw [ek]; exact g2) p H' np (fun r o hro => u r o (ne_of_none hro np) ?_) (by rw [ek]; exact ⟨dp, t'⟩)⟩⟩
        rw [upd_ne (ne_of_none hro np), upd_ne (ne_of_none hro ndp)]
        exact hro
    · rw [e]
      exact iteT (mko_x1 rfl fun d H' nd s2 hd => q2 (bad e) d H' nd s2 hd)
theorem scRadd : FnScope ["self", "other"] ["self", "other"] (defScope (inClass sPlace 8)) := ⟨rfl, rfl, rfl, by decide +kernel, rfl, by decide +kernel, by decide +kernel⟩
theorem ok_radd {f fA : Addr} {fd fdA : FuncData} (F : Fun K "__radd__" "Place.__radd__" (inClass sPlace 8) f fd) (GA : FnOk P w K mg base (L2.CX P w) 5 fA fdA ["self", "other"] (spMov K C cI 1)) (bA : Binds K fdA ["self", "other"] []) (TA : Lty K C .Add fA) (Ri : Rty K C .Add "int") (Rb : Rty K C .Add "bool") :
    FnOk P w K mg base (L2.CX P w) 6 f fd ["self", "other"] (spRadd K C cI) := by
  refine F.okX scRadd (fun vs H Q E h => ?_) (fun cdv A outer s H vs Q E hr h => ?_)
  · obtain ⟨⟨a, y, rfl, _⟩, _⟩ := h
    rfl
  · obtain ⟨⟨a, y, rfl, hy⟩, h⟩ := h
    refine ⟨_, pss_one (ps_ret (pe_leftS GA hr bA TA (fun σ => passAt (takes_of rfl rfl rfl rfl) σ) (pv 0) (pv 1))), ?_⟩
    have h0 := h
    obtain ⟨a2, z, k, y2, e, ⟨dx, ha⟩, _⟩ := h0
    cases e
    refine ⟨_, rfl, _, rfl, a, dx, _, rfl, ha, .inl ?_, h⟩
    rcases hy with ⟨i, rfl⟩ | ⟨b, rfl⟩
    · exact ⟨_, .base (.int i), Ri⟩
    · exact ⟨_, .base (.bl b), Rb⟩
theorem scDif : FnScope ["one", "other"] ["one", "other"] (defScope sDiff) := ⟨rfl, rfl, rfl, by decide +kernel, rfl, by decide +kernel, by decide +kernel⟩
theorem ok_dif {f cU fU gb gs pb ps_ : Addr} {fd fdU fdb fds : FuncData} (F : Fun K "_difference" "_difference" sDiff f fd) (Z : Cpl K mg C) (TU : Xc2 K mg "Unordered" cU "left" "right") (GU : FnOk P w K mg base CX0 1 fU fdU ["self", "left", "right"] (spX2 K cU "left" "right"))
    (iU : PySem.W.findIn K (.ref cU) "__init__" = some (some (.ref fU))) (tU : PySem.W.typeIn K (.ref fU) = some (.type "function")) (bU : Binds K fdU ["self", "left", "right"] [])
    (pB : PropOf K C "base" pb gb) (Gb : FnOk P w K mg base CX0 1 gb fdb ["self"] (spBase C)) (bb : Binds K fdb ["self"] []) (pS : PropOf K C "shift" ps_ gs) (Gs : FnOk P w K mg base CX0 1 gs fds ["self"] (spShift C)) (bs : Binds K fds ["self"] []) :
    FnOk P w K mg base (L2.CX P w) 3 f fd ["one", "other"] (spDif C cU) := by
  refine F.okX scDif (fun vs H Q E h => ?_) (fun cdv A outer s H vs Q E hr h => ?_)
  · obtain ⟨a, b, z, k, y, i, rfl, _⟩ := h
    rfl
  · obtain ⟨a, b, z, k, y, i, rfl, pa, pb2, q1, q2⟩ := h
    obtain ⟨dx, ha⟩ := id pa
    obtain ⟨dy, hb⟩ := id pb2
    refine ⟨_, pss_cons (ps_if (pt_cmpR op_ne (pe_prop (pv 0) Z.cl pB Gb hr bb .nil pass0 rfl) (pe_prop (pv 1) Z.cl pB Gb hr bb .nil pass0 rfl) (nomark _)) (pss_one (ps_raise rfl (takes_of rfl rfl rfl rfl) (pmk_oex TU.ox iU tU GU hr bU .nil pass0 (by rfl) TU.m (pa_cons (pv 0) (pa_cons (pv 1) pa_nil))))) pss_nil)
      (PSs.nox (pss_one (ps_ret (pe_op op_sub (pe_prop (pv 0) Z.cl pS Gs hr bs .nil pass0 rfl) (pe_prop (pv 1) Z.cl pS Gs hr bs .nil pass0 rfl))))), ?_⟩
    refine ⟨_, rfl, a, dx, _, rfl, ha, a, z, k, rfl, pa, _, rfl, b, dy, _, rfl, hb, b, y, i, rfl, pb2, rfl, _, rfl, ?_⟩
    by_cases e : z = y
    · rw [decide_eq_true (show V.str z = V.str y by rw [e])]
      refine iteF ⟨_, rfl, a, dx, _, rfl, ha, a, z, k, rfl, pa, _, rfl, b, dy, _, rfl, hb, b, y, i, rfl, pb2, _, _, rfl, rfl, q1 e⟩
    · rw [decide_eq_false (show ¬ V.str z = V.str y from fun x => e (V.str.inj x))]
      exact iteT (mko_x2 rfl rfl fun d H' nd s2 hd => q2 e d H' nd s2 hd)
theorem scSub : FnScope ["self", "other"] ["self", "other"] (defScope (inClass sPlace 9)) := ⟨rfl, rfl, rfl, by decide +kernel, rfl, by decide +kernel, by decide +kernel⟩
theorem ok_sub {f fD cU : Addr} {fd fdD : FuncData} (F : Fun K "__sub__" "Place.__sub__" (inClass sPlace 9) f fd) (W : Movs P w K mg base C cI f2 f3 fI fX fd2 fd3 fdI fdX g t) (D : Blp mg) (Y : Pty K C)
    (GD : FnOk P w K mg base (L2.CX P w) 3 fD fdD ["one", "other"] (spDif C cU)) (mD : mg "_difference" = some (.ref fD)) (kD : PySem.W.keepIn K (.ref fD) = true) (bD : Binds K fdD ["one", "other"] []) : FnOk P w K mg base (L2.CX P w) 5 f fd ["self", "other"] (spSub K C cI cU) := by
  refine F.okX scSub (fun vs H Q E h => ?_) (fun cdv A outer s H vs Q E hr h => ?_)
  · rcases h with ⟨a, y, rfl, _⟩ | ⟨a, b, z, k, y, i, rfl, _⟩
    · rfl
    · rfl
  · refine ⟨_, pss_cons (ps_if (pt_val (pe_callB call_isi (by rfl) D.isi (by decide +kernel) (pa_cons (pv 1) (pa_cons (pe_glob (v := .ref C) rfl W.Z.mgC rfl) pa_nil)))) (pss_one (ps_ret (pe_callS GD (hr.mono (by decide)) (by rfl) mD kD bD (fun σ => passAt (takes_of rfl rfl rfl rfl) σ) (pa_cons (pv 0) (pa_cons (pv 1) pa_nil))))) pss_nil)
      (pss_cons (ps_if (pt_not (pt_val (pe_call W.G2 (hr.mono (by decide)) (by rfl) W.m2 W.k2 W.b2 .nil pass0 (pa_cons (pv 1) (pa_cons (pe_op op_sub (pe_fld (pv 0) rfl) (pe_glob (v := .int 3) rfl W.mM ⟨_, rfl⟩))
        (pa_cons (pe_op op_sub (pe_fld (pv 0) rfl) (pe_call W.G3 (hr.mono (by decide)) (by rfl) W.m3 W.k3 W.b3 .nil pass0 (pa_cons (pe_fld (pv 0) rfl) pa_nil))) pa_nil)))))) (pss_one (ps_raise rfl (takes_of rfl rfl rfl rfl) (pmk_oex W.TI.ox W.iX W.tX W.GX (hr.mono (by decide)) W.bX .nil pass0 (by rfl) W.TI.m (pa_cons (pv 1) pa_nil)))) pss_nil)
      (PSs.nox (pss_one (ps_ret (pe_makeK W.M W.GI hr (by rfl) W.Z.mgC W.kI pass0 (pa_cons (pe_fld (pv 0) rfl) pa_nil) (pk_cons (pe_op op_sub (pe_fld (pv 0) rfl) (pv 1)) pk_nil)))))), ?_⟩
    rcases h with ⟨a, y0, rfl, ⟨ty0, ty, kt⟩, a0, z, k, y, e0, ⟨dx, ha⟩, g1, kd, q1, q2⟩ | h
    · cases e0
      refine ⟨_, rfl, y0, .ref C, ty0, .ref C, false, rfl, .own C, ty, kt, false, rfl, iteF ?_⟩
      refine ⟨_, rfl, _, rfl, a, C, dx, _, _, rfl, ha, W.Z.cl, W.Z.nS, plF_shift, _, _, rfl, rfl, ?_⟩
      refine ⟨_, rfl, a, C, dx, _, _, rfl, ha, W.Z.cl, W.Z.nS, plF_shift, _, rfl, a, C, dx, _, _, rfl, ha, W.Z.cl, W.Z.nB, plF_base, z, rfl, _, _, rfl, rfl, y0, _, _, rfl, kd, _, rfl, ?_⟩
      have bad : inB (k - 3) (k - lowS z) y0 = false → (∀ i, y0 = .int i → ¬ Good z (k + -1 * i)) := by
        intro e i ei hg
        subst ei
        have h := (good_iff g1).mp hg
        have e2 : (decide (k - 3 ≤ i) && decide (i ≤ k - lowS z)) = false := e
        rw [decide_eq_true (by omega), decide_eq_true (by omega)] at e2
        cases e2
      rcases kd_in (lo := k - 3) (hi := k - lowS z) kd with ⟨i, rfl, e⟩ | ⟨ni, e⟩
      · cases hb : inB (k - 3) (k - lowS z) (.int i) with
        | false => exact iteT (mko_x1 rfl fun d H' nd s2 hd => q2 (bad hb) d H' nd s2 hd)
        | true =>
          rw [hb] at e
          have e3 := (Bool.and_eq_true_iff.mp e.symm)
          have h1 := of_decide_eq_true e3.1
          have h2 := of_decide_eq_true e3.2
          have g2 : Good z (k + -1 * i) := (good_iff g1).mpr (by omega)
          have ek : k + -1 * i = k - i := by omega
          rw [ek] at g2
          refine iteF ⟨_, rfl, a, C, dx, _, _, rfl, ha, W.Z.cl, W.Z.nB, plF_base, _, rfl, a, C, dx, _, _, rfl, ha, W.Z.cl, W.Z.nS, plF_shift, _, rfl, _, _, rfl, rfl, rfl, rfl, fun p dp np ndp nn => ?_⟩
          refine ⟨p, dp, z, k - i, rfl, upd_same, g2.1, g2.2.1, g2.2.2.1, g2.2.2.2.1, g2.2.2.2.2, fun H' u t' => ⟨rfl, q1 i rfl (by rw [ek]; exact g2) p H' np (fun r o hro => u r o (ne_of_none hro np) ?_) (by rw [ek]; exact ⟨dp, t'⟩)⟩⟩
          rw [upd_ne (ne_of_none hro np), upd_ne (ne_of_none hro ndp)]
          exact hro
      · rw [e]
        exact iteT (mko_x1 rfl fun d H' nd s2 hd => q2 (bad e) d H' nd s2 hd)
    · obtain ⟨a, b, z, k, y, i, rfl, pa, pb2, q1, q2⟩ := h
      exact ⟨_, rfl, .ref b, .ref C, .ref C, .ref C, true, rfl, .own C, pb2.ty Y, kit_self, true, rfl, iteT ⟨_, rfl, _, rfl, a, b, z, k, y, i, rfl, pa, pb2, q1, q2⟩⟩
end
end Mz
set_option Elab.async false
set_option linter.all false
set_option maxRecDepth 100000
set_option maxHeartbeats 4000000
namespace Mz
open PySem PySem.Spec PyProof.Rows L2
/-! what the law draws: a name or no name, a pair of a base and a shift, a step -/
/-- a base: no name or a name -/
def Nb (z : Str) : Prop := Sm 6 z ∧ (z = "" ∨ nameS z = true)
theorem Nb.good {z : Str} {k : Int} (h : Nb z) (h0 : lowS z ≤ k) (h1 : k ≤ 3) : Good z k := ⟨Nat.le_trans h.1.1 (by decide), h.1.2, h.2, h0, h1⟩
theorem join_list : ∀ cs : List Nat, (Str.join "" (cs.map fun c => (⟨#[c]⟩ : Str))).cps.toList = cs
  | [] => rfl
  | [c] => rfl
  | c :: d :: r => by
    show ((⟨#[c]⟩ : Str) ++ "" ++ Str.join "" ((d :: r).map fun c => (⟨#[c]⟩ : Str))).cps.toList = _
    rw [app_list, app_list, join_list (d :: r), nil_list, List.append_nil]
    rfl
theorem name_join {cs : List Nat} (h1 : 1 ≤ cs.length) (h6 : cs.length ≤ 6) (h : ∀ c ∈ cs, c ∈ abc.cps.toList) : Nb (Txt.join "" (cs.map fun c => (⟨#[c]⟩ : Str))) := by
  have e : (Txt.join "" (cs.map fun c => (⟨#[c]⟩ : Str))).cps.toList = cs := by
    unfold Txt.join
    rw [StrLaws.glued_eq_join, join_list]
  have s : Sm (cs.map fun c => (⟨#[c]⟩ : Str)).length (Txt.join "" (cs.map fun c => (⟨#[c]⟩ : Str))) := sm_join fun y hy => by
    obtain ⟨c, hc, rfl⟩ := List.mem_map.mp hy
    exact sm_sign (z := abc) (by decide +kernel) (h c hc)
  rw [List.length_map] at s
  generalize Txt.join "" (cs.map fun c => (⟨#[c]⟩ : Str)) = z at e s
  have len : z.length = cs.length := by
    rw [← e, Array.length_toList]
    rfl
  refine ⟨s.mono h6, .inr ?_⟩
  show ((decide (1 ≤ (z.length : Int)) && decide ((z.length : Int) ≤ 6)) && z.cps.toList.all fun c => decide (c ∈ abc.cps.toList)) = true
  rw [e, len, decide_eq_true (by omega), decide_eq_true (by omega)]
  show (cs.all fun c => decide (c ∈ abc.cps.toList)) = true
  rw [List.all_eq_true]
  exact fun c hc => decide_eq_true (h c hc)
theorem list1_len (a : Str) : (listText [a]).length = a.length + 2 := by
  show ((("[" ++ ((if 0 > 0 then ", " else "" : String) : Str) ++ a)) ++ "]" : Str).length = _
  rw [if_neg (by decide)]
  simp only [strLen_append]
  have e1 : (("[" : String) : Str).length = 1 := by decide +kernel
  have e2 : (("" : String) : Str).length = 0 := by decide +kernel
  have e4 : (("]" : String) : Str).length = 1 := by decide +kernel
  rw [e1, e2, e4]
  omega
section
variable {K : PySem.W.Frag} {C : Addr} {H : Hp} {p : Addr} {z : Str}
theorem fb_non : Fb K H .non := ⟨⟨.none, .flat .non, ⟨rfl, rfl, by simp [PyData.depth], by simp only [PyData.shown]; decide +kernel⟩, by decide +kernel, rfl⟩, .non, fun z e => nomatch e⟩
theorem fb_bl {b : Bool} : Fb K H (.bl b) := ⟨⟨.bool b, .flat (.bl b), ⟨rfl, rfl, by simp [PyData.depth], by cases b <;> simp only [PyData.shown] <;> decide +kernel⟩, by cases b <;> decide +kernel, rfl⟩, .bl b, fun z e => nomatch e⟩
theorem fb_int {i : Int} (h0 : 0 ≤ i) (h1 : i < 12) : Fb K H (.int i) := by
  refine ⟨⟨.int i, .flat (.int i), ⟨by simpa [PyData.showable] using int_fits h0 h1, rfl, by simp [PyData.depth], ?_⟩, ?_, rfl⟩, .int i, fun z e => nomatch e⟩
  · have h := (sm_str12 h0 h1).1
    simpa [PyData.shown] using Nat.le_trans h (show 100 ≤ 2000 by decide)
  · unfold SeqAt.shaped
    simp [PyData.canLay0, PyData.depth]
theorem fb_lst (h : H p = some (.lst [.str z])) (hz : Sm 20 z) : Fb K H (.ref p) := by
  refine ⟨⟨.list [.str z], .lst h (.cons (.str z) .nil), ⟨by simp [PyData.showable, PyData.showableAll], by simp [PyData.hasDict, PyData.hasDictAll], by simp [PyData.depth, PyData.depthAll], ?_⟩, shaped_strs [z] (fun y hy => by rw [List.mem_singleton.mp hy]; exact hz.2), rfl⟩,
    .oth p _ (.base (.lst h)) (kit_ty (by decide +kernel)) (kit_ty (by decide +kernel)), fun z e => nomatch e⟩
  have e : PyData.shown (.list [.str z]) = listText [reprText z] := by simp [PyData.shown, PyData.shownAll]
  rw [e, list1_len]
  have := repr_len hz
  omega
theorem fb_tup (h : H p = some (.tup [.str z])) (hz : Sm 20 z) : Fb K H (.ref p) := by
  refine ⟨⟨.tuple [.str z], .tup h (.cons (.str z) .nil), ⟨by simp [PyData.showable, PyData.showableAll], by simp [PyData.hasDict, PyData.hasDictAll], by simp [PyData.depth, PyData.depthAll], ?_⟩, ?_, rfl⟩,
    .oth p _ (.base (.tup h)) (kit_ty (by decide +kernel)) (kit_ty (by decide +kernel)), fun z e => nomatch e⟩
  · have e : PyData.shown (.tuple [.str z]) = tupleText [reprText z] := by simp [PyData.shown, PyData.shownAll]
    rw [e]
    have := repr_len hz
    have e2 : (tupleText [reprText z]).length = (reprText z).length + 3 := by
      have e3 : tupleText [reprText z] = (("(" : String) : Str) ++ reprText z ++ ((",)" : String) : Str) := rfl
      rw [e3, strLen_append, strLen_append]
      have e1 : (("(" : String) : Str).length = 1 := by decide +kernel
      have e4 : ((",)" : String) : Str).length = 2 := by decide +kernel
      rw [e1, e4]
      omega
    omega
  · unfold SeqAt.shaped
    have := hz.2
    simp [PyData.canLay0, PyData.canLayAll0, PyData.depth, PyData.depthAll, this]
theorem Fb.sv {v : V} (h : Fb K H v) : Sv K H v := by
  obtain ⟨⟨d, h1, h2, _⟩, h3, _⟩ := h
  exact ⟨⟨d, h1, h2⟩, h3⟩
theorem sv_int {i : Int} (h : i.natAbs.log2 < 1920) (hl : (Str.ofString (toString i)).length ≤ 2000) : Sv K H (.int i) :=
  ⟨⟨.int i, .flat (.int i), by simpa [PyData.showable] using h, rfl, by simp [PyData.depth], by simpa [PyData.shown] using hl⟩, .int i⟩
theorem sv_nil (h : H p = some (.lst [])) : Sv K H (.ref p) :=
  ⟨⟨.list [], .lst h .nil, by simp [PyData.showable, PyData.showableAll], by simp [PyData.hasDict, PyData.hasDictAll], by simp [PyData.depth, PyData.depthAll], by simp only [PyData.shown, PyData.shownAll]; decide +kernel⟩, .oth p _ (.base (.lst h)) (kit_ty (by decide +kernel)) (kit_ty (by decide +kernel))⟩
theorem sv_str (h : Sm 100 z) : Sv K H (.str z) := by
  refine ⟨⟨.str z, .flat (.str z), rfl, rfl, by simp [PyData.depth], ?_⟩, .str z (Nat.le_trans h.1 (by decide)) h.2⟩
  have e : PyData.shown (.str z) = reprText z := by simp [PyData.shown]
  rw [e]
  exact Nat.le_trans (repr_len h) (by decide)
end
/-- a step -/
def Stp (K : PySem.W.Frag) (C : Addr) (H : Hp) (v : V) : Prop := Sv K H v ∨ (∃ a, v = .ref a ∧ H a = some (.dK [])) ∨ ∃ a, v = .ref a ∧ Pl C H a "" 1
theorem Stp.same {K : PySem.W.Frag} {C : Addr} {H H' : Hp} {v : V} (s : Same H H') (h : Stp K C H v) : Stp K C H' v := by
  rcases h with h | ⟨a, e, h⟩ | ⟨a, e, dx, h⟩
  · exact .inl (h.same s)
  · exact .inr (.inl ⟨a, e, s _ _ h⟩)
  · exact .inr (.inr ⟨a, e, dx, s _ _ h⟩)
def spBase4 : Sp := fun vs H Q _ => ∃ (b : Addr) (n : Nat), vs = [.ref b] ∧ Bx H b n ∧ n ≤ 900000 ∧ ∀ (z : Str) (H' : Hp), Nb z → Bx H' b (n + 9) → Kp b H H' → Q (.str z) H'
def spPair : Sp := fun vs H Q _ => ∃ (b : Addr) (n : Nat), vs = [.ref b] ∧ Bx H b n ∧ n ≤ 800000 ∧ ∀ (p : Addr) (z : Str) (k : Int) (H' : Hp), Nb z → lowS z ≤ k → k ≤ 3 → p ≠ b → H' p = some (.tup [.str z, .int k]) → Bx H' b (n + 10) → Kp b H H' → Q (.ref p) H'
def spStep4 (K : PySem.W.Frag) (C : Addr) : Sp := fun vs H Q _ => ∃ (b : Addr) (n : Nat), vs = [.ref b] ∧ Bx H b n ∧ n ≤ 900000 ∧ ∀ (v : V) (H' : Hp), Stp K C H' v → Bx H' b (n + 3) → Kp b H H' → Q v H'
section
variable {P : Program} {w : World} {K : PySem.W.Frag} {mg : Str → Option Value} {base : Heap}
theorem scBase4 : FnScope ["_law_box_here", "_law_letters", "_law_word", "_law_k"] ["_law_box_here"] (defScope sBase4) := ⟨rfl, rfl, rfl, by decide +kernel, rfl, by decide +kernel, by decide +kernel⟩
theorem ok_base4 {f f1 : Addr} {fd fd1 : FuncData} (F : Fun K "_law_base" "_law_base" sBase4 f fd) (T : Tk P w K mg base f1 fd1) (B : Blt mg) : FnOk P w K mg base CX0 2 f fd ["_law_box_here"] spBase4 := by
  refine F.ok scBase4 (fun vs H Q E h => ?_) (fun cdv A outer s H vs Q E hr h => ?_)
  · obtain ⟨b, n, rfl, _⟩ := h
    rfl
  · obtain ⟨b, n, rfl, hB, hn, q⟩ := h
    have nd := scBase4.nd
    refine ⟨_, pss_cons (ps_set (i := 1) nd rfl (Or.inr rfl) pe_str)
      (pss_cons (ps_set (i := 2) nd rfl (Or.inl rfl) (pe_join pe_str (pe_lc (own := [("_law_k", 3)]) (g := gName 3) (tt := tYes) rfl nd
          (pi_range1 rfl B.range (pa_cons (pe_op op_add pe_int (pe_call T.ok hr (by rfl) T.m T.k T.b .nil pass0 (pa_cons (pv 0) (pa_cons pe_int pa_nil)))) pa_nil)) (blkOk_by (N := ["_law_box_here", "_law_letters", "_law_word", "_law_k"]) (sc := defScope sBase4) (by decide +kernel))
          (fun _ _ _ _ _ => pg_name (i := 3) nd rfl (Or.inl rfl)) (fun _ _ _ _ _ => pts_nil) (fun _ _ _ _ _ => pe_ix ix_str (pv 1) (pe_call T.ok hr (by rfl) T.m T.k T.b .nil pass0 (pa_cons (pv 0) (pa_cons pe_int pa_nil))) (fun _ _ => rfl)))))
      (pss_one (ps_ret (pe_ifExp (pt_cmpR op_eq (pe_call T.ok hr (by rfl) T.m T.k T.b .nil pass0 (pa_cons (pv 0) (pa_cons pe_int pa_nil))) pe_int (nomark _)) pe_str (pv 2))))), ?_⟩
    have off : ∀ {G : Hp} {p : Addr} {m : Nat}, Bx G b m → G p = none → p ≠ b := fun hb hp => by
      obtain ⟨_, _, _, e, _⟩ := hb
      exact (ne_of_none e hp).symm
    refine ⟨⟨_, rfl⟩, _, rfl, b, n, 6, rfl, hB, by omega, by decide, by decide, fun r H1 r0 r1 B1 K1 => ?_⟩
    refine ⟨_, _, rfl, rfl, _, rfl, by omega, by omega, fun D hD => ?_⟩
    have nb : D ≠ b := off B1 hD
    refine lc_range (lo := 0) (n := (1 + r).toNat) (fun i H' => Bx H' b (n + 1 + i) ∧ Kp b H1 H' ∧ ∃ cs : List Nat, cs.length = i ∧ (∀ c ∈ cs, c ∈ abc.cps.toList) ∧ H' D = some (.lst ((cs.map fun c => (⟨#[c]⟩ : Str)).map V.str)))
      ⟨B1.upd hD, Kp.fresh hD, [], rfl, fun _ h => (nomatch h), upd_same⟩ ?_ ?_
    · rintro i H2 hi ⟨B2, K2, cs, ely, hcs, hl⟩
      refine ⟨rfl, ?_⟩
      unfold tYes
      refine iteT ⟨_, rfl, _, rfl, b, n + 1 + i, 26, rfl, B2, by omega, by decide, by decide, fun c H3 c0 c1 B3 K3 => ?_⟩
      obtain ⟨g, hg, hm⟩ := atI_in (l := abc.cps.toList) c0 c1
      have hl3 := K3 D _ nb hl
      refine ⟨abc, c, g, rfl, rfl, (by decide +kernel), hg, _, hl3, by rw [List.length_map, List.length_map, ely]; exact Nat.lt_of_lt_of_le (by omega) (show 9 ≤ sizeLine by decide), ?_⟩
      refine ⟨?_, ?_, cs ++ [g], by rw [List.length_append, ely]; rfl, ?_, by rw [List.map_append, List.map_append]; exact upd_same⟩
      · obtain ⟨x, y, z, e, h⟩ := B3
        exact ⟨x, y, z, by rw [upd_ne nb.symm]; exact e, h⟩
      · intro p o np e
        have pD : p ≠ D := ne_of_none e hD
        rw [upd_ne pD]
        exact K3 p o np (K2 p o np e)
      · intro y hy
        rcases List.mem_append.mp hy with h | h
        · exact hcs y h
        · rw [List.mem_singleton.mp h]
          exact hm
    · rintro H2 ⟨B2, K2, cs, ely, hcs, hl⟩
      have ones : ∀ y ∈ cs.map fun c => (⟨#[c]⟩ : Str), Sm 1 y := fun y hy => by
        obtain ⟨c, hc, rfl⟩ := List.mem_map.mp hy
        exact sm_sign (z := abc) (by decide +kernel) (hcs c hc)
      have nb2 := name_join (cs := cs) (by omega) (by omega) hcs
      refine ⟨"", D, _, rfl, rfl, .inl (SqL.of hl), ?_, ?_⟩
      · have e2 := sum_ones _ ones
        have e3 : (cs.map fun c => (⟨#[c]⟩ : Str)).length * ("" : Str).length = 0 := by
          rw [show ("" : Str).length = 0 by decide +kernel, Nat.mul_zero]
        rw [List.length_map] at e2
        omega
      generalize Txt.join "" (cs.map fun c => (⟨#[c]⟩ : Str)) = z at nb2
      have K12 := K1.trans K2
      refine ⟨_, rfl, b, n + 1 + (1 + r).toNat, 4, rfl, B2, by omega, by decide, by decide, fun t H3 t0 t1 B3 K3 => ?_⟩
      refine ⟨rfl, _, rfl, ite2 (fun _ => ?_) (fun _ => ?_)⟩
      · exact q "" H3 ⟨⟨by decide +kernel, by decide +kernel⟩, .inl rfl⟩ (B3.more (by omega)) (K12.trans K3)
      · exact ⟨_, rfl, q z H3 nb2 (B3.more (by omega)) (K12.trans K3)⟩
/-- a def that the law calls -/
structure C1 (P : Program) (w : World) (K : PySem.W.Frag) (mg : Str → Option Value) (base : Heap) (x : Str) (k : Nat) (ps : List Str) (sp : Sp) (f : Addr) (fd : FuncData) : Prop where
  ok : FnOk P w K mg base CX0 k f fd ps sp
  m : mg x = some (.ref f)
  k : PySem.W.keepIn K (.ref f) = true
  b : Binds K fd ps []
theorem scPair : FnScope ["_law_box_here", "_law_base_here"] ["_law_box_here"] (defScope sPair) := ⟨rfl, rfl, rfl, by decide +kernel, rfl, by decide +kernel, by decide +kernel⟩
theorem ok_pair {f f1 fB : Addr} {fd fd1 fdB : FuncData} (F : Fun K "_law_pair" "_law_pair" sPair f fd) (T : Tk P w K mg base f1 fd1) (G : C1 P w K mg base "_law_base" 2 ["_law_box_here"] spBase4 fB fdB) : FnOk P w K mg base CX0 3 f fd ["_law_box_here"] spPair := by
  refine F.ok scPair (fun vs H Q E h => ?_) (fun cdv A outer s H vs Q E hr h => ?_)
  · obtain ⟨b, n, rfl, _⟩ := h
    rfl
  · obtain ⟨b, n, rfl, hB, hn, q⟩ := h
    have nd := scPair.nd
    have hr1 : Room 1 _ := hr.mono (by decide)
    refine ⟨_, pss_cons (ps_set (i := 1) nd rfl (Or.inl rfl) (pe_call G.ok hr (by rfl) G.m G.k G.b .nil pass0 (pa_cons (pv 0) pa_nil)))
      (pss_one (ps_ret (pe_tup (pa_cons (pv 1) (pa_cons (pe_ifExp (pt_cmpR op_eq (pv 1) pe_str (nomark _)) (pe_call T.ok hr1 (by rfl) T.m T.k T.b .nil pass0 (pa_cons (pv 0) (pa_cons pe_int pa_nil)))
        (pe_op op_sub (pe_call T.ok hr1 (by rfl) T.m T.k T.b .nil pass0 (pa_cons (pv 0) (pa_cons pe_int pa_nil))) pe_int)) pa_nil))))), ?_⟩
    refine ⟨_, rfl, b, n, rfl, hB, by omega, fun z H1 hz B1 K1 => ?_⟩
    have fin : ∀ (k : Int) (H2 : Hp), lowS z ≤ k → k ≤ 3 → Bx H2 b (n + 10) → Kp b H H2 → ∀ p, H2 p = none → Q (.ref p) (upd H2 p (.tup [.str z, .int k])) := by
      intro k H2 k0 k1 B2 K2 p np
      have nb : p ≠ b := by
        obtain ⟨_, _, _, e, _⟩ := B2
        exact (ne_of_none e np).symm
      exact q p z k _ hz k0 k1 nb upd_same (B2.upd np) (K2.trans (Kp.fresh np))
    refine ⟨_, rfl, _, rfl, rfl, _, rfl, ite2 (fun hc => ?_) (fun hc => ?_)⟩
    · have e : lowS z = 0 := if_pos (V.str.inj (of_decide_eq_true hc))
      exact ⟨_, rfl, b, n + 9, 4, rfl, B1, by omega, by decide, by decide, fun r H2 r0 r1 B2 K2 => ⟨(by show 2 ≤ sizeLine; decide), fun p np => fin r H2 (by omega) (by omega) B2 (K1.trans K2) p np⟩⟩
    · have e : lowS z = -3 := if_neg fun x => hc (decide_eq_true (by rw [x]))
      exact ⟨_, rfl, b, n + 9, 7, rfl, B1, by omega, by decide, by decide, fun r H2 r0 r1 B2 K2 => ⟨_, _, rfl, rfl, (by show 2 ≤ sizeLine; decide), fun p np => fin (r - 3) H2 (by omega) (by omega) B2 (K1.trans K2) p np⟩⟩
theorem scStep4 : FnScope ["_law_box_here", "_law_odd"] ["_law_box_here"] (defScope sStep4) := ⟨rfl, rfl, rfl, by decide +kernel, rfl, by decide +kernel, by decide +kernel⟩
theorem sv_small {H : Hp} {i : Int} (h0 : -7 ≤ i) (h1 : i ≤ 7) : Sv K H (.int i) := by
  have all : ∀ j : Fin 15, ((((j.val : Nat) : Int) - 7).natAbs.log2 < 1920) ∧ (Str.ofString (toString (((j.val : Nat) : Int) - 7))).length ≤ 2000 := by decide +kernel
  obtain ⟨j, hj⟩ := Int.eq_ofNat_of_zero_le (show 0 ≤ i + 7 by omega)
  have e : i = ((j : Nat) : Int) - 7 := by omega
  obtain ⟨x1, x2⟩ := all ⟨j, by omega⟩
  rw [e]
  exact sv_int x1 x2
theorem sv_one {H : Hp} {p : Addr} (h : H p = some (.lst [.int 1])) : Sv K H (.ref p) :=
  ⟨⟨.list [.int 1], .lst h (.cons (.int 1) .nil), by simp [PyData.showable, PyData.showableAll]; decide +kernel, by simp [PyData.hasDict, PyData.hasDictAll], by simp [PyData.depth, PyData.depthAll], by simp only [PyData.shown, PyData.shownAll]; decide +kernel⟩, .oth p _ (.base (.lst h)) (kit_ty (by decide +kernel)) (kit_ty (by decide +kernel))⟩
theorem ok_step4 {f f1 fI C : Addr} {fd fd1 fdI : FuncData} {g1 : List Value → List Value → List Value} (F : Fun K "_law_step" "_law_step" sStep4 f fd) (T : Tk P w K mg base f1 fd1) (B : Blt mg) (Z : Cpl K mg C) (M : Mk K C fI) (GI : FnOk P w K mg base CX0 3 fI fdI ["self", "base", "shift"] (spInit C)) (kI1 : KBn K fdI ["self", "base", "shift"] 1 ["shift"] g1 (fun vs zs => vs ++ [.str ""] ++ zs)) :
    FnOk P w K mg base CX0 5 f fd ["_law_box_here"] (spStep4 K C) := by
  refine F.ok scStep4 (fun vs H Q E h => ?_) (fun cdv A outer s H vs Q E hr h => ?_)
  · obtain ⟨b, n, rfl, _⟩ := h
    rfl
  · obtain ⟨b, n, rfl, hB, hn, q⟩ := h
    have nd := scStep4.nd
    have hr1 : Room 1 _ := hr.mono (by decide)
    refine ⟨_, pss_cons (ps_set (i := 1) nd rfl (Or.inl rfl) (pe_ix ix_list (pe_lst (pa_cons pe_non (pa_cons pe_bl (pa_cons pe_bl (pa_cons pe_str (pa_cons (pe_lst (pa_cons pe_int pa_nil)) (pa_cons pe_dnewK (pa_cons (pe_op op_pow pe_int pe_int) (pa_cons (pe_op op_sub pe_int (pe_op op_pow pe_int pe_int)) (pa_cons (pe_makeK0 M GI hr (by rfl) Z.mgC kI1 pass0 (pk_cons pe_int pk_nil)) pa_nil))))))))))
        (pe_call T.ok hr1 (by rfl) T.m T.k T.b .nil pass0 (pa_cons (pv 0) (pa_cons pe_int pa_nil))) (fun _ _ => rfl)))
      (pss_one (ps_ret (pe_ix ix_list (pe_lst (pa_cons (pe_op op_sub (pe_call T.ok hr1 (by rfl) T.m T.k T.b .nil pass0 (pa_cons (pv 0) (pa_cons pe_int pa_nil))) pe_int) (pa_cons (pv 1) pa_nil)))
        (pe_callTy call_int1 (by rfl) B.int (by decide +kernel) (pa_cons (pe_cmpR op_eq (pe_call T.ok hr1 (by rfl) T.m T.k T.b .nil pass0 (pa_cons (pv 0) (pa_cons pe_int pa_nil))) pe_int (nomark _)) pa_nil)) (fun _ _ => rfl)))), ?_⟩
    have off : ∀ {G : Hp} {p : Addr} {m : Nat}, Bx G b m → G p = none → p ≠ b := fun hb hp => by
      obtain ⟨_, _, _, e, _⟩ := hb
      exact (ne_of_none e hp).symm
    have one : ∀ {H1 : Hp} {p : Addr} (o : HO), H1 p = none → ∃ H2, H2 = upd H1 p o ∧ Same H1 H2 ∧ H2 p = some o := fun o n => ⟨_, rfl, same_nw n, upd_same⟩
    refine ⟨(by show 1 ≤ sizeLine; decide), fun p1 n1 => ?_⟩
    obtain ⟨H1, e, s1, t1⟩ := one (.lst [V.int 1]) n1
    rw [← e]
    clear e
    refine fun p2 n2 => ?_
    obtain ⟨H2, e, s2, t2⟩ := one (.dK []) n2
    rw [← e]
    clear e
    refine ⟨_, _, rfl, rfl, ⟨by decide, by decide, by decide⟩, _, _, rfl, rfl, ⟨by decide, by decide, by decide⟩, _, _, rfl, rfl, rfl, rfl, fun p3 d3 n3 nd3 _ => ?_⟩
    refine ⟨p3, d3, "", 1, rfl, upd_same, by decide +kernel, by decide +kernel, .inl rfl, by decide +kernel, by decide, fun H3 u3 t3 => ⟨rfl, ?_⟩⟩
    have s3 : Same H2 H3 := fun r o h => u3 r o (ne_of_none h n3) (by
      rw [upd_ne (ne_of_none h n3), upd_ne (ne_of_none h nd3)]
      exact h)
    refine ⟨(by show 9 ≤ sizeLine; decide), fun p4 n4 => ?_⟩
    obtain ⟨H4, e, s4, t4⟩ := one (.lst [V.non, V.bl true, V.bl false, V.str "1", V.ref p1, V.ref p2, V.int (10 ^ (40 : Int).toNat), V.int (0 - 10 ^ (40 : Int).toNat), V.ref p3]) n4
    rw [← e]
    clear e
    have B1 := hB.same s1
    have B2 := B1.same s2
    have B3 := B2.same s3
    have B4 := B3.same s4
    refine ⟨_, rfl, b, n, 9, rfl, B4, by omega, by decide, by decide, fun r H5 r0 r1 B5 K5 => ?_⟩
    obtain ⟨v, hv, hm⟩ := atI_in (l := [V.non, V.bl true, V.bl false, V.str "1", V.ref p1, V.ref p2, V.int (10 ^ (40 : Int).toNat), V.int (0 - 10 ^ (40 : Int).toNat), V.ref p3]) r0 r1
    refine ⟨p4, _, _, _, rfl, rfl, SqL.of (K5 _ _ (off B3 n4) t4), hv, ?_⟩
    have k1 : H5 p1 = some (.lst [.int 1]) := K5 _ _ (off hB n1) (s4 _ _ (s3 _ _ (s2 _ _ t1)))
    have k2 : H5 p2 = some (.dK []) := K5 _ _ (off B1 n2) (s4 _ _ (s3 _ _ t2))
    have k3 : H5 p3 = some (.ins C d3 (plF "" 1)) := K5 _ _ (off B2 n3) (s4 _ _ t3)
    have big : Kp b H H5 := (Kp.same (s1.trans (s2.trans (s3.trans s4)))).trans K5
    have st : Stp K C H5 v ∧ ∀ a, v = .ref a → a ≠ b := by
      simp only [List.mem_cons, List.not_mem_nil, or_false] at hm
      rcases hm with rfl | rfl | rfl | rfl | rfl | rfl | rfl | rfl | rfl
      · exact ⟨.inl fb_non.sv, fun a e => nomatch e⟩
      · exact ⟨.inl fb_bl.sv, fun a e => nomatch e⟩
      · exact ⟨.inl fb_bl.sv, fun a e => nomatch e⟩
      · exact ⟨.inl (sv_str (by unfold Sm; decide +kernel)), fun a e => nomatch e⟩
      · exact ⟨.inl (sv_one k1), fun a e => by cases e; exact off hB n1⟩
      · exact ⟨.inr (.inl ⟨p2, rfl, k2⟩), fun a e => by cases e; exact off B1 n2⟩
      · exact ⟨.inl (sv_int (by decide +kernel) (by decide +kernel)), fun a e => nomatch e⟩
      · exact ⟨.inl (sv_int (by decide +kernel) (by decide +kernel)), fun a e => nomatch e⟩
      · exact ⟨.inr (.inr ⟨p3, rfl, d3, k3⟩), fun a e => by cases e; exact off B2 n3⟩
    obtain ⟨sv, vb⟩ := st
    have sv_kp : ∀ {G : Hp}, Kp b H5 G → Stp K C G v := by
      intro G kp
      rcases sv with h | ⟨a, e, h⟩ | ⟨a, e, dx, h⟩
      · exact .inl (h.at fun a e o ho => kp a o (vb a e) ho)
      · exact .inr (.inl ⟨a, e, kp _ _ (vb a e) h⟩)
      · exact .inr (.inr ⟨a, e, dx, kp _ _ (vb a e) h⟩)
    refine ⟨_, rfl, b, n + 1, 15, rfl, B5, by omega, by decide, by decide, fun i H6 i0 i1 B6 K6 => ?_⟩
    refine ⟨_, _, rfl, rfl, _, rfl, (by show 2 ≤ sizeLine; decide), fun p7 n7 => ?_⟩
    obtain ⟨H7, e, s7, t7⟩ := one (.lst [V.int (i - 7), v]) n7
    rw [← e]
    clear e
    refine ⟨_, rfl, b, n + 1 + 1, 4, rfl, B6.same s7, by omega, by decide, by decide, fun j H8 j0 j1 B8 K8 => ?_⟩
    have k7 := K8 _ _ (off B6 n7) t7
    have kp8 : Kp b H5 H8 := K6.trans ((Kp.same s7).trans K8)
    refine ⟨rfl, .inr ⟨decide (V.int j = V.int 0), rfl, ?_⟩⟩
    have big8 := big.trans kp8
    cases decide (V.int j = V.int 0) with
    | true => exact ⟨p7, _, _, v, rfl, rfl, SqL.of k7, rfl, q v H8 (sv_kp kp8) B8 big8⟩
    | false => exact ⟨p7, _, _, .int (i - 7), rfl, rfl, SqL.of k7, rfl, q _ H8 (.inl (sv_small (by omega) (by omega))) B8 big8⟩
end
end Mz
set_option Elab.async false
set_option linter.all false
set_option maxRecDepth 100000
set_option maxHeartbeats 4000000
namespace Mz
open PySem PySem.Spec PyProof.Rows L2
/-- repr of a place -/
def reprP (z : Str) (k : Int) : Str := Str.empty ++ "Place(" ++ reprText z ++ ", shift=" ++ Str.ofString (toString k) ++ ")"
def spRepr (C : Addr) : Sp := fun vs H Q _ => ∃ a z k, vs = [.ref a] ∧ Pl C H a z k ∧ Good z k ∧ Q (.str (reprP z k)) H
def spText3 : Sp := fun vs H Q _ => ∃ (z : Str) (k : Int), vs = [.str z, .int k] ∧ Good z k ∧ z.length ≤ 100 ∧ ∀ H', Same H H' → Q (.str (strP z k)) H'
theorem kshift_len {k : Int} (h0 : -3 ≤ k) (h1 : k ≤ 3) : (Str.ofString (toString k)).length ≤ 10 := kshift_text h0 h1
theorem nil_app (z : Str) : "" ++ z = z := str_ext (by rw [app_list, nil_list, List.nil_append])
section
variable {P : Program} {w : World} {K : PySem.W.Frag} {mg : Str → Option Value} {base : Heap}
theorem scRepr : FnScope ["self"] ["self"] (defScope (inClass sPlace 5)) := ⟨rfl, rfl, rfl, by decide +kernel, rfl, by decide +kernel, by decide +kernel⟩
theorem ok_repr {f C : Addr} {fd : FuncData} (F : Fun K "__repr__" "Place.__repr__" (inClass sPlace 5) f fd) (T : Cpl K mg C) : FnOk P w K mg base CX0 1 f fd ["self"] (spRepr C) := by
  refine F.ok scRepr (fun vs H Q E h => ?_) (fun cdv A outer s H vs Q E hr h => ?_)
  · obtain ⟨a, z, k, rfl, _⟩ := h
    rfl
  · obtain ⟨a, z, k, rfl, ⟨dx, ha⟩, g, q⟩ := h
    refine ⟨_, pss_one (ps_ret (pe_joined (.cons pe_str (.cons (pe_fmtR (pe_fld (pv 0) rfl)) (.cons pe_str (.cons (pe_fmt (pe_fld (pv 0) rfl)) (.cons pe_str .nil))))))), ?_⟩
    have h1 := repr_len (z := z) (n := 1000) ⟨g.1, g.2.1⟩
    have h2 := kshift_len g.lo g.hi
    have l1 : (Str.empty ++ ("Place(" : Str)).length = 6 := by decide +kernel
    have l2 : (", shift=" : Str).length = 8 := by decide +kernel
    have l3 : (")" : Str).length = 1 := by decide +kernel
    have big : 20000 ≤ sizeLine := by decide
    refine ⟨_, rfl, by rw [l1]; omega, ?_⟩
    refine ⟨_, rfl, a, C, dx, _, _, rfl, ha, T.cl, T.nB, plF_base, .inl ⟨z, rfl, by omega, reprText z, rfl, by rw [strLen_append, l1]; omega, ?_⟩⟩
    refine ⟨_, rfl, by rw [strLen_append, strLen_append, l1, l2]; omega, ?_⟩
    refine ⟨_, rfl, a, C, dx, _, _, rfl, ha, T.cl, T.nS, plF_shift, .inr ⟨k, rfl, int_small g.lo g.hi, _, rfl, ?_, ?_⟩⟩
    · rw [strLen_append, strLen_append, strLen_append, l1, l2]
      have e : (Str.ofString (toString k)).length = ((toString k : String) : Str).length := rfl
      omega
    · exact ⟨_, rfl, by rw [strLen_append, strLen_append, strLen_append, strLen_append, l1, l2, l3]; have e : (Str.ofString (toString k)).length = ((toString k : String) : Str).length := rfl; omega, q⟩
theorem scText4 : FnScope ["_law_root", "_law_many"] ["_law_root", "_law_many"] (defScope sText4) := ⟨rfl, rfl, rfl, by decide +kernel, rfl, by decide +kernel, by decide +kernel⟩
theorem ok_text4 {f : Addr} {fd : FuncData} (F : Fun K "_law_text" "_law_text" sText4 f fd) : FnOk P w K mg base CX0 1 f fd ["_law_root", "_law_many"] spText3 := by
  refine F.ok scText4 (fun vs H Q E h => ?_) (fun cdv A outer s H vs Q E hr h => ?_)
  · obtain ⟨z, k, rfl, _⟩ := h
    rfl
  · obtain ⟨z, k, rfl, g, hz, q⟩ := h
    refine ⟨_, pss_one (ps_ret (pe_ifExp (pt_cmpR op_eq (pv 0) pe_str (nomark _)) (pe_ix ix_str pe_str (pv 1) (fun _ _ => rfl)) (pe_op op_add_str (pv 0) (pe_ix ix_list (pe_lst (pa_cons pe_str (pa_cons pe_str (pa_cons pe_str (pa_cons pe_str (pa_cons pe_str (pa_cons pe_str (pa_cons pe_str pa_nil)))))))) (pv 1) (fun _ _ => rfl))))), ?_⟩
    refine ⟨_, rfl, rfl, _, rfl, ite2 (fun h1 => ?_) (fun h1 => ?_)⟩
    · have e0 : z = "" := V.str.inj (of_decide_eq_true h1)
      subst e0
      have h0 : 0 ≤ k := g.2.2.2.1
      have h3 := g.2.2.2.2
      have q0 := q H (Same.refl H)
      rcases (show k = 0 ∨ k = 1 ∨ k = 2 ∨ k = 3 by omega) with rfl | rfl | rfl | rfl
      · rw [show strP "" 0 = ⟨#[48]⟩ by decide +kernel] at q0
        exact ⟨_, rfl, "0123", 0, 48, rfl, rfl, by decide +kernel, by decide +kernel, q0⟩
      · rw [show strP "" 1 = ⟨#[49]⟩ by decide +kernel] at q0
        exact ⟨_, rfl, "0123", 1, 49, rfl, rfl, by decide +kernel, by decide +kernel, q0⟩
      · rw [show strP "" 2 = ⟨#[50]⟩ by decide +kernel] at q0
        exact ⟨_, rfl, "0123", 2, 50, rfl, rfl, by decide +kernel, by decide +kernel, q0⟩
      · rw [show strP "" 3 = ⟨#[51]⟩ by decide +kernel] at q0
        exact ⟨_, rfl, "0123", 3, 51, rfl, rfl, by decide +kernel, by decide +kernel, q0⟩
    · have n0 : ¬ z = "" := fun e => h1 (decide_eq_true (by rw [e]))
      refine ⟨_, rfl, (by show 7 ≤ sizeLine; decide), fun p np => ⟨_, rfl, p, [V.str "", V.str "+1", V.str "+2", V.str "+3", V.str "-3", V.str "-2", V.str "-1"], k, ?_⟩⟩
      have q1 := q (upd H p (.lst [V.str "", V.str "+1", V.str "+2", V.str "+3", V.str "-3", V.str "-2", V.str "-1"])) (same_nw np)
      have fin : ∀ y : Str, strP z k = z ++ y → y.length ≤ 10 → atI [V.str "", V.str "+1", V.str "+2", V.str "+3", V.str "-3", V.str "-2", V.str "-1"] k = some (.str y) →
          ∃ v, V.ref p = V.ref p ∧ V.int k = V.int k ∧ SqL K (upd H p (.lst [V.str "", V.str "+1", V.str "+2", V.str "+3", V.str "-3", V.str "-2", V.str "-1"])) p [V.str "", V.str "+1", V.str "+2", V.str "+3", V.str "-3", V.str "-2", V.str "-1"] ∧ atI [V.str "", V.str "+1", V.str "+2", V.str "+3", V.str "-3", V.str "-2", V.str "-1"] k = some v ∧
            ∃ (a b : Str), V.str z = V.str a ∧ v = V.str b ∧ a.length + b.length ≤ sizeLine ∧ Q (.str (a ++ b)) (upd H p (.lst [V.str "", V.str "+1", V.str "+2", V.str "+3", V.str "-3", V.str "-2", V.str "-1"])) := by
        intro y e hy hat
        rw [e] at q1
        have : 200 ≤ sizeLine := by decide
        exact ⟨_, rfl, rfl, SqL.of upd_same, hat, z, y, rfl, rfl, by omega, q1⟩
      have sg : k ≠ 0 → strP z k = z ++ signS k := fun hk => by
        unfold strP
        rw [if_neg n0, if_neg hk, nil_app]
      have zr : strP z 0 = z ++ "" := by
        unfold strP
        rw [if_neg n0, if_pos rfl]
        exact str_ext (by rw [app_list, nil_list, List.append_nil])
      by_cases hk : k = 0
      · subst hk
        exact fin "" zr (by decide +kernel) rfl
      · have e := sg hk
        rcases small_six g.lo g.hi hk with rfl | rfl | rfl | rfl | rfl | rfl
        · exact fin "+1" e (by decide +kernel) rfl
        · exact fin "+2" e (by decide +kernel) rfl
        · exact fin "+3" e (by decide +kernel) rfl
        · exact fin "-1" e (by decide +kernel) rfl
        · exact fin "-2" e (by decide +kernel) rfl
        · exact fin "-3" e (by decide +kernel) rfl
end
/-! what a move tells -/
def mvK (way k i : Int) : Int := if way = 2 then k - i else k + i
/-- what becomes of a place moved by y -/
def Out (way : Int) (z : Str) (k : Int) (y : V) (H : Hp) (Q : VK) : Prop :=
  (∃ i, y = .int i ∧ Good z (mvK way k i) ∧ ∀ p H', Same H H' → H p = none → H' p = some (.lst [.str "place", .str z, .int (mvK way k i), .str (strP z (mvK way k i)), .bl true]) → Q (.ref p) H') ∨
  ((∀ i, y = .int i → ¬ Good z (mvK way k i)) ∧ ∀ p H', Same H H' → H p = none → H' p = some (.lst [.str "integer", y]) → Q (.ref p) H')
def spDue4 (K : PySem.W.Frag) : Sp := fun vs H Q _ => ∃ way tp y z k, vs = [.int way, .ref tp, y] ∧ H tp = some (.tup [.str z, .int k]) ∧ Good z k ∧ z.length ≤ 100 ∧ Kd K H y ∧ Out way z k y H Q
/-- a right side that the operators know -/
def Rok (K : PySem.W.Frag) (C : Addr) (op : Operator) (H : Hp) (y : V) : Prop := (∃ T, TyX K H y (.type T) ∧ Rty K C op T) ∨ TyX K H y (.ref C)
def spTried (K : PySem.W.Frag) (C : Addr) : Sp := fun vs H Q _ => ∃ way a y z k, vs = [.int way, .ref a, y] ∧ Pl C H a z k ∧ Good z k ∧
  ((Kd K H y ∧ (way = 0 ∧ Rok K C .Add H y ∨ way = 1 ∧ ((∃ i, y = .int i) ∨ ∃ b, y = .bl b) ∨ way = 2 ∧ Oty K C H y ∧ Rok K C .Sub H y) ∧ Out way z k y H Q) ∨
    (way = 2 ∧ ∃ b z2 k2, y = .ref b ∧ Pl C H b z2 k2 ∧ Good z2 k2 ∧ ((z = z2 ∧ ∀ p H', Same H H' → H p = none → H' p = some (.lst [.str "number", .int (k - k2)]) → Q (.ref p) H') ∨
      (z ≠ z2 ∧ ∀ p p2 H', Same H H' → H p = none → H' p = some (.lst [.str "unordered", .ref p2]) → H' p2 = some (.lst [.str z, .int k, .str z2, .int k2]) → Q (.ref p) H'))))
section
variable {P : Program} {w : World} {K : PySem.W.Frag} {mg : Str → Option Value} {base : Heap}
theorem scDue4 : FnScope ["_law_way", "_law_pair_here", "_law_step_here", "_law_whole", "_law_many"] ["_law_way", "_law_pair_here", "_law_step_here"] (defScope sDue4) := ⟨rfl, rfl, rfl, by decide +kernel, rfl, by decide +kernel, by decide +kernel⟩
theorem ok_due4 {f fT : Addr} {fd fdT : FuncData} (F : Fun K "_law_due" "_law_due" sDue4 f fd) (B : Blt mg) (D : Blp mg) (GT : C1 P w K mg base "_law_text" 1 ["_law_root", "_law_many"] spText3 fT fdT) : FnOk P w K mg base CX0 2 f fd ["_law_way", "_law_pair_here", "_law_step_here"] (spDue4 K) := by
  refine F.ok scDue4 (fun vs H Q E h => ?_) (fun cdv A outer s H vs Q E hr h => ?_)
  · obtain ⟨way, tp, y, z, k, rfl, _⟩ := h
    rfl
  · obtain ⟨way, tp, y, z, k, rfl, htp, g, zl, kd, h⟩ := h
    have nd := scDue4.nd
    refine ⟨_, pss_cons (ps_set (i := 3) nd rfl (Or.inl rfl) (pe_and (pe_callB call_isi (by rfl) D.isi (by decide +kernel) (pa_cons (pv 2) (pa_cons (pe_bltn (v := .ty "int") (by rfl) B.int (by decide +kernel) rfl) pa_nil)))
        (pe_one (pe_not (pe_callB call_isi (by rfl) D.isi (by decide +kernel) (pa_cons (pv 2) (pa_cons (pe_bltn (v := .ty "bool") (by rfl) D.bool (by decide +kernel) rfl) pa_nil)))))))
      (pss_cons (ps_if (pt_not (pt_val (pv 3))) (pss_one (ps_ret (pe_lst (pa_cons pe_str (pa_cons (pv 2) pa_nil))))) pss_nil)
      (pss_cons (ps_set (i := 4) nd rfl (Or.inl rfl) (pe_ifExp (pt_cmpR op_eq (pv 0) pe_int (nomark _)) (pe_op op_sub (pe_ix (r := rIxT K) ix_tup (pv 1) pe_int (fun _ _ => rfl)) (pv 2)) (pe_op op_add (pe_ix (r := rIxT K) ix_tup (pv 1) pe_int (fun _ _ => rfl)) (pv 2))))
      (pss_cons (ps_if (pt_not (pt_chain op_le op_le (pe_ifExp (pt_cmpR op_eq (pe_ix (r := rIxT K) ix_tup (pv 1) pe_int (fun _ _ => rfl)) pe_str (nomark _)) pe_int (pe_un un_neg pe_int)) (pv 4) pe_int)) (pss_one (ps_ret (pe_lst (pa_cons pe_str (pa_cons (pv 2) pa_nil))))) pss_nil)
      (pss_one (ps_ret (pe_lst (pa_cons pe_str (pa_cons (pe_ix (r := rIxT K) ix_tup (pv 1) pe_int (fun _ _ => rfl)) (pa_cons (pv 4) (pa_cons (pe_call GT.ok hr (by rfl) GT.m GT.k GT.b .nil pass0 (pa_cons (pe_ix (r := rIxT K) ix_tup (pv 1) pe_int (fun _ _ => rfl)) (pa_cons (pv 4) pa_nil))) (pa_cons pe_bl pa_nil))))))))))), ?_⟩
    generalize hT2 : tSeq (tIfS (tNot _) _ _) _ = T2
    have odd : (∀ i, y = .int i → ¬ Good z (mvK way k i)) → ∀ p, H p = none → Q (.ref p) (upd H p (.lst [.str "integer", y])) := by
      intro ni p np
      rcases h with ⟨i, rfl, g2, _⟩ | ⟨_, q⟩
      · exact absurd g2 (ni i rfl)
      · exact q p _ (same_nw np) np upd_same
    have no : (∀ i, y ≠ .int i) → T2 { nx := fun _ H' => Q .non H', rt := Q } [some (.int way), some (.ref tp), some y, some (.bl false), none] H := by
      intro ni
      rw [← hT2]
      exact ⟨_, rfl, _, rfl, iteT ⟨_, rfl, (by show 2 ≤ sizeLine; decide), fun p np => odd (fun i e => (ni i e).elim) p np⟩⟩
    refine ⟨_, rfl, ?_⟩
    cases kd with
    | int i =>
      refine ⟨_, _, _, _, true, rfl, .ty _, .base (.int i), kit_ty (by decide +kernel), true, rfl, iteT ⟨_, rfl, _, _, _, _, false, rfl, .ty _, .base (.int i), kit_ty (by decide +kernel), false, rfl, ?_⟩⟩
      rw [← hT2]
      refine ⟨_, rfl, _, rfl, iteF ?_⟩
      generalize hT3 : tSeq (tIfS (tNot _) _ _) _ = T3
      have rest : T3 { nx := fun _ H' => Q .non H', rt := Q } [some (.int way), some (.ref tp), some (.int i), some (.bl true), some (.int (mvK way k i))] H := by
        rw [← hT3]
        have low : Good z (mvK way k i) ↔ lowS z ≤ mvK way k i ∧ mvK way k i ≤ 3 := good_iff g
        have good : Good z (mvK way k i) → ∀ p H', Same H H' → H p = none → H' p = some (.lst [.str "place", .str z, .int (mvK way k i), .str (strP z (mvK way k i)), .bl true]) → Q (.ref p) H' := by
          intro g2
          rcases h with ⟨i2, e, _, q⟩ | ⟨ni, _⟩
          · cases e
            exact q
          · exact absurd g2 (ni i rfl)
        generalize hT4 : tRet (tLst (tCons (tC (V.str "place")) _)) = T4
        have fin : Good z (mvK way k i) → T4 { nx := fun _ H' => Q .non H', rt := Q } [some (.int way), some (.ref tp), some (.int i), some (.bl true), some (.int (mvK way k i))] H := by
          intro g2
          rw [← hT4]
          exact ⟨_, rfl, tp, _, _, _, rfl, rfl, SqT.of htp, rfl, _, rfl, _, rfl, tp, _, _, _, rfl, rfl, SqT.of htp, rfl, _, rfl, z, _, rfl, g2, zl, fun H' s' => ⟨(by show 5 ≤ sizeLine; decide), fun p np => good g2 p _ (s'.trans (same_nw np)) (s'.free np) upd_same⟩⟩
        have bad : ¬ Good z (mvK way k i) → ∀ p, H p = none → Q (.ref p) (upd H p (.lst [.str "integer", .int i])) := fun ng => odd fun i2 e => by
          cases e
          exact ng
        refine ⟨_, rfl, tp, _, _, _, rfl, rfl, SqT.of htp, rfl, rfl, _, rfl, ite2 (fun h1 => ?_) (fun h1 => ?_)⟩
        · have elo : lowS z = 0 := if_pos (V.str.inj (of_decide_eq_true h1))
          refine ⟨_, rfl, _, _, rfl, rfl, _, rfl, ite2 (fun h2 => ?_) (fun h2 => ?_)⟩
          · refine ⟨_, _, rfl, rfl, _, rfl, ?_⟩
            have h2' := of_decide_eq_true h2
            cases h3 : decide (mvK way k i ≤ 3) with
            | false => exact iteT ⟨_, rfl, (by show 2 ≤ sizeLine; decide), fun p np => bad (fun g2 => (of_decide_eq_false h3) (low.mp g2).2) p np⟩
            | true => exact iteF (fin (low.mpr ⟨by rw [elo]; exact h2', of_decide_eq_true h3⟩))
          · have h2' : ¬ (0 ≤ mvK way k i) := fun x => h2 (decide_eq_true x)
            exact ⟨_, rfl, iteT ⟨_, rfl, (by show 2 ≤ sizeLine; decide), fun p np => bad (fun g2 => h2' (by rw [← elo]; exact (low.mp g2).1)) p np⟩⟩
        · have elo : lowS z = -3 := if_neg fun x => h1 (decide_eq_true (by rw [x]))
          refine ⟨_, rfl, ?_⟩
          refine ⟨_, rfl, _, _, rfl, rfl, _, rfl, ite2 (fun h2 => ?_) (fun h2 => ?_)⟩
          · refine ⟨_, _, rfl, rfl, _, rfl, ?_⟩
            have h2' := of_decide_eq_true h2
            cases h3 : decide (mvK way k i ≤ 3) with
            | false => exact iteT ⟨_, rfl, (by show 2 ≤ sizeLine; decide), fun p np => bad (fun g2 => (of_decide_eq_false h3) (low.mp g2).2) p np⟩
            | true => exact iteF (fin (low.mpr ⟨by rw [elo]; exact h2', of_decide_eq_true h3⟩))
          · have h2' : ¬ (-3 ≤ mvK way k i) := fun x => h2 (decide_eq_true x)
            exact ⟨_, rfl, iteT ⟨_, rfl, (by show 2 ≤ sizeLine; decide), fun p np => bad (fun g2 => h2' (by rw [← elo]; exact (low.mp g2).1)) p np⟩⟩
      clear hT3
      refine ⟨_, rfl, rfl, _, rfl, ite2 (fun h1 => ?_) (fun h1 => ?_)⟩
      · have e : mvK way k i = k - i := if_pos (V.int.inj (of_decide_eq_true h1))
        rw [e] at rest
        exact ⟨_, rfl, tp, _, _, _, rfl, rfl, SqT.of htp, rfl, _, rfl, _, _, rfl, rfl, rest⟩
      · have e : mvK way k i = k + i := if_neg fun x => h1 (decide_eq_true (by rw [x]))
        rw [e] at rest
        exact ⟨_, rfl, tp, _, _, _, rfl, rfl, SqT.of htp, rfl, _, rfl, _, _, rfl, rfl, rest⟩
    | bl b => exact ⟨_, _, _, _, true, rfl, .ty _, .base (.bl b), kit_ty (by decide +kernel), true, rfl, iteT ⟨_, rfl, _, _, _, _, true, rfl, .ty _, .base (.bl b), kit_ty (by decide +kernel), true, rfl, no fun i e => nomatch e⟩⟩
    | str x _ _ => exact ⟨_, _, _, _, false, rfl, .ty _, .base (.str x), kit_ty (by decide +kernel), false, rfl, iteF (no fun i e => nomatch e)⟩
    | non => exact ⟨_, _, _, _, false, rfl, .ty _, .base .non, kit_ty (by decide +kernel), false, rfl, iteF (no fun i e => nomatch e)⟩
    | oth a t ty ki ks => exact ⟨_, _, _, _, false, rfl, .ty _, ty, ki, false, rfl, iteF (no fun i e => nomatch e)⟩
end
end Mz
set_option Elab.async false
set_option linter.all false
set_option maxRecDepth 100000
set_option maxHeartbeats 4000000
namespace Mz
open PySem PySem.Spec PyProof.Rows L2
section
variable {P : Program} {w : World} {K : PySem.W.Frag} {mg : Str → Option Value} {base : Heap}
/-- the defs of + and - -/
structure Ops (P : Program) (w : World) (K : PySem.W.Frag) (mg : Str → Option Value) (base : Heap) (C cI cU fA fR fS : Addr) (fdA fdR fdS : FuncData) : Prop where
  GA : FnOk P w K mg base (L2.CX P w) 5 fA fdA ["self", "other"] (spMov K C cI 1)
  bA : Binds K fdA ["self", "other"] []
  TA : Lty K C .Add fA
  GR : FnOk P w K mg base (L2.CX P w) 6 fR fdR ["self", "other"] (spRadd K C cI)
  bR : Binds K fdR ["self", "other"] []
  rb : PySem.W.findIn K (.ref C) (dunderR "add") = some (some (.ref fR))
  rf : PySem.W.isFn K (.ref fR) = true
  lo1 : PySem.W.subIn K (.ref C) (.type "int") = some false
  lo2 : PySem.W.subIn K (.ref C) (.type "bool") = some false
  GS : FnOk P w K mg base (L2.CX P w) 5 fS fdS ["self", "other"] (spSub K C cI cU)
  bS : Binds K fdS ["self", "other"] []
  TS : Lty K C .Sub fS
/-- properties, str and == of a place -/
structure Plc (P : Program) (w : World) (K : PySem.W.Frag) (mg : Str → Option Value) (base : Heap) (C gb gs pb ps_ fT fE : Addr) (fdb fds fdT fdE : FuncData) : Prop where
  Z : Cpl K mg C
  Y : Pty K C
  pB : PropOf K C "base" pb gb
  Gb : FnOk P w K mg base CX0 1 gb fdb ["self"] (spBase C)
  bb : Binds K fdb ["self"] []
  GbC : FnC P w K mg base 1 gb fdb ["self"] (spBase C)
  GsC : FnC P w K mg base 1 gs fds ["self"] (spShift C)
  pS : PropOf K C "shift" ps_ gs
  Gs : FnOk P w K mg base CX0 1 gs fds ["self"] (spShift C)
  bs : Binds K fds ["self"] []
  GT : FnOk P w K mg base CX0 1 fT fdT ["self"] (spStr C)
  bT : Binds K fdT ["self"] []
  iT : PySem.W.findIn K (.ref C) "__str__" = some (some (.ref fT))
  jT : PySem.W.isFn K (.ref fT) = true
  GE : FnOk P w K mg base CX0 1 fE fdE ["self", "other"] (spEq K C)
  bE : Binds K fdE ["self", "other"] []
  iE : PySem.W.findIn K (.ref C) "__eq__" = some (some (.ref fE))
  jE : PySem.W.isFn K (.ref fE) = true
  hn : PySem.W.findIn K (.ref C) "__ne__" = some (some (.builtin "object.__ne__"))
variable {C cI cU fA fR fS gb gs pb ps_ fT fE fI : Addr} {fdA fdR fdS fdb fds fdT fdE fdI : FuncData} {g2 : List Value → List Value → List Value}
theorem ok_baseC {f : Addr} {fd : FuncData} (F : Fun K "base" "Place.base" (inClass sPlace 2) f fd) (T : Cpl K mg C) : FnC P w K mg base 1 f fd ["self"] (spBase C) := by
  refine fun_okC F scBase (fun vs H Q E h => ?_) (fun cdv A outer s H vs Q p hr h => ?_)
  · obtain ⟨a, z, k, rfl, _⟩ := h
    rfl
  · obtain ⟨a, z, k, rfl, ⟨dx, ha⟩, q⟩ := h
    exact ⟨_, pss_one (ps_ret (pe_fld (pv 0) rfl)), _, rfl, a, C, dx, _, _, rfl, ha, T.cl, T.nB, plF_base, q⟩
theorem ok_shiftC {f : Addr} {fd : FuncData} (F : Fun K "shift" "Place.shift" (inClass sPlace 3) f fd) (T : Cpl K mg C) : FnC P w K mg base 1 f fd ["self"] (spShift C) := by
  refine fun_okC F scShift (fun vs H Q E h => ?_) (fun cdv A outer s H vs Q p hr h => ?_)
  · obtain ⟨a, z, k, rfl, _⟩ := h
    rfl
  · obtain ⟨a, z, k, rfl, ⟨dx, ha⟩, q⟩ := h
    exact ⟨_, pss_one (ps_ret (pe_fld (pv 0) rfl)), _, rfl, a, C, dx, _, _, rfl, ha, T.cl, T.nS, plF_shift, q⟩
theorem scTried : FnScope ["_law_way", "_law_one", "_law_other", "_law_found", "e"] ["_law_way", "_law_one", "_law_other"] (defScope sTried) := ⟨rfl, rfl, rfl, by decide +kernel, rfl, by decide +kernel, by decide +kernel⟩
abbrev rEqO (K : PySem.W.Frag) (C : Addr) : R2 := fun x y H Q => ∃ a dx fs, x = .ref a ∧ H a = some (.ins C dx fs) ∧ Oth K C H y ∧ spEq K C [.ref a, y] H (fun v H2 => ∃ b : Bool, v = .bl b ∧ Q (.bl b) H2) E0
abbrev rNeO (K : PySem.W.Frag) (C : Addr) : R2 := fun x y H Q => ∃ a dx fs, x = .ref a ∧ H a = some (.ins C dx fs) ∧ Oth K C H y ∧ spEq K C [.ref a, y] H (fun v H2 => ∃ b : Bool, v = .bl b ∧ Q (.bl (!b)) H2) E0
theorem Pl.same3 {C a : Addr} {H H' : Hp} {z : Str} {k : Int} (h : Pl C H a z k) (s : Same H H') : Pl C H' a z k := by
  obtain ⟨dx, ha⟩ := h
  exact ⟨dx, s _ _ ha⟩
theorem ok_tried {f : Addr} {fd : FuncData} (F : Fun K "_law_tried" "_law_tried" sTried f fd) (O : Ops P w K mg base C cI cU fA fR fS fdA fdR fdS) (L : Plc P w K mg base C gb gs pb ps_ fT fE fdb fds fdT fdE) (D : Blp mg) (N : Npl K C)
    (M : Mk K C fI) (GI : FnOk P w K mg base CX0 3 fI fdI ["self", "base", "shift"] (spInit C)) (kI2 : KBn K fdI ["self", "base", "shift"] 2 ["shift"] g2 (fun vs zs => vs ++ zs))
    (TI : Xcl K mg "InvalidInteger" cI "value") (TU : Xc2 K mg "Unordered" cU "left" "right") (eI : PySem.W.exmOne K (.ref cI) (.ref cI) = some true) (eU : PySem.W.exmOne K (.ref cU) (.ref cU) = some true) (eX : PySem.W.exmOne K (.ref cU) (.ref cI) = some false) :
    FnOk P w K mg base CX0 7 f fd ["_law_way", "_law_one", "_law_other"] (spTried K C) := by
  refine F.ok scTried (fun vs H Q E h => ?_) (fun cdv A outer s H vs Q E hr h => ?_)
  · obtain ⟨way, a, y, z, k, rfl, _⟩ := h
    rfl
  · obtain ⟨way, a, y, z, k, rfl, pa, g, h⟩ := h
    have nd := scTried.nd
    have hr1 : Room 1 _ := hr.mono (by decide)
    have hr2 : Room 2 _ := hr.mono (by decide)
    have hr4 : Room 4 _ := hr.mono (by decide)
    have hr5 : Room 5 _ := hr.mono (by decide)
    refine ⟨_, pss_cons (ps_try_named rfl rfl nd (fun W pn xe tk _ => pss_one (ps_set (i := 3) nd rfl (Or.inl rfl) (pe_ifExp (pt_cmpR op_eq (pv 0) pe_int (nomark _)) (pe_leftS O.GA hr5 O.bA O.TA (fun σ => passAt tk σ) (pv 1) (pv 2))
          (pe_ifExp (pt_cmpR op_eq (pv 0) pe_int (nomark _)) (pe_backS O.GR hr O.bR O.TA.first O.TA.own O.rb O.rf O.lo1 O.lo2 (fun σ => passAt tk σ) (pv 2) (pv 1)) (pe_leftS O.GS hr5 O.bS O.TS (fun σ => passAt tk σ) (pv 1) (pv 2))))))
        (.one (i := 4) rfl rfl ⟨rfl, by decide, .inl TI.m⟩ (fun a oe cls d pn hz hf => pss_one (ps_ret (pe_lst (pa_cons pe_str (pa_cons (pe_xf TI.xf TI.no hz hf (pv 4)) pa_nil)))))
        (.one (i := 4) rfl rfl ⟨rfl, by decide, .inl TU.m⟩ (fun a oe cls d pn hz hf => pss_one (ps_ret (pe_lst (pa_cons pe_str (pa_cons (pe_lst
            (pa_cons (pe_propC (pin := (a, oe)) (pe_xf TU.xf TU.nf hz hf (pv 4)) L.Z.cl L.pB L.GbC ⟨hr2.dp, hr2.un⟩ List.mem_cons_self L.bb rfl) (pa_cons (pe_propC (pin := (a, oe)) (pe_xf TU.xf TU.nf hz hf (pv 4)) L.Z.cl L.pS L.GsC ⟨hr2.dp, hr2.un⟩ List.mem_cons_self L.bs rfl)
            (pa_cons (pe_propC (pin := (a, oe)) (pe_xf TU.xf TU.ng hz hf (pv 4)) L.Z.cl L.pB L.GbC ⟨hr2.dp, hr2.un⟩ List.mem_cons_self L.bb rfl) (pa_cons (pe_propC (pin := (a, oe)) (pe_xf TU.xf TU.ng hz hf (pv 4)) L.Z.cl L.pS L.GsC ⟨hr2.dp, hr2.un⟩ List.mem_cons_self L.bs rfl) pa_nil))))) pa_nil))))) (.any _))))
      (pss_cons (ps_if (pt_not (pt_val (pe_callB call_isi (by rfl) D.isi (by decide +kernel) (pa_cons (pv 3) (pa_cons (pe_glob (v := .ref C) rfl L.Z.mgC rfl) pa_nil))))) (pss_one (ps_ret (pe_lst (pa_cons pe_str (pa_cons (pv 3) pa_nil))))) pss_nil)
      (pss_one (ps_ret (pe_lst (pa_cons pe_str (pa_cons (pe_prop (pv 3) L.Z.cl L.pB L.Gb hr2 L.bb .nil pass0 rfl) (pa_cons (pe_prop (pv 3) L.Z.cl L.pS L.Gs hr2 L.bs .nil pass0 rfl) (pa_cons (pe_callTy (call_strO L.GT (hr.mono (by decide)) L.bT L.iT L.jT) (by rfl) D.str (by decide +kernel) (pa_cons (pv 3) pa_nil))
        (pa_cons (pe_cmpR (r := rEqO K C) (op_eqO L.GE hr1 L.bE L.iE L.jE) (pv 3) (pe_makeK M GI hr4 (by rfl) L.Z.mgC kI2 pass0 (pa_cons (pe_prop (pv 3) L.Z.cl L.pB L.Gb hr2 L.bb .nil pass0 rfl) pa_nil) (pk_cons (pe_prop (pv 3) L.Z.cl L.pS L.Gs hr2 L.bs .nil pass0 rfl) pk_nil)) (nomark _)) pa_nil))))))))), ?_⟩
    obtain ⟨dx, ha⟩ := id pa
    generalize hT2 : tSeq (tIfS (tNot _) _ _) _ = T2
    have placed : ∀ (m : Int) (p : Addr) (H1 : Hp) (v4 : Option V), Good z m → Same H H1 → H p = none → Pl C H1 p z m → (∀ r H', Same H H' → H r = none → H' r = some (.lst [.str "place", .str z, .int m, .str (strP z m), .bl true]) → Q (.ref r) H') →
        T2 { nx := fun _ H' => Q .non H', rt := Q } [some (.int way), some (.ref a), some y, some (.ref p), v4] H1 := by
      intro m p H1 v4 gm sm np pp q
      rw [← hT2]
      obtain ⟨dp, hp⟩ := id pp
      refine ⟨_, rfl, .ref p, .ref C, .ref C, .ref C, true, rfl, .own C, pp.ty L.Y, kit_self, true, rfl, iteF ?_⟩
      refine ⟨_, rfl, p, dp, _, rfl, hp, p, z, m, rfl, pp, _, rfl, p, dp, _, rfl, hp, p, z, m, rfl, pp, _, rfl, p, dp, _, rfl, hp, p, z, m, rfl, pp, gm, _, rfl, ?_⟩
      refine ⟨_, rfl, _, rfl, p, dp, _, rfl, hp, p, z, m, rfl, pp, _, rfl, p, dp, _, rfl, hp, p, z, m, rfl, pp, rfl, rfl, fun x d1 nx nd1 nn => ?_⟩
      refine ⟨x, d1, z, m, rfl, upd_same, gm.1, gm.2.1, gm.2.2.1, gm.2.2.2.1, gm.2.2.2.2, fun H2 u2 t2 => ⟨rfl, ?_⟩⟩
      have s2 : Same H1 H2 := fun r o h => u2 r o (ne_of_none h nx) (by
        rw [upd_ne (ne_of_none h nx), upd_ne (ne_of_none h nd1)]
        exact h)
      have pp2 := pp.same3 s2
      have px : Pl C H2 x z m := ⟨d1, t2⟩
      refine ⟨p, dp, _, rfl, s2 _ _ hp, ⟨_, px.ty L.Y, by simp [PySem.W.notFirst]⟩, p, z, m, pp2, .inl ⟨x, z, m, rfl, px, _, rfl, ?_⟩⟩
      rw [decide_eq_true rfl, decide_eq_true rfl]
      exact ⟨(by show 5 ≤ sizeLine; decide), fun r nr => q r _ ((sm.trans s2).trans (same_nw nr)) ((sm.trans s2).free nr) upd_same⟩
    have numbered : ∀ (j : Int) (H1 : Hp) (v4 : Option V), H1 = H → (∀ r H', Same H H' → H r = none → H' r = some (.lst [.str "number", .int j]) → Q (.ref r) H') →
        T2 { nx := fun _ H' => Q .non H', rt := Q } [some (.int way), some (.ref a), some y, some (.int j), v4] H1 := by
      intro j H1 v4 e q
      subst e
      rw [← hT2]
      exact ⟨_, rfl, .int j, .ref C, _, .ref C, false, rfl, .own C, .base (.int j), N.int, false, rfl, iteT ⟨_, rfl, (by show 2 ≤ sizeLine; decide), fun r nr => q r _ (same_nw nr) nr upd_same⟩⟩
    clear hT2
    have moved : ∀ (sg : Int) (QQ : VK) (WW : XK), (∀ i, k + sg * i = mvK way k i) → Kd K H y → Out way z k y H Q →
        (∀ m p H1, Good z m → Same H H1 → H p = none → Pl C H1 p z m → (∀ r H', Same H H' → H r = none → H' r = some (.lst [.str "place", .str z, .int m, .str (strP z m), .bl true]) → Q (.ref r) H') → QQ (.ref p) H1) →
        (∀ d H', H d = none → Same H H' → H' d = some (.xd [("value", y)]) → (∀ p H'', Same H' H'' → H' p = none → H'' p = some (.lst [.str "integer", y]) → Q (.ref p) H'') → WW (.ref cI) (some d) H') →
        spMov K C cI sg [.ref a, y] H QQ WW := by
      intro sg QQ WW em kd o hq hw
      refine ⟨a, z, k, y, rfl, pa, g, kd, fun i ei g2 p H' np sm pp => ?_, fun ni d H' nd2 sm hd => ?_⟩
      · subst ei
        rcases o with ⟨i2, e, gm, q⟩ | ⟨nj, _⟩
        · cases e
          rw [em] at pp
          exact hq _ p H' gm sm np pp q
        · exact absurd (by rw [← em]; exact g2) (nj i rfl)
      · refine hw d H' nd2 sm hd fun p H'' s2 np hp => ?_
        rcases o with ⟨i2, e, gm, _⟩ | ⟨_, q⟩
        · exact absurd (by rw [em]; exact gm) (ni i2 e)
        · exact q p H'' (sm.trans s2) (sm.free np) hp
    rcases h with ⟨kd, hw, o⟩ | ⟨rfl, b, z2, k2, rfl, pb, g2, h⟩
    · rcases hw with ⟨rfl, ro⟩ | ⟨rfl, hy⟩ | ⟨rfl, oty, ro⟩
      · refine ⟨_, rfl, rfl, _, rfl, iteT ⟨_, rfl, _, rfl, a, dx, _, rfl, ha, ro, moved 1 _ _ (fun i => ?_) kd o (fun m p H1 gm sm np pp q => placed m p H1 _ gm sm np pp q) (fun d H' nd2 sm hd q => ?_)⟩⟩
        · show k + 1 * i = (if (0 : Int) = 2 then k - i else k + i)
          rw [if_neg (by decide)]
          omega
        · exact ⟨true, eI, fun _ x nx => ⟨_, rfl, rfl, rfl, d, _, y, rfl, hd, rfl, (by show 2 ≤ sizeLine; decide), fun r nr => q r _ (same_nw nr) nr upd_same⟩, fun x => Bool.noConfusion x⟩
      · refine ⟨_, rfl, rfl, _, rfl, iteF ⟨_, rfl, rfl, _, rfl, iteT ⟨_, rfl, _, rfl, a, dx, _, rfl, ha, hy, ⟨a, y, rfl, hy⟩, moved 1 _ _ (fun i => ?_) kd o (fun m p H1 gm sm np pp q => placed m p H1 _ gm sm np pp q) (fun d H' nd2 sm hd q => ?_)⟩⟩⟩
        · show k + 1 * i = (if (1 : Int) = 2 then k - i else k + i)
          rw [if_neg (by decide)]
          omega
        · exact ⟨true, eI, fun _ x nx => ⟨_, rfl, rfl, rfl, d, _, y, rfl, hd, rfl, (by show 2 ≤ sizeLine; decide), fun r nr => q r _ (same_nw nr) nr upd_same⟩, fun x => Bool.noConfusion x⟩
      · refine ⟨_, rfl, rfl, _, rfl, iteF ⟨_, rfl, rfl, _, rfl, iteF ⟨_, rfl, _, rfl, a, dx, _, rfl, ha, ro, .inl ⟨a, y, rfl, oty, moved (-1) _ _ (fun i => ?_) kd o (fun m p H1 gm sm np pp q => placed m p H1 _ gm sm np pp q) (fun d H' nd2 sm hd q => ?_)⟩⟩⟩⟩
        · show k + -1 * i = (if (2 : Int) = 2 then k - i else k + i)
          rw [if_pos rfl]
          omega
        · exact ⟨true, eI, fun _ x nx => ⟨_, rfl, rfl, rfl, d, _, y, rfl, hd, rfl, (by show 2 ≤ sizeLine; decide), fun r nr => q r _ (same_nw nr) nr upd_same⟩, fun x => Bool.noConfusion x⟩
    · refine ⟨_, rfl, rfl, _, rfl, iteF ⟨_, rfl, rfl, _, rfl, iteF ⟨_, rfl, _, rfl, a, dx, _, rfl, ha, .inr (pb.ty L.Y), .inr ⟨a, b, z, k, z2, k2, rfl, pa, pb, fun e => ?_, fun ne d H' nd2 sm hd => ?_⟩⟩⟩⟩
      · rcases h with ⟨_, q⟩ | ⟨ne, _⟩
        · exact numbered _ H _ rfl q
        · exact absurd e ne
      · rcases h with ⟨e, _⟩ | ⟨_, q⟩
        · exact absurd e ne
        · refine ⟨false, eX, fun x => Bool.noConfusion x, fun _ => ⟨true, eU, fun _ x nx => ?_, fun x => Bool.noConfusion x⟩⟩
          have pa' := pa.same3 sm
          have pb' := pb.same3 sm
          obtain ⟨d1, ha'⟩ := id pa'
          obtain ⟨d2, hb'⟩ := id pb'
          refine ⟨_, rfl, rfl, rfl, d, _, .ref a, rfl, hd, rfl, a, d1, _, rfl, ha', a, z, k, rfl, pa', ?_⟩
          refine ⟨_, rfl, rfl, rfl, d, _, .ref a, rfl, hd, rfl, a, d1, _, rfl, ha', a, z, k, rfl, pa', ?_⟩
          refine ⟨_, rfl, rfl, rfl, d, _, .ref b, rfl, hd, rfl, b, d2, _, rfl, hb', b, z2, k2, rfl, pb', ?_⟩
          refine ⟨_, rfl, rfl, rfl, d, _, .ref b, rfl, hd, rfl, b, d2, _, rfl, hb', b, z2, k2, rfl, pb', ?_⟩
          refine ⟨(by show 4 ≤ sizeLine; decide), fun p2 np2 => ⟨(by show 2 ≤ sizeLine; decide), fun r nr => ?_⟩⟩
          have s2 : Same H' (upd H' p2 (.lst [.str z, .int k, .str z2, .int k2])) := same_nw np2
          refine q r p2 _ (sm.trans (s2.trans (same_nw nr))) (sm.free (s2.free nr)) upd_same ?_
          rw [upd_ne (ne_of_none upd_same nr)]
          exact upd_same
end
end Mz
set_option Elab.async false
set_option linter.all false
set_option maxRecDepth 100000
set_option maxHeartbeats 4000000
namespace Mz
open PySem PySem.Spec PyProof.Rows L2
/-! repr of what is told -/
/-- repr of a list of a text and an empty dict -/
def rRepr0 : List V → Hp → VK → Prop := fun xs H Q => ∃ (p : Addr) (r : Str) (a : Addr), xs = [.ref p] ∧ H p = some (.lst [.str r, .ref a]) ∧ H a = some (.dK []) ∧
  (reprText r).length ≤ 1000 ∧ Q (.str (listText [reprText r, dictText []])) H
theorem call_repr0 {X : Cx} (g0 : X.A.guards = some []) (hu : X.A.units + 64 < cLine) : CallR X (.builtin "repr") rRepr0 := by
  intro pins s σ H xs us Q I rv h
  obtain ⟨p, r, a, rfl, hp, ha, hr, q⟩ := h
  obtain ⟨u, rfl, rx⟩ := vals1 rv
  obtain rfl : u = Value.ref p := rx
  have hsz : (listText [reprText r, dictText []]).length ≤ sizeLine := by
    rw [list2_len]
    have e1 : (dictText []).length ≤ 10 := by decide +kernel
    have e2 : 2000 ≤ sizeLine := by decide
    omega
  have ends : ∀ h' t tk, (∀ b o, s.heap.get? b = some o → h'.get? b = some o) → EP X pins σ Q (.str (listText [reprText r, dictText []]) t) { s with heap := h', toks := tk } := fun h' t tk hk => ⟨.str _, H, I.kept hk, ⟨_, rfl⟩, q⟩
  obtain ⟨_, its, n, vl, hl⟩ := (show ObjOk X.prog X.w H s.heap p (.lst [.str r, .ref a]) from I.hok p _ hp)
  obtain ⟨_, hsys, vs, kv, o, es, ep, ho, hx, hd, _, hpair, _⟩ := dk_of I.hok ha
  match its, vl with
  | [u1, u2], .cons r1 (.cons r2 .nil) =>
  obtain ⟨t1, rfl⟩ := r1
  obtain rfl : u2 = Value.ref a := r2
  match vs, kv with
  | [], .nil =>
  have none_ : es.toList = [] := by
    generalize es.toList = l at hpair ⊢
    cases hpair
    rfl
  have hE : ReprEntriesK X.prog X.w [] s.heap 0 es.toList [] := by
    rw [none_]
    exact ReprEntriesK.of_two [] [] [] .nil .nil
  have dk : ReprK X.prog X.w [a] s.heap 1 (.ref a) (dictText []) := ReprK.dict ho hx.1 hd hsys (by simp) hE
  have sk : ReprK X.prog X.w [a] s.heap 1 (.str r t1) (reprText r) := .of_is (ReprIs.str r t1 (Nat.le_trans hr (by decide))) _ _ _
  have npa : p ∉ [a] := by
    intro hm
    rw [List.mem_singleton.mp hm, ha] at hp
    cases hp
  refine call_repr_slot (T := "list") (by omega) ⟨_, hl, rfl⟩ F.slot_list_repr.toG ?_
  refine call_list_reprK (as := [a]) (d := 1) (ts := [reprText r, dictText []]) hl rfl rfl npa rfl (fun j y hy => ?_) (A := X.A.in1) g0 (fun b _ => Clear.nil b) (by show X.A.units + 1 + 2 < cLine; omega) (fun _ _ z => z) (fun h' t tk hk => ⟨_, _, rfl, ends h' t tk hk⟩) hsz
  match j, hy with
  | 0, hy =>
    cases hy
    exact ⟨_, rfl, sk⟩
  | 1, hy =>
    cases hy
    exact ⟨_, rfl, dk⟩
  | j + 2, hy =>
    exact absurd hy (by simp)
def rReprU4 (X : Cx) : List V → Hp → VK → Prop := fun xs H Q => rReprD X.K xs H Q ∨ rReprO X 1 xs H Q ∨ rRepr0 xs H Q
theorem call_reprU4 {X : Cx} (g0 : X.A.guards = some []) (hr : Room 3 X.A) : CallR X (.builtin "repr") (rReprU4 X) := by
  intro pins s σ H xs us Q I r h
  rcases h with h | h | h
  · exact call_reprD g0 hr.units pins s σ H xs us Q I r h
  · exact call_reprO g0 hr pins s σ H xs us Q I r h
  · exact call_repr0 g0 hr.units pins s σ H xs us Q I r h
theorem same_of {b : Addr} {H H' : Hp} (h : H b = none) (k : Kp b H H') : Same H H' := fun q o e => k q o (ne_of_none e h) e
theorem ne_not (u : V) : (!decide (u = u)) = false := by rw [decide_eq_true rfl]; rfl
/-- a list of a word and data -/
def wD (w : Str) (d : PyData) : PyData := .list [.str w, d]
theorem wd_fit {w : Str} {d : PyData} (hw : (reprText w).length ≤ 20) (h : Fit d) : PyData.showable (wD w d) = true ∧ PyData.hasDict (wD w d) = false ∧ PyData.depth (wD w d) < 60 ∧ (PyData.shown (wD w d)).length ≤ sizeLine := by
  obtain ⟨h1, h2, h3, h4⟩ := h
  refine ⟨?_, ?_, ?_, ?_⟩
  · simp [wD, PyData.showable, PyData.showableAll, h1]
  · simp [wD, PyData.hasDict, PyData.hasDictAll, h2]
  · simp [wD, PyData.depth, PyData.depthAll]
    omega
  · have e : PyData.shown (wD w d) = listText [reprText w, PyData.shown d] := by
      simp [wD, PyData.shown, PyData.shownAll]
    rw [e, list2_len]
    have h6 : 20000 ≤ sizeLine := by decide
    omega
theorem wd_dp {K : PySem.W.Frag} {H : Hp} {p : Addr} {v : V} {d : PyData} {w : Str} (h : H p = some (.lst [.str w, v])) (hd : Dp K H v d) : Dp K H (.ref p) (wD w d) := .lst (SqL.of h) (.cons (.str _) (.cons hd .nil))
theorem strP_sm {z : Str} {k : Int} (g : Good z k) : Sm 1002 (strP z k) := by
  by_cases hz : z = ""
  · subst hz
    have h0 : 0 ≤ k := g.2.2.2.1
    have h1 := g.2.2.2.2
    unfold Sm
    rcases (show k = 0 ∨ k = 1 ∨ k = 2 ∨ k = 3 by omega) with rfl | rfl | rfl | rfl
    all_goals decide +kernel
  · unfold strP
    rw [if_neg hz]
    by_cases hk : k = 0
    · rw [if_pos hk]
      exact Sm.mono (n := 1000) ⟨g.1, g.2.1⟩ (by decide)
    · rw [if_neg hk]
      have hs : Sm 2 (signS k) := by
        rcases small_six g.lo g.hi hk with rfl | rfl | rfl | rfl | rfl | rfl
        all_goals (unfold Sm; decide +kernel)
      have h0 : Sm 0 ("" : Str) := by
        unfold Sm
        decide +kernel
      exact Sm.mono ((h0.app (n := 0) (m := 1000) ⟨g.1, g.2.1⟩).app hs) (by decide)
theorem show_data {X : Cx} {w : Str} {v : V} {H1 : Hp} {d : PyData} (hw : (reprText w).length ≤ 20) (h : Fl H1 v d) (hf : Fit d) :
    ∃ t : Str, ∀ (H2 : Hp) (p : Addr) (QQ : VK), Same H1 H2 → H2 p = some (.lst [.str w, v]) → (∀ H', Same H2 H' → QQ (.str t) H') → rReprU4 X [.ref p] H2 QQ := by
  obtain ⟨f1, f2, f3, f4⟩ := wd_fit hw hf
  exact ⟨_, fun H2 p QQ s e q => .inl ⟨.ref p, wD w d, rfl, wd_dp e (h.at fun a _ o e => s a o e).dp, f1, f2, f3, f4, q H2 (Same.refl H2)⟩⟩
theorem show_sv {X : Cx} {w : Str} {v : V} {H1 : Hp} (hw : (reprText w).length ≤ 20) (h : Sv X.K H1 v) :
    ∃ t : Str, ∀ (H2 : Hp) (p : Addr) (QQ : VK), Same H1 H2 → H2 p = some (.lst [.str w, v]) → (∀ H', Same H2 H' → QQ (.str t) H') → rReprU4 X [.ref p] H2 QQ := by
  obtain ⟨⟨d, h1, h2⟩, _⟩ := h
  exact show_data hw h1 h2
theorem show_step {X : Cx} {C fR : Addr} {fdR : FuncData} {w : Str} {v : V} {H1 : Hp} (GR : FnOk X.prog X.w X.K X.mg X.base CX0 1 fR fdR ["self"] (spRepr C)) (bR : Binds X.K fdR ["self"] []) (iR : PySem.W.findIn X.K (.ref C) "__repr__" = some (some (.ref fR))) (jR : PySem.W.isFn X.K (.ref fR) = true)
    (hw : (reprText w).length ≤ 20) (h : Stp X.K C H1 v) : ∃ t : Str, ∀ (H2 : Hp) (p : Addr) (QQ : VK), Same H1 H2 → H2 p = some (.lst [.str w, v]) → (∀ H', Same H2 H' → QQ (.str t) H') → rReprU4 X [.ref p] H2 QQ := by
  rcases h with h | ⟨a, rfl, ha⟩ | ⟨a, rfl, pa⟩
  · exact show_sv hw h
  · exact ⟨_, fun H2 p QQ s e q => .inr (.inr ⟨p, w, a, rfl, e, s _ _ ha, Nat.le_trans hw (by decide), q H2 (Same.refl H2)⟩)⟩
  · refine ⟨listText [reprText w, reprP "" 1], fun H2 p QQ s e q => .inr (.inl ⟨p, .str w, [.ref a], [reprText w, reprP "" 1], fun H => Pl C H a "" 1, rfl, e, fun H H' s ⟨dx, h⟩ => ⟨dx, s _ _ h⟩, ?_, rfl, ?_, ?_, q⟩)⟩
    · obtain ⟨dx, h⟩ := pa
      exact ⟨dx, s _ _ h⟩
    · intro i u hu
      match i, hu with
      | 0, hu =>
        cases hu
        exact ⟨_, rfl, shv_str (Nat.le_trans hw (by decide))⟩
      | 1, hu =>
        cases hu
        refine ⟨_, rfl, shv_own (j := 0) GR bR iR jR fun H h => ?_⟩
        obtain ⟨dx, hx⟩ := id h
        exact ⟨dx, _, hx, a, "", 1, rfl, h, good_num (by decide) (by decide), rfl, Same.refl H⟩
      | i + 2, hu => exact absurd hu (by simp)
    · rw [list2_len]
      have h1 : (reprP "" 1).length ≤ 100 := by decide +kernel
      have h2 : 1000 ≤ sizeLine := by decide
      omega
/-- data in a list, shown -/
theorem show_dat {X : Cx} {d : PyData} (h1 : PyData.showable d = true) (h2 : PyData.hasDict d = false) (h3 : PyData.depth d < 60) (h4 : (PyData.shown d).length ≤ sizeLine) {H2 : Hp} {p : Addr} {QQ : VK} (dp : Dp X.K H2 (.ref p) d) (q : ∀ H', Same H2 H' → QQ (.str (PyData.shown d)) H') : rReprU4 X [.ref p] H2 QQ :=
  .inl ⟨.ref p, d, rfl, dp, h1, h2, h3, h4, q H2 (Same.refl H2)⟩
def placeD (z : Str) (m : Int) : PyData := .list [.str "place", .str z, .int m, .str (strP z m), .bool true]
theorem list5_len (a b c d e : Str) : (listText [a, b, c, d, e]).length = a.length + b.length + c.length + d.length + e.length + 10 := by
  show (((((("[" ++ ((if 0 > 0 then ", " else "" : String) : Str) ++ a) ++ ((if 1 > 0 then ", " else "" : String) : Str) ++ b) ++ ((if 2 > 0 then ", " else "" : String) : Str) ++ c) ++ ((if 3 > 0 then ", " else "" : String) : Str) ++ d) ++ ((if 4 > 0 then ", " else "" : String) : Str) ++ e) ++ "]" : Str).length = _
  rw [if_neg (by decide), if_pos (by decide), if_pos (by decide), if_pos (by decide), if_pos (by decide)]
  simp only [strLen_append]
  have e1 : (("[" : String) : Str).length = 1 := by decide +kernel
  have e2 : (("" : String) : Str).length = 0 := by decide +kernel
  have e3 : ((", " : String) : Str).length = 2 := by decide +kernel
  have e4 : (("]" : String) : Str).length = 1 := by decide +kernel
  rw [e1, e2, e3, e4]
  omega
theorem list4_len (a b c d : Str) : (listText [a, b, c, d]).length = a.length + b.length + c.length + d.length + 8 := by
  show ((((("[" ++ ((if 0 > 0 then ", " else "" : String) : Str) ++ a) ++ ((if 1 > 0 then ", " else "" : String) : Str) ++ b) ++ ((if 2 > 0 then ", " else "" : String) : Str) ++ c) ++ ((if 3 > 0 then ", " else "" : String) : Str) ++ d) ++ "]" : Str).length = _
  rw [if_neg (by decide), if_pos (by decide), if_pos (by decide), if_pos (by decide)]
  simp only [strLen_append]
  have e1 : (("[" : String) : Str).length = 1 := by decide +kernel
  have e2 : (("" : String) : Str).length = 0 := by decide +kernel
  have e3 : ((", " : String) : Str).length = 2 := by decide +kernel
  have e4 : (("]" : String) : Str).length = 1 := by decide +kernel
  rw [e1, e2, e3, e4]
  omega
theorem place_fit {z : Str} {m : Int} (g : Good z m) : PyData.showable (placeD z m) = true ∧ PyData.hasDict (placeD z m) = false ∧ PyData.depth (placeD z m) < 60 ∧ (PyData.shown (placeD z m)).length ≤ sizeLine := by
  refine ⟨?_, rfl, by simp [placeD, PyData.depth, PyData.depthAll], ?_⟩
  · have h := int_small g.lo g.hi
    simp [placeD, PyData.showable, PyData.showableAll, h]
  · have e : PyData.shown (placeD z m) = listText [reprText "place", reprText z, Str.ofString (toString m), reprText (strP z m), PyData.shown (.bool true)] := by
      simp [placeD, PyData.shown, PyData.shownAll]
    rw [e, list5_len]
    have h1 := repr_len (z := z) (n := 1000) ⟨g.1, g.2.1⟩
    have h2 := kshift_text g.lo g.hi
    have h3 : (reprText "place").length ≤ 20 := by decide +kernel
    have h4 := repr_len (strP_sm g)
    have h6 : (PyData.shown (.bool true)).length ≤ 20 := by simp only [PyData.shown]; decide +kernel
    have h5 : 30000 ≤ sizeLine := by decide
    omega
theorem place_dp {K : PySem.W.Frag} {H : Hp} {p : Addr} {z : Str} {m : Int} (h : H p = some (.lst [.str "place", .str z, .int m, .str (strP z m), .bl true])) : Dp K H (.ref p) (placeD z m) := .lst (SqL.of h) (.cons (.str _) (.cons (.str _) (.cons (.int _) (.cons (.str _) (.cons (.bl _) .nil)))))
/-- what a move tells is shown as one text, whoever tells it -/
theorem out_show {X : Cx} {C fR : Addr} {fdR : FuncData} {way : Int} {z : Str} {k : Int} {v : V} {H1 : Hp} (GR : FnOk X.prog X.w X.K X.mg X.base CX0 1 fR fdR ["self"] (spRepr C)) (bR : Binds X.K fdR ["self"] []) (iR : PySem.W.findIn X.K (.ref C) "__repr__" = some (some (.ref fR))) (jR : PySem.W.isFn X.K (.ref fR) = true)
    (h : Stp X.K C H1 v) : ∃ t : Str, ∀ (H2 : Hp) (QQ : VK), Same H1 H2 → (∀ H', Same H2 H' → QQ (.str t) H') → Out way z k v H2 (fun x H3 => rReprU4 X [x] H3 QQ) := by
  by_cases hg : ∃ i, v = .int i ∧ Good z (mvK way k i)
  · obtain ⟨i, e, g⟩ := hg
    obtain ⟨f1, f2, f3, f4⟩ := place_fit g
    exact ⟨_, fun H2 QQ s q => .inl ⟨i, e, g, fun p H' s2 np hp => show_dat f1 f2 f3 f4 (place_dp hp) fun H'' s3 => q H'' (s2.trans s3)⟩⟩
  · obtain ⟨t, ht⟩ := show_step (w := "integer") GR bR iR jR (by decide +kernel) h
    exact ⟨t, fun H2 QQ s q => .inr ⟨fun i e g => hg ⟨i, e, g⟩, fun p H' s2 np hp => ht H' p QQ (s.trans s2) hp fun H'' s3 => q H'' (s2.trans s3)⟩⟩
/-- a number between -6 and 6 -/
theorem int_six {i : Int} (h0 : -6 ≤ i) (h1 : i ≤ 6) : i.natAbs.log2 < 1920 ∧ (Str.ofString (toString i)).length ≤ 10 := by
  have all : ∀ j : Fin 13, (((j.val : Nat) : Int) - 6).natAbs.log2 < 1920 ∧ (Str.ofString (toString (((j.val : Nat) : Int) - 6))).length ≤ 10 := by decide +kernel
  obtain ⟨j, hj⟩ := Int.eq_ofNat_of_zero_le (show 0 ≤ i + 6 by omega)
  have e : i = ((j : Nat) : Int) - 6 := by omega
  rw [e]
  exact all ⟨j, by omega⟩
theorem num_fit {i : Int} (h0 : -6 ≤ i) (h1 : i ≤ 6) : Fit (.int i) := by
  obtain ⟨a, b⟩ := int_six h0 h1
  exact ⟨by simpa [PyData.showable] using a, rfl, by simp [PyData.depth], by simpa [PyData.shown] using Nat.le_trans b (show 10 ≤ 2000 by decide)⟩
def fourD (z : Str) (k : Int) (y : Str) (i : Int) : PyData := .list [.str z, .int k, .str y, .int i]
def unordD (z : Str) (k : Int) (y : Str) (i : Int) : PyData := .list [.str "unordered", fourD z k y i]
theorem four_dp {K : PySem.W.Frag} {H : Hp} {p : Addr} {z y : Str} {k i : Int} (h : H p = some (.lst [.str z, .int k, .str y, .int i])) : Dp K H (.ref p) (fourD z k y i) := .lst (SqL.of h) (.cons (.str _) (.cons (.int _) (.cons (.str _) (.cons (.int _) .nil))))
theorem four_shaped {z y : Str} {k i : Int} (hz : PyData.strOk z = true) (hy : PyData.strOk y = true) : SeqAt.shaped (fourD z k y i) = true := by
  unfold SeqAt.shaped fourD
  simp [PyData.canLay0, PyData.canLayAll0, PyData.depth, PyData.depthAll, hz, hy]
theorem four_eqv {z y : Str} {k i : Int} : PyData.eqv (fourD z k y i) (fourD z k y i) = true := by
  unfold fourD
  simp [PyData.eqv, PyData.eqvAll]
theorem unord_fit {z y : Str} {k i : Int} (g : Good z k) (g2 : Good y i) : PyData.showable (unordD z k y i) = true ∧ PyData.hasDict (unordD z k y i) = false ∧ PyData.depth (unordD z k y i) < 60 ∧ (PyData.shown (unordD z k y i)).length ≤ sizeLine := by
  refine ⟨?_, rfl, by simp [unordD, fourD, PyData.depth, PyData.depthAll], ?_⟩
  · have h := int_small g.lo g.hi
    have h2 := int_small g2.lo g2.hi
    simp [unordD, fourD, PyData.showable, PyData.showableAll, h, h2]
  · have e : PyData.shown (unordD z k y i) = listText [reprText "unordered", listText [reprText z, Str.ofString (toString k), reprText y, Str.ofString (toString i)]] := by
      simp [unordD, fourD, PyData.shown, PyData.shownAll]
    rw [e, list2_len, list4_len]
    have h1 := repr_len (z := z) (n := 1000) ⟨g.1, g.2.1⟩
    have h2 := kshift_text g.lo g.hi
    have h3 := repr_len (z := y) (n := 1000) ⟨g2.1, g2.2.1⟩
    have h4 := kshift_text g2.lo g2.hi
    have h5 : 30000 ≤ sizeLine := by decide
    have h6 : (reprText "unordered").length ≤ 20 := by decide +kernel
    omega
/-- lists, tuples and dicts are no places -/
structure Npc (K : PySem.W.Frag) (C : Addr) : Prop where
  lst : PySem.W.kitOne K (.type "list") (.ref C) = some false
  tup : PySem.W.kitOne K (.type "tuple") (.ref C) = some false
  dct : PySem.W.kitOne K (.type "dict") (.ref C) = some false
/-- what the built-in types say of an operator -/
structure Rts (K : PySem.W.Frag) (C : Addr) (op : Operator) : Prop where
  non : Rty K C op "NoneType"
  bool : Rty K C op "bool"
  int : Rty K C op "int"
  str : Rty K C op "str"
  lst : Rty K C op "list"
  tup : Rty K C op "tuple"
  dct : Rty K C op "dict"
theorem fl_ty {K : PySem.W.Frag} {C : Addr} {H : Hp} {v : V} {d : PyData} (N : Npl K C) (M : Npc K C) (h : Fl H v d) : ∃ T, TyX K H v (.type T) ∧ PySem.W.kitOne K (.type T) (.ref C) = some false ∧ ∀ op, Rts K C op → Rty K C op T := by
  cases h with
  | flat h =>
    cases h with
    | non => exact ⟨_, .base .non, N.non, fun _ R => R.non⟩
    | bl b => exact ⟨_, .base (.bl b), N.bool, fun _ R => R.bool⟩
    | int i => exact ⟨_, .base (.int i), N.int, fun _ R => R.int⟩
    | str x => exact ⟨_, .base (.str x), N.str, fun _ R => R.str⟩
  | lst h _ => exact ⟨_, .base (.lst h), M.lst, fun _ R => R.lst⟩
  | tup h _ => exact ⟨_, .base (.tup h), M.tup, fun _ R => R.tup⟩
/-- what a step is -/
theorem stp_is {K : PySem.W.Frag} {C : Addr} {H : Hp} {v : V} (Y : Pty K C) (ki : PySem.W.kitOne K (.ref C) (.type "int") = some false) (ks : PySem.W.kitOne K (.ref C) (.type "str") = some false) (N : Npl K C) (M : Npc K C) (h : Stp K C H v) :
    Kd K H v ∧ (∀ op, Rts K C op → Rok K C op H v) ∧ (Oty K C H v ∨ ∃ a, v = .ref a ∧ Pl C H a "" 1) := by
  rcases h with ⟨⟨d, hd, _⟩, kd⟩ | ⟨a, rfl, ha⟩ | ⟨a, rfl, pa⟩
  · obtain ⟨T, ty, kt, R⟩ := fl_ty N M hd
    exact ⟨kd, fun op r => .inl ⟨T, ty, R op r⟩, .inl ⟨_, ty, kt⟩⟩
  · exact ⟨.oth a _ (.base (.dK ha)) (kit_ty (by decide +kernel)) (kit_ty (by decide +kernel)), fun op r => .inl ⟨_, .base (.dK ha), r.dct⟩, .inl ⟨_, .base (.dK ha), M.dct⟩⟩
  · exact ⟨.oth a _ (pa.ty Y) ki ks, fun op r => .inr (pa.ty Y), .inr ⟨a, rfl, pa⟩⟩
end Mz
set_option Elab.async false
set_option linter.all false
set_option maxRecDepth 100000
set_option maxHeartbeats 4000000
namespace Mz
open PySem PySem.Spec PyProof.Rows L2
def spLaw (K : PySem.W.Frag) : Sp := fun vs H Q _ => ∃ (a : Addr) (ns : List Int), vs = [.ref a] ∧ SqL K H a (ns.map V.int) ∧ ns.length ≤ 63 ∧ ∀ H', Q (.bl true) H'
/-- the two pairs and their places -/
def Two (C : Addr) (H : Hp) (tp tf p1 p2 : Addr) (z : Str) (k : Int) (y : Str) (j : Int) : Prop := H tp = some (.tup [.str z, .int k]) ∧ H tf = some (.tup [.str y, .int j]) ∧ Pl C H p1 z k ∧ Pl C H p2 y j
theorem Two.same {C : Addr} {H H' : Hp} {tp tf p1 p2 : Addr} {z y : Str} {k j : Int} (s : Same H H') (h : Two C H tp tf p1 p2 z k y j) : Two C H' tp tf p1 p2 z k y j := by
  obtain ⟨h1, h2, h3, h4⟩ := h
  exact ⟨s _ _ h1, s _ _ h2, h3.same3 s, h4.same3 s⟩
theorem Two.kp {C b : Addr} {n : Nat} {H H' : Hp} {tp tf p1 p2 : Addr} {z y : Str} {k j : Int} (s : Kp b H H') (hb : Bx H b n) (h : Two C H tp tf p1 p2 z k y j) : Two C H' tp tf p1 p2 z k y j := by
  obtain ⟨h1, h2, ⟨d1, h3⟩, ⟨d2, h4⟩⟩ := h
  obtain ⟨_, _, _, eb, _⟩ := hb
  have ne : ∀ {q : Addr} {o : HO}, H q = some o → (∀ xs, o ≠ .lst xs) → q ≠ b := fun e no x => by
    subst x
    rw [eb] at e
    cases e
    exact no _ rfl
  exact ⟨s _ _ (ne h1 fun _ e => nomatch e) h1, s _ _ (ne h2 fun _ e => nomatch e) h2, ⟨d1, s _ _ (ne h3 fun _ e => nomatch e) h3⟩, ⟨d2, s _ _ (ne h4 fun _ e => nomatch e) h4⟩⟩
section
variable {P : Program} {w : World} {K : PySem.W.Frag} {mg : Str → Option Value} {base : Heap}
variable {C cI cU fA fR fS gb gs pb ps_ fT fE fI : Addr} {fdA fdR fdS fdb fds fdT fdE fdI : FuncData} {g2 : List Value → List Value → List Value}
abbrev NLaw : List Str := ["_law_script", "_law_k", "_law_box_here", "_law_pair_here", "_law_far", "_law_one", "_law_other", "_law_turn", "_law_step_here", "_law_way", "_law_due_here"]
theorem scLaw : FnScope NLaw ["_law_script"] (defScope sLaw) := ⟨rfl, rfl, rfl, by decide +kernel, rfl, by decide +kernel, by decide +kernel⟩
theorem ok_law {f fC fB fP fS2 fTr fD fX fRp ft : Addr} {fd fdC fdB fdP fdS2 fdTr fdD fdX fdRp fdt : FuncData}
    (F : Fun K "law" "law" sLaw f fd) (B : Blt mg) (D : Blp mg) (N : Npl K C) (NM : Npc K C) (ki : PySem.W.kitOne K (.ref C) (.type "int") = some false) (ks : PySem.W.kitOne K (.ref C) (.type "str") = some false) (mR : mg "repr" = none)
    (T : Tk P w K mg base ft fdt) (GC : C1 P w K mg base "_law_cell" 1 ["_law_script", "_law_k"] (spCell K) fC fdC) (GB : C1 P w K mg base "_law_box" 1 ["_law_cell_here"] spBox fB fdB) (GP : C1 P w K mg base "_law_pair" 3 ["_law_box_here"] spPair fP fdP) (GS : C1 P w K mg base "_law_step" 5 ["_law_box_here"] (spStep4 K C) fS2 fdS2)
    (GTr : C1 P w K mg base "_law_tried" 7 ["_law_way", "_law_one", "_law_other"] (spTried K C) fTr fdTr) (GD : C1 P w K mg base "_law_due" 2 ["_law_way", "_law_pair_here", "_law_step_here"] (spDue4 K) fD fdD) (GX : C1 P w K mg base "_law_text" 1 ["_law_root", "_law_many"] spText3 fX fdX)
    (M : Mk K C fI) (GI : FnOk P w K mg base CX0 3 fI fdI ["self", "base", "shift"] (spInit C)) (kI2 : KBn K fdI ["self", "base", "shift"] 2 ["shift"] g2 (fun vs zs => vs ++ zs))
    (O : Ops P w K mg base C cI cU fA fR fS fdA fdR fdS) (L : Plc P w K mg base C gb gs pb ps_ fT fE fdb fds fdT fdE) (RA : Rts K C .Add) (RS : Rts K C .Sub)
    (hmro : (PySem.W.clsIn K C).map (·.mro) = some [.ref C, .type "object"]) (i1 : PySem.W.findIn K (.ref C) (dunderI Operator.Add.info.2) = some none) (i2 : PySem.W.findIn K (.type "object") (dunderI Operator.Add.info.2) = some none)
    (GR : FnOk P w K mg base CX0 1 fRp fdRp ["self"] (spRepr C)) (bR : Binds K fdRp ["self"] []) (iR : PySem.W.findIn K (.ref C) "__repr__" = some (some (.ref fRp))) (jR : PySem.W.isFn K (.ref fRp) = true) : FnG P w K mg base CX0 8 f fd ["_law_script"] (spLaw K) := by
  refine fun_okG F scLaw (fun vs H Q E h => ?_) (fun cdv A outer s H vs Q E hg hr h => ?_)
  · obtain ⟨a, ns, rfl, _⟩ := h
    rfl
  · obtain ⟨a, ns, rfl, hS, hlen, q⟩ := h
    have nd := scLaw.nd
    have hr1 : Room 1 _ := hr.mono (by decide)
    have hr2 : Room 2 _ := hr.mono (by decide)
    have hr3 : Room 3 _ := hr.mono (by decide)
    have hr4 : Room 4 _ := hr.mono (by decide)
    have hr5 : Room 5 _ := hr.mono (by decide)
    refine ⟨_, (pss_cons (ps_for PassesOwn.never rfl (pi_range1 rfl B.range (pa_cons (pe_callB (call_max2 rfl) (by rfl) B.max (by decide +kernel) (pa_cons pe_int (pa_cons (pe_callB (call_min2 rfl) (by rfl) B.min (by decide +kernel) (pa_cons pe_int (pa_cons (pe_callB call_len_seq (by rfl) B.len PySem.boot_len (pa_cons (pv 0) pa_nil)) pa_nil))) pa_nil))) pa_nil)) (pg_name (i := 1) nd rfl (Or.inl rfl))
        (pss_cons (ps_set (i := 2) nd rfl (Or.inl rfl) (pe_call GB.ok hr1 (by rfl) GB.m GB.k GB.b .nil pass0 (pa_cons (pe_call GC.ok hr1 (by rfl) GC.m GC.k GC.b .nil pass0 (pa_cons (pv 0) (pa_cons (pv 1) pa_nil))) pa_nil)))
        (pss_cons (ps_par (i := 3) (j := 4) rfl nd rfl rfl (by decide) rfl rfl (pa_cons (pe_call GP.ok hr3 (by rfl) GP.m GP.k GP.b .nil pass0 (pa_cons (pv 2) pa_nil)) (pa_cons (pe_call GP.ok hr3 (by rfl) GP.m GP.k GP.b .nil pass0 (pa_cons (pv 2) pa_nil)) pa_nil)) (by rfl))
        (pss_cons (ps_set (i := 4) nd rfl (Or.inl rfl) (pe_ifExp (pt_cmpR op_eq (pe_call T.ok hr1 (by rfl) T.m T.k T.b .nil pass0 (pa_cons (pv 2) (pa_cons pe_int pa_nil))) pe_int (nomark _)) (pe_tup (pa_cons (pe_ix (r := rIxT K) ix_tup (pv 3) pe_int (fun _ _ => rfl)) (pa_cons (pe_ifExp (pt_cmpR op_ne (pe_ix (r := rIxT K) ix_tup (pv 3) pe_int (fun _ _ => rfl)) pe_str (nomark _)) (pe_ix (r := rIxT K) ix_tup (pv 4) pe_int (fun _ _ => rfl)) (pe_callB (call_max2 rfl) (by rfl) B.max (by decide +kernel) (pa_cons pe_int (pa_cons (pe_ix (r := rIxT K) ix_tup (pv 4) pe_int (fun _ _ => rfl)) pa_nil)))) pa_nil))) (pv 4)))
        (pss_cons (ps_par (i := 5) (j := 6) rfl nd rfl rfl (by decide) rfl rfl (pa_cons (pe_makeK M GI hr4 (by rfl) L.Z.mgC kI2 pass0 (pa_cons (pe_ix (r := rIxT K) ix_tup (pv 3) pe_int (fun _ _ => rfl)) pa_nil) (pk_cons (pe_ix (r := rIxT K) ix_tup (pv 3) pe_int (fun _ _ => rfl)) pk_nil)) (pa_cons (pe_makeK M GI hr4 (by rfl) L.Z.mgC kI2 pass0 (pa_cons (pe_ix (r := rIxT K) ix_tup (pv 4) pe_int (fun _ _ => rfl)) pa_nil) (pk_cons (pe_ix (r := rIxT K) ix_tup (pv 4) pe_int (fun _ _ => rfl)) pk_nil)) pa_nil)) (by rfl))
        (pss_cons (ps_for PassesOwn.never rfl (pi_range1 rfl B.range (pa_cons pe_int pa_nil)) (pg_name (i := 7) nd rfl (Or.inl rfl)) (pss_cons (ps_set (i := 8) nd rfl (Or.inl rfl) (pe_call GS.ok hr5 (by rfl) GS.m GS.k GS.b .nil pass0 (pa_cons (pv 2) pa_nil)))
        (pss_one (ps_for PassesOwn.never rfl (pi_range1 rfl B.range (pa_cons pe_int pa_nil)) (pg_name (i := 9) nd rfl (Or.inl rfl)) (pss_one (ps_if (PW.pt (pw_or (pt_cmpR op_eq (pv 9) pe_int (nomark _)) (pw_or (pt_val (pe_callB call_isi (by rfl) D.isi (by decide +kernel) (pa_cons (pv 8) (pa_cons (pe_bltn (v := .ty "int") (by rfl) B.int (by decide +kernel) rfl) pa_nil)))) (pw_or1 (PW.pt (pw_and (pt_cmpR op_eq (pv 9) pe_int (nomark _)) (pw_and1 (pt_not (pt_val (pe_callB call_isi (by rfl) D.isi (by decide +kernel) (pa_cons (pv 8) (pa_cons (pe_glob (v := .ref C) rfl L.Z.mgC rfl) pa_nil)))))))))))) (pss_one (ps_if (pt_cmpR op_ne (pe_callB (call_reprU4 hg hr3) (by rfl) mR (by decide +kernel) (pa_cons (pe_call GTr.ok hr (by rfl) GTr.m GTr.k GTr.b .nil pass0 (pa_cons (pv 9) (pa_cons (pv 5) (pa_cons (pv 8) pa_nil)))) pa_nil)) (pe_callB (call_reprU4 hg hr3) (by rfl) mR (by decide +kernel) (pa_cons (pe_call GD.ok hr2 (by rfl) GD.m GD.k GD.b .nil pass0 (pa_cons (pv 9) (pa_cons (pv 3) (pa_cons (pv 8) pa_nil)))) pa_nil)) (nomark _)) (pss_one (ps_ret pe_bl)) pss_nil)) pss_nil))))))
        (pss_cons (ps_set (i := 10) nd rfl (Or.inl rfl) (pe_lst (pa_cons pe_str (pa_cons (pe_lst (pa_cons (pe_ix (r := rIxT K) ix_tup (pv 3) pe_int (fun _ _ => rfl)) (pa_cons (pe_ix (r := rIxT K) ix_tup (pv 3) pe_int (fun _ _ => rfl)) (pa_cons (pe_ix (r := rIxT K) ix_tup (pv 4) pe_int (fun _ _ => rfl)) (pa_cons (pe_ix (r := rIxT K) ix_tup (pv 4) pe_int (fun _ _ => rfl)) pa_nil))))) pa_nil))))
        (pss_cons (ps_if (pt_cmpR op_eq (pe_ix (r := rIxT K) ix_tup (pv 3) pe_int (fun _ _ => rfl)) (pe_ix (r := rIxT K) ix_tup (pv 4) pe_int (fun _ _ => rfl)) (nomark _)) (pss_one (ps_set (i := 10) nd rfl (Or.inl rfl) (pe_lst (pa_cons pe_str (pa_cons (pe_op op_sub (pe_ix (r := rIxT K) ix_tup (pv 3) pe_int (fun _ _ => rfl)) (pe_ix (r := rIxT K) ix_tup (pv 4) pe_int (fun _ _ => rfl))) pa_nil))))) pss_nil)
        (pss_cons (ps_if (PW.pt (pw_or (pt_cmpR op_ne (pe_callB (call_reprU4 hg hr3) (by rfl) mR (by decide +kernel) (pa_cons (pe_call GTr.ok hr (by rfl) GTr.m GTr.k GTr.b .nil pass0 (pa_cons pe_int (pa_cons (pv 5) (pa_cons (pv 6) pa_nil)))) pa_nil)) (pe_callB (call_reprU4 hg hr3) (by rfl) mR (by decide +kernel) (pa_cons (pv 10) pa_nil)) (nomark _)) (pw_or (pt_cmpR op_ne (pe_leftS (E := fun _ => E0) O.GS hr5 O.bS O.TS (fun σ => pass_no) (pv 5) (pv 5)) pe_int (nomark _)) (pw_or1 (pt_cmpR (op_neO L.GE hr2 L.bE L.iE L.jE L.hn L.Y.hm) (pe_leftS (E := fun _ => E0) O.GA hr5 O.bA O.TA (fun σ => pass_no) (pv 5) pe_int) (pv 5) (nomark _)))))) (pss_one (ps_ret pe_bl)) pss_nil)
        (pss_cons (ps_if (pt_cmpR (op_neD hr.units) (pe_lst (pa_cons (pe_prop (pv 5) L.Z.cl L.pB L.Gb hr2 L.bb .nil pass0 rfl) (pa_cons (pe_prop (pv 5) L.Z.cl L.pS L.Gs hr2 L.bs .nil pass0 rfl) (pa_cons (pe_prop (pv 6) L.Z.cl L.pB L.Gb hr2 L.bb .nil pass0 rfl) (pa_cons (pe_prop (pv 6) L.Z.cl L.pS L.Gs hr2 L.bs .nil pass0 rfl) pa_nil))))) (pe_lst (pa_cons (pe_ix (r := rIxT K) ix_tup (pv 3) pe_int (fun _ _ => rfl)) (pa_cons (pe_ix (r := rIxT K) ix_tup (pv 3) pe_int (fun _ _ => rfl)) (pa_cons (pe_ix (r := rIxT K) ix_tup (pv 4) pe_int (fun _ _ => rfl)) (pa_cons (pe_ix (r := rIxT K) ix_tup (pv 4) pe_int (fun _ _ => rfl)) pa_nil))))) (nomark _)) (pss_one (ps_ret pe_bl)) pss_nil)
        (pss_cons (ps_if (PW.pt (pw_and (pt_cmpR op_lt (pe_ix (r := rIxT K) ix_tup (pv 3) pe_int (fun _ _ => rfl)) pe_int (nomark _)) (pw_and1 (PW.pt (pw_or (pt_cmpR op_ne (pe_leftS (E := fun _ => E0) O.GS hr5 O.bS O.TS (fun σ => pass_no) (pe_leftS (E := fun _ => E0) O.GA hr5 O.bA O.TA (fun σ => pass_no) (pv 5) pe_int) (pv 5)) pe_int (nomark _)) (pw_or1 (pt_cmpR (op_neO L.GE hr2 L.bE L.iE L.jE L.hn L.Y.hm) (pe_leftS (E := fun _ => E0) O.GS hr5 O.bS O.TS (fun σ => pass_no) (pe_leftS (E := fun _ => E0) O.GA hr5 O.bA O.TA (fun σ => pass_no) (pv 5) pe_int) pe_int) (pv 5) (nomark _)))))))) (pss_one (ps_ret pe_bl)) pss_nil)
        (pss_cons (ps_set (i := 4) nd rfl (Or.inl rfl) (pv 5))
        (pss_cons (ps_if (pt_cmpR op_lt (pe_ix (r := rIxT K) ix_tup (pv 3) pe_int (fun _ _ => rfl)) pe_int (nomark _)) (pss_one (ps_aug (i := 4) nd rfl (Or.inl rfl) pe_int (pip_left O.GA hr5 O.bA O.TA RA.int hmro i1 i2 (fun σ => pass_no)))) pss_nil)
        (pss_one (ps_if (PW.pt (pw_or (pt_cmpR op_ne (pe_callTy (call_strO L.GT hr3 L.bT L.iT L.jT) (by rfl) D.str (by decide +kernel) (pa_cons (pv 5) pa_nil)) (pe_call GX.ok hr1 (by rfl) GX.m GX.k GX.b .nil pass0 (pa_cons (pe_ix (r := rIxT K) ix_tup (pv 3) pe_int (fun _ _ => rfl)) (pa_cons (pe_ix (r := rIxT K) ix_tup (pv 3) pe_int (fun _ _ => rfl)) pa_nil))) (nomark _)) (pw_or (pt_cmpR (op_eqO L.GE hr1 L.bE L.iE L.jE) (pv 5) (pe_ix (r := rIxT K) ix_tup (pv 3) pe_int (fun _ _ => rfl)) (nomark _)) (pw_or1 (pt_cmpR (op_eqO L.GE hr1 L.bE L.iE L.jE) (pv 5) (pe_callTy (call_strO L.GT hr3 L.bT L.iT L.jT) (by rfl) D.str (by decide +kernel) (pa_cons (pv 5) pa_nil)) (nomark _)))))) (pss_one (ps_ret pe_bl)) pss_nil)))))))))))))))
      (pss_one (ps_ret pe_bl))), ?_⟩
    refine ⟨_, rfl, a, _, rfl, .inl hS, _, _, rfl, _, _, rfl, ?_⟩
    generalize hm : (if (if (((ns.map V.int).length : Nat) : Int) < 8 then (((ns.map V.int).length : Nat) : Int) else 8) > 2 then (if (((ns.map V.int).length : Nat) : Int) < 8 then (((ns.map V.int).length : Nat) : Int) else 8) else 2) = m
    have m0 : 2 ≤ m ∧ m ≤ 8 := by
      rw [← hm]
      split <;> split <;> omega
    refine ⟨m, rfl, by omega, by omega, for_range (lo := 0) (n := m.toNat) (fun _ σ H' => ∃ v1 v2 v3 v4 v5 v6 v7 v8 v9 v10 : Option V, σ = [some (.ref a), v1, v2, v3, v4, v5, v6, v7, v8, v9, v10] ∧ Same H H')
      ⟨_, _, _, _, _, _, _, _, _, _, rfl, Same.refl H⟩ ?_ fun σ H' _ => q H'⟩
    rintro i σ H0 hi ⟨v1, v2, v3, v4, v5, v6, v7, v8, v9, v10, rfl, s0⟩
    generalize hD : ({ nx := _, rt := _, bk := _, ct := _ } : Ends) = DD
    have dnx : ∀ σ' H', (∃ v1 v2 v3 v4 v5 v6 v7 v8 v9 v10 : Option V, σ' = [some (V.ref a), v1, v2, v3, v4, v5, v6, v7, v8, v9, v10] ∧ Same H H') → DD.nx σ' H' := fun σ' H' h => by
      rw [← hD]
      exact h
    clear hD
    have ei : (0 + (i : Int)) = ((i : Nat) : Int) := by omega
    rw [ei]
    refine ⟨_, rfl, _, rfl, a, ns, i, rfl, s0.seq hS, by omega, fun c => ?_⟩
    refine ⟨c, rfl, fun b H1 nb B1 K1 => ?_⟩
    refine ⟨_, rfl, b, 0, rfl, B1, by omega, fun tp z k H2 nz lz hk tpb t2 B2 K2 => ?_⟩
    refine ⟨_, rfl, b, 10, rfl, B2, by omega, fun tf0 y0 j0 H3 ny0 ly0 hj0 tfb t3 B3 K3 => ⟨_, _, rfl, ?_⟩⟩
    have t23 := K3 _ _ tpb t2
    have zl : z.length ≤ 100 := Nat.le_trans nz.1.1 (by decide)
    have gz : Good z k := nz.good lz hk
    generalize hT4 : tSeq (tPar 5 6 _) _ = T4
    have rest4 : ∀ (tf : Addr) (y : Str) (j : Int) (H4 : Hp), Good y j → H4 tp = some (.tup [.str z, .int k]) → H4 tf = some (.tup [.str y, .int j]) → Bx H4 b 21 → Kp b H1 H4 →
        T4 DD [some (.ref a), some (.int i), some (.ref b), some (.ref tp), some (.ref tf), v5, v6, v7, v8, v9, v10] H4 := by
      intro tf y j H4 gy e1 e2 B4 K4
      rw [← hT4]
      refine ⟨_, rfl, tp, _, _, _, rfl, rfl, SqT.of e1, rfl, _, rfl, tp, _, _, _, rfl, rfl, SqT.of e1, rfl, rfl, rfl, fun p1 d1 n1 nd1 _ => ?_⟩
      refine ⟨p1, d1, z, k, rfl, upd_same, gz.1, gz.2.1, gz.2.2.1, gz.2.2.2.1, gz.2.2.2.2, fun H5 u5 t5 => ⟨rfl, ?_⟩⟩
      have s5 : Same H4 H5 := fun r o h => u5 r o (ne_of_none h n1) (by
        rw [upd_ne (ne_of_none h n1), upd_ne (ne_of_none h nd1)]
        exact h)
      have e15 := s5 _ _ e1
      have e25 := s5 _ _ e2
      refine ⟨_, rfl, tf, _, _, _, rfl, rfl, SqT.of e25, rfl, _, rfl, tf, _, _, _, rfl, rfl, SqT.of e25, rfl, rfl, rfl, fun p2 d2 n2 nd2 _ => ?_⟩
      refine ⟨p2, d2, y, j, rfl, upd_same, gy.1, gy.2.1, gy.2.2.1, gy.2.2.2.1, gy.2.2.2.2, fun H6 u6 t6 => ⟨rfl, ⟨_, _, rfl, ?_⟩⟩⟩
      have s6 : Same H5 H6 := fun r o h => u6 r o (ne_of_none h n2) (by
        rw [upd_ne (ne_of_none h n2), upd_ne (ne_of_none h nd2)]
        exact h)
      have two6 : Two C H6 tp tf p1 p2 z k y j := ⟨s6 _ _ e15, s6 _ _ e25, ⟨d1, s6 _ _ t5⟩, ⟨d2, t6⟩⟩
      have B6 := (B4.same s5).same s6
      have K6 : Kp b H0 H6 := K1.trans (K4.trans (Kp.same (s5.trans s6)))
      clear e1 e2 e15 e25 u5 t5 u6 t6 hT4
      -- the turns
      generalize hT6 : tSeq (tAsg (tLst (tCons (tC (V.str "unordered")) _)) (gName 10)) _ = T6
      have rest6 : ∀ (x7 x8 x9 : Option V) (H7 : Hp), Two C H7 tp tf p1 p2 z k y j → Kp b H0 H7 → Bx H7 b 100 →
          T6 DD [some (.ref a), some (.int i), some (.ref b), some (.ref tp), some (.ref tf), some (.ref p1), some (.ref p2), x7, x8, x9, v10] H7 := by
        intro x7 x8 x9 H7 two K7 B7
        rw [← hT6]
        have sH : ∀ {G : Hp}, Kp b H0 G → Same H G := fun kp => s0.trans (same_of nb kp)
        have w1 := two.1
        have w2 := two.2.1
        generalize hT8 : tSeq (tIfS (tOr _ _) (tRet _) _) _ = T8
        have rest8 : ∀ (dd : Addr) (H8 : Hp), Two C H8 tp tf p1 p2 z k y j → Kp b H0 H8 → ((z = y ∧ H8 dd = some (.lst [.str "number", .int (k - j)])) ∨ (z ≠ y ∧ ∃ q1, H8 dd = some (.lst [.str "unordered", .ref q1]) ∧ H8 q1 = some (.lst [.str z, .int k, .str y, .int j]))) →
            T8 DD [some (.ref a), some (.int i), some (.ref b), some (.ref tp), some (.ref tf), some (.ref p1), some (.ref p2), x7, x8, x9, some (.ref dd)] H8 := by
          intro dd H8 two8 K8 hdd
          rw [← hT8]
          obtain ⟨w1, w2, w3, w4⟩ := id two8
          generalize hT9 : tSeq (tIfS _ (tRet _) _) (tSeq (tIfS (tAnd _ _) _ _) _) = T9
          have rest9 : ∀ (H9 : Hp), Two C H9 tp tf p1 p2 z k y j → Kp b H0 H9 → T9 DD [some (.ref a), some (.int i), some (.ref b), some (.ref tp), some (.ref tf), some (.ref p1), some (.ref p2), x7, x8, x9, some (.ref dd)] H9 := by
            intro H9 two9 K9
            rw [← hT9]
            obtain ⟨x1, x2, x3, x4⟩ := id two9
            obtain ⟨da, ha⟩ := id x3
            obtain ⟨db, hb⟩ := id x4
            generalize hT10 : tSeq (tIfS (tAnd _ _) _ _) _ = T10
            have rest10 : ∀ (H10 : Hp), Two C H10 tp tf p1 p2 z k y j → Kp b H0 H10 → T10 DD [some (.ref a), some (.int i), some (.ref b), some (.ref tp), some (.ref tf), some (.ref p1), some (.ref p2), x7, x8, x9, some (.ref dd)] H10 := by
              intro H10 two10 K10
              rw [← hT10]
              obtain ⟨x1, x2, x3, x4⟩ := id two10
              obtain ⟨da, ha⟩ := id x3
              generalize hT11 : tSeq (tAsg (tVar 5) (gName 4)) _ = T11
              have rest11 : ∀ (H11 : Hp), Two C H11 tp tf p1 p2 z k y j → Kp b H0 H11 → T11 DD [some (.ref a), some (.int i), some (.ref b), some (.ref tp), some (.ref tf), some (.ref p1), some (.ref p2), x7, x8, x9, some (.ref dd)] H11 := by
                intro H11 two11 K11
                rw [← hT11]
                obtain ⟨x1, x2, x3, x4⟩ := id two11
                obtain ⟨da, ha⟩ := id x3
                generalize hT13 : tIfS (tOr _ _) (tRet _) _ = T13
                have rest13 : ∀ (v4 : Option V) (H12 : Hp), Two C H12 tp tf p1 p2 z k y j → Kp b H0 H12 → T13 DD [some (.ref a), some (.int i), some (.ref b), some (.ref tp), v4, some (.ref p1), some (.ref p2), x7, x8, x9, some (.ref dd)] H12 := by
                  intro v4 H12 two12 K12
                  rw [← hT13]
                  obtain ⟨x1, x2, x3, x4⟩ := id two12
                  obtain ⟨da, ha⟩ := id x3
                  refine ⟨_, rfl, p1, da, _, rfl, ha, p1, z, k, rfl, x3, gz, _, rfl, _, rfl, tp, _, _, _, rfl, rfl, SqT.of x1, rfl, _, rfl, tp, _, _, _, rfl, rfl, SqT.of x1, rfl, z, k, rfl, gz, zl, fun H13 s13 => ⟨rfl, _, rfl, ?_⟩⟩
                  rw [ne_not]
                  refine iteF ?_
                  have y1 := s13 _ _ x1
                  have y3 := x3.same3 s13
                  have hy := s13 _ _ ha
                  have nf : ∀ {T : String}, PySem.W.subIn K (.type T) (.ref C) = some false → PySem.W.notFirst K C (.type T) = true := fun h => by
                    unfold PySem.W.notFirst
                    rw [h]
                    simp
                  refine ⟨_, rfl, _, rfl, tp, _, _, _, rfl, rfl, SqT.of y1, rfl, p1, da, _, rfl, hy, ⟨_, .base (.int k), nf rfl⟩, p1, z, k, y3, .inr ⟨_, rfl, ⟨_, .base (.int k), N.int⟩, _, rfl, _, rfl, iteF ?_⟩⟩
                  refine ⟨_, rfl, _, rfl, p1, da, _, rfl, hy, p1, z, k, rfl, y3, gz, _, rfl, p1, da, _, rfl, hy, ⟨_, .base (.str _), nf rfl⟩, p1, z, k, y3, .inr ⟨_, rfl, ⟨_, .base (.str _), N.str⟩, _, rfl, _, rfl, iteF ?_⟩⟩
                  exact dnx _ _ ⟨_, _, _, _, _, _, _, _, _, _, rfl, sH (K12.trans (Kp.same s13))⟩
                clear hT13
                refine ⟨_, rfl, _, rfl, tp, _, _, _, rfl, rfl, SqT.of x1, rfl, _, _, rfl, rfl, _, rfl, ite2 (fun h3 => ?_) (fun _ => rest13 _ H11 two11 K11)⟩
                have k3 : k < 3 := of_decide_eq_true h3
                have g1 : Good z (k + 1 * 1) := (good_iff gz).mpr (by omega)
                refine ⟨_, rfl, p1, da, _, 1, rfl, rfl, ha, p1, z, k, .int 1, rfl, x3, gz, .int 1, fun n en gg p H12 np s12 pp => ?_, fun ni => absurd g1 (ni 1 rfl)⟩
                exact rest13 _ H12 (two11.same s12) (K11.trans (Kp.same s12))
              clear hT11
              refine ⟨_, rfl, tp, _, _, _, rfl, rfl, SqT.of x1, rfl, _, _, rfl, rfl, _, rfl, ite2 (fun h3 => ?_) (fun _ => iteF (rest11 H10 two10 K10))⟩
              have k3 : k < 3 := of_decide_eq_true h3
              have g1 : Good z (k + 1 * 1) := (good_iff gz).mpr (by omega)
              refine ⟨_, rfl, p1, da, _, rfl, ha, .inl ⟨"int", .base (.int 1), RA.int⟩, p1, z, k, .int 1, rfl, x3, gz, .int 1, fun n en gg p H11 np s11 pp => ?_, fun ni => absurd g1 (ni 1 rfl)⟩
              cases en
              have two11 := two10.same s11
              obtain ⟨x1', x2', x3', x4'⟩ := id two11
              obtain ⟨dp, hp⟩ := id pp
              obtain ⟨da', ha'⟩ := id x3'
              refine ⟨_, rfl, p, dp, _, rfl, hp, .inr (x3'.ty L.Y), .inr ⟨p, p1, z, k + 1 * 1, z, k, rfl, pp, x3', fun _ => ⟨rfl, _, rfl, ?_⟩, fun ne => absurd rfl ne⟩⟩
              rw [show k + 1 * 1 - k = 1 by omega, ne_not]
              refine iteF ?_
              refine ⟨_, rfl, p1, da', _, rfl, ha', .inl ⟨"int", .base (.int 1), RA.int⟩, p1, z, k, .int 1, rfl, x3', gz, .int 1, fun n en gg2 r H12 nr s12 pr => ?_, fun ni => absurd g1 (ni 1 rfl)⟩
              cases en
              have two12 := two11.same s12
              obtain ⟨dr, hr'⟩ := id pr
              have eb : k + 1 * 1 + -1 * 1 = k := by omega
              refine ⟨r, dr, _, rfl, hr', .inl ⟨"int", .base (.int 1), RS.int⟩, .inl ⟨r, .int 1, rfl, ⟨_, .base (.int 1), N.int⟩, r, z, k + 1 * 1, .int 1, rfl, pr, g1, .int 1, fun n en gg3 u H13 nu s13 pu => ?_, fun ni => absurd (by rw [eb]; exact gz) (ni 1 rfl)⟩⟩
              cases en
              have two13 := two12.same s13
              have pl13 := two13.2.2.1
              obtain ⟨du, hu⟩ := id pu
              refine ⟨_, rfl, u, du, _, rfl, hu, ⟨_, pl13.ty L.Y, by simp [PySem.W.notFirst]⟩, u, z, _, pu, .inl ⟨p1, z, k, rfl, pl13, _, rfl, _, rfl, ?_⟩⟩
              rw [decide_eq_true rfl, decide_eq_true eb]
              exact iteF (rest11 H13 two13 (K10.trans (Kp.same (s11.trans (s12.trans s13)))))
            clear hT10
            refine ⟨_, rfl, p1, da, _, rfl, ha, p1, z, k, rfl, x3, _, rfl, p1, da, _, rfl, ha, p1, z, k, rfl, x3, _, rfl, p2, db, _, rfl, hb, p2, y, j, rfl, x4, _, rfl, p2, db, _, rfl, hb, p2, y, j, rfl, x4, (by show 4 ≤ sizeLine; decide), fun q3 nq3 => ?_⟩
            have s10 : Same H9 (upd H9 q3 (.lst [.str z, .int k, .str y, .int j])) := same_nw nq3
            have t10 : upd H9 q3 (.lst [.str z, .int k, .str y, .int j]) q3 = some (.lst [.str z, .int k, .str y, .int j]) := upd_same
            generalize upd H9 q3 (.lst [.str z, .int k, .str y, .int j]) = H10 at s10 t10
            have y1 := s10 _ _ x1
            have y2 := s10 _ _ x2
            refine ⟨_, rfl, tp, _, _, _, rfl, rfl, SqT.of y1, rfl, _, rfl, tp, _, _, _, rfl, rfl, SqT.of y1, rfl, _, rfl, tf, _, _, _, rfl, rfl, SqT.of y2, rfl, _, rfl, tf, _, _, _, rfl, rfl, SqT.of y2, rfl, (by show 4 ≤ sizeLine; decide), fun q4 nq4 => ?_⟩
            have s11 : Same H10 (upd H10 q4 (.lst [.str z, .int k, .str y, .int j])) := same_nw nq4
            refine ⟨fourD z k y j, fourD z k y j, four_dp (s11 _ _ t10), four_dp upd_same, four_shaped gz.2.1 gy.2.1, four_shaped gz.2.1 gy.2.1, ?_⟩
            rw [four_eqv]
            exact ⟨_, rfl, iteF (rest10 _ (two9.same (s10.trans s11)) (K9.trans (Kp.same (s10.trans s11))))⟩
          clear hT9
          have first : ∃ t : Str, (∀ QQ : VK, (∀ H', Same H8 H' → QQ (.str t) H') → spTried K C [.int 2, .ref p1, .ref p2] H8 (fun x H3 => rReprU4 (cxOf CX0 P w K mg base NLaw "law" (defScope sLaw) f cdv A outer s H E).nox [x] H3 QQ) E0) ∧
              ∀ (H9 : Hp) (QQ : VK), Same H8 H9 → (∀ H', Same H9 H' → QQ (.str t) H') → rReprU4 (cxOf CX0 P w K mg base NLaw "law" (defScope sLaw) f cdv A outer s H E).nox [.ref dd] H9 QQ := by
            rcases hdd with ⟨e, hd⟩ | ⟨ne, q1, hd, hq⟩
            · have b1 := gz.lo
              have b2 := gz.hi
              have b3 := gy.lo
              have b4 := gy.hi
              obtain ⟨t, ht⟩ := show_data (X := (cxOf CX0 P w K mg base NLaw "law" (defScope sLaw) f cdv A outer s H E).nox) (w := "number") (v := .int (k - j)) (H1 := H8) (by decide +kernel) (.flat (.int _)) (num_fit (by omega) (by omega))
              exact ⟨t, fun QQ qq => ⟨2, p1, .ref p2, z, k, rfl, w3, gz, .inr ⟨rfl, p2, y, j, rfl, w4, gy, .inl ⟨e, fun p H' s' np hp => ht H' p _ s' hp fun H'' s'' => qq H'' (s'.trans s'')⟩⟩⟩,
                fun H9 QQ s9 qq => ht H9 dd _ s9 (s9 _ _ hd) qq⟩
            · obtain ⟨f1, f2, f3, f4⟩ := unord_fit gz gy
              have dpl : ∀ {G : Hp} {r r2 : Addr}, G r = some (.lst [.str "unordered", .ref r2]) → G r2 = some (.lst [.str z, .int k, .str y, .int j]) → Dp K G (.ref r) (unordD z k y j) := fun h1 h2 => .lst (SqL.of h1) (.cons (.str _) (.cons (four_dp h2) .nil))
              exact ⟨_, fun QQ qq => ⟨2, p1, .ref p2, z, k, rfl, w3, gz, .inr ⟨rfl, p2, y, j, rfl, w4, gy, .inr ⟨ne, fun p r2 H' s' np hp hp2 => show_dat f1 f2 f3 f4 (dpl hp hp2) fun H'' s'' => qq H'' (s'.trans s'')⟩⟩⟩,
                fun H9 QQ s9 qq => show_dat f1 f2 f3 f4 (dpl (s9 _ _ hd) (s9 _ _ hq)) qq⟩
          obtain ⟨t, ft1, ft2⟩ := first
          refine ⟨_, rfl, _, rfl, ft1 _ fun H9 s9 => ⟨_, rfl, ft2 H9 _ s9 fun H10 s10 => ⟨rfl, _, rfl, ?_⟩⟩⟩
          rw [ne_not]
          refine iteF ?_
          have s810 := s9.trans s10
          have two10 := two8.same s810
          have pl := two10.2.2.1
          obtain ⟨dq, hq1⟩ := id pl
          refine ⟨_, rfl, _, rfl, p1, dq, _, rfl, hq1, .inr (pl.ty L.Y), .inr ⟨p1, p1, z, k, z, k, rfl, pl, pl, fun _ => ⟨rfl, _, rfl, ?_⟩, fun ne => absurd rfl ne⟩⟩
          rw [show k - k = 0 by omega, ne_not]
          refine iteF ?_
          refine ⟨_, rfl, p1, dq, _, rfl, hq1, .inl ⟨"int", .base (.int 0), RA.int⟩, p1, z, k, .int 0, rfl, pl, gz, .int 0, fun n en g2 p H11 np s11 pp => ?_, fun ni => absurd (by rw [show k + 1 * 0 = k by omega]; exact gz) (ni 0 rfl)⟩
          cases en
          have pl11 := pl.same3 s11
          obtain ⟨dp, hp⟩ := id pp
          refine ⟨_, rfl, p, dp, _, rfl, hp, ⟨_, pl11.ty L.Y, by simp [PySem.W.notFirst]⟩, p, z, _, pp, .inl ⟨p1, z, k, rfl, pl11, _, rfl, _, rfl, ?_⟩⟩
          rw [decide_eq_true rfl, decide_eq_true (show k + 1 * 0 = k by omega)]
          exact iteF (rest9 H11 (two10.same s11) (K8.trans (Kp.same (s810.trans s11))))
        clear hT8
        refine ⟨_, rfl, tp, _, _, _, rfl, rfl, SqT.of w1, rfl, _, rfl, tp, _, _, _, rfl, rfl, SqT.of w1, rfl, _, rfl, tf, _, _, _, rfl, rfl, SqT.of w2, rfl, _, rfl, tf, _, _, _, rfl, rfl, SqT.of w2, rfl, (by show 4 ≤ sizeLine; decide), fun q1 nq1 => ⟨(by show 2 ≤ sizeLine; decide), fun q2 nq2 => ?_⟩⟩
        have s8 : Same H7 (upd H7 q1 (.lst [.str z, .int k, .str y, .int j])) := same_nw nq1
        have t8 : upd H7 q1 (.lst [.str z, .int k, .str y, .int j]) q1 = some (.lst [.str z, .int k, .str y, .int j]) := upd_same
        generalize upd H7 q1 (.lst [.str z, .int k, .str y, .int j]) = H8 at s8 t8 nq2
        have s9 : Same H8 (upd H8 q2 (.lst [.str "unordered", .ref q1])) := same_nw nq2
        have t9 : upd H8 q2 (.lst [.str "unordered", .ref q1]) q2 = some (.lst [.str "unordered", .ref q1]) := upd_same
        generalize upd H8 q2 (.lst [.str "unordered", .ref q1]) = H9 at s9 t9
        have s79 := s8.trans s9
        have two9 := two.same s79
        have K9 := K7.trans (Kp.same s79)
        refine ⟨_, rfl, tp, _, _, _, rfl, rfl, SqT.of two9.1, rfl, _, rfl, tf, _, _, _, rfl, rfl, SqT.of two9.2.1, rfl, rfl, _, rfl, ?_⟩
        by_cases e : z = y
        · rw [decide_eq_true (show V.str z = V.str y by rw [e])]
          refine iteT ⟨_, rfl, tp, _, _, _, rfl, rfl, SqT.of two9.1, rfl, _, rfl, tf, _, _, _, rfl, rfl, SqT.of two9.2.1, rfl, _, _, rfl, rfl, (by show 2 ≤ sizeLine; decide), fun q3 nq3 => ?_⟩
          exact rest8 q3 _ (two9.same (same_nw nq3)) (K9.trans (Kp.same (same_nw nq3))) (.inl ⟨e, upd_same⟩)
        · rw [decide_eq_false (show ¬ V.str z = V.str y from fun x => e (V.str.inj x))]
          exact iteF (rest8 q2 H9 two9 K9 (.inr ⟨e, q1, t9, s9 _ _ t8⟩))
      clear hT6
      refine ⟨6, rfl, by decide, by decide, for_range (lo := 0) (n := 6) (fun jj σ H' => ∃ x7 x8 x9 : Option V, σ = [some (.ref a), some (.int i), some (.ref b), some (.ref tp), some (.ref tf), some (.ref p1), some (.ref p2), x7, x8, x9, v10] ∧ Two C H' tp tf p1 p2 z k y j ∧ Kp b H0 H' ∧ Bx H' b (21 + 3 * jj))
        ⟨_, _, _, rfl, two6, K6, B6⟩ ?_ fun σ H' ⟨x7, x8, x9, e, tw, kp, bx⟩ => by rw [e]; exact rest6 x7 x8 x9 H' tw kp (bx.more (by decide))⟩
      rintro jj σ H7 hjj ⟨x7, x8, x9, rfl, two7, K7, B7⟩
      refine ⟨_, rfl, b, 21 + 3 * jj, rfl, B7, by omega, fun v H8 sv B8 K8 => ?_⟩
      have two8 := two7.kp K8 B7
      have K08 := K7.trans K8
      refine ⟨3, rfl, by decide, by decide, for_range (lo := 0) (n := 3) (fun _ σ H' => ∃ x9 : Option V, σ = [some (.ref a), some (.int i), some (.ref b), some (.ref tp), some (.ref tf), some (.ref p1), some (.ref p2), some (.int (0 + (jj : Int))), some v, x9, v10] ∧ Same H8 H')
        ⟨_, rfl, Same.refl _⟩ ?_ fun σ H' ⟨x9, e, sm⟩ => ⟨_, _, _, e, two8.same sm, K08.trans (Kp.same sm), B8.same sm⟩⟩
      rintro wv σ H9 hw ⟨x9, rfl, s89⟩
      have two9 := two8.same s89
      have sv9 := sv.same s89
      obtain ⟨kd, rok, pl⟩ := stp_is L.Y ki ks N NM sv9
      have rA := rok .Add RA
      have rS := rok .Sub RS
      obtain ⟨wi, ew, wc⟩ : ∃ wi : Int, (0 + (wv : Int)) = wi ∧ (wi = 0 ∨ wi = 1 ∨ wi = 2) := ⟨_, rfl, by omega⟩
      rw [ew]
      generalize hTI : tIfS _ (tRet _) _ = TI
      have core : (wi = 0 ∧ Rok K C .Add H9 v ∨ wi = 1 ∧ ((∃ i, v = .int i) ∨ ∃ b, v = .bl b) ∨ wi = 2 ∧ Oty K C H9 v ∧ Rok K C .Sub H9 v) → ∀ DE : Ends, (∀ H', Same H9 H' → DE.nx [some (.ref a), some (.int i), some (.ref b), some (.ref tp), some (.ref tf), some (.ref p1), some (.ref p2), some (.int (0 + (jj : Int))), some v, some (.int wi), v10] H') →
          TI DE [some (.ref a), some (.int i), some (.ref b), some (.ref tp), some (.ref tf), some (.ref p1), some (.ref p2), some (.int (0 + (jj : Int))), some v, some (.int wi), v10] H9 := by
        intro hw2 DE hD
        rw [← hTI]
        obtain ⟨t, ht⟩ := out_show (X := (cxOf CX0 P w K mg base NLaw "law" (defScope sLaw) f cdv A outer s H E).nox) (way := wi) (z := z) (k := k) GR bR iR jR sv9
        obtain ⟨w1, w2, w3, w4⟩ := two9
        refine ⟨_, rfl, _, rfl, _, rfl, wi, p1, v, z, k, rfl, w3, gz, .inl ⟨kd, hw2, ht H9 _ (Same.refl _) fun H10 s10 => ?_⟩⟩
        have kd10 : Kd K H10 v := kd.at fun a e o ho => s10 a o ho
        refine ⟨_, rfl, _, rfl, _, rfl, wi, tp, v, z, k, rfl, s10 _ _ w1, gz, zl, kd10, ht H10 _ s10 fun H11 s11 => ?_⟩
        refine ⟨rfl, _, rfl, ?_⟩
        rw [ne_not]
        exact iteF (hD H11 (s10.trans s11))
      clear hTI
      have ok : ∀ H', Same H9 H' → ∃ x9 : Option V, [some (.ref a), some (.int i), some (.ref b), some (.ref tp), some (.ref tf), some (.ref p1), some (.ref p2), some (.int (0 + (jj : Int))), some v, some (.int wi), v10] = [some (V.ref a), some (.int i), some (.ref b), some (.ref tp), some (.ref tf), some (.ref p1), some (.ref p2), some (.int (0 + (jj : Int))), some v, x9, v10] ∧ Same H8 H' :=
        fun H' s' => ⟨_, rfl, s89.trans s'⟩
      rcases wc with rfl | rfl | rfl
      · exact ⟨_, rfl, rfl, _, rfl, iteT (iteT (core (.inl ⟨rfl, rA⟩) _ ok))⟩
      · refine ⟨_, rfl, rfl, _, rfl, iteF ⟨_, rfl, ?_⟩⟩
        cases kd with
        | int n => exact ⟨_, _, _, _, true, rfl, .ty _, .base (.int n), kit_ty (by decide +kernel), true, rfl, iteT (iteT (core (.inr (.inl ⟨rfl, .inl ⟨n, rfl⟩⟩)) _ ok))⟩
        | bl n => exact ⟨_, _, _, _, true, rfl, .ty _, .base (.bl n), kit_ty (by decide +kernel), true, rfl, iteT (iteT (core (.inr (.inl ⟨rfl, .inr ⟨n, rfl⟩⟩)) _ ok))⟩
        | str x _ _ => exact ⟨_, _, _, _, false, rfl, .ty _, .base (.str x), kit_ty (by decide +kernel), false, rfl, iteF ⟨_, rfl, rfl, _, rfl, iteF (iteF (ok H9 (Same.refl _)))⟩⟩
        | non => exact ⟨_, _, _, _, false, rfl, .ty _, .base .non, kit_ty (by decide +kernel), false, rfl, iteF ⟨_, rfl, rfl, _, rfl, iteF (iteF (ok H9 (Same.refl _)))⟩⟩
        | oth a t ty ki ks => exact ⟨_, _, _, _, false, rfl, .ty _, ty, ki, false, rfl, iteF ⟨_, rfl, rfl, _, rfl, iteF (iteF (ok H9 (Same.refl _)))⟩⟩
      · refine ⟨_, rfl, rfl, _, rfl, iteF ⟨_, rfl, ?_⟩⟩
        cases kd with
        | int n => exact ⟨_, _, _, _, true, rfl, .ty _, .base (.int n), kit_ty (by decide +kernel), true, rfl, iteT (iteT (core (.inr (.inr ⟨rfl, ⟨_, .base (.int n), N.int⟩, rS⟩)) _ ok))⟩
        | bl n => exact ⟨_, _, _, _, true, rfl, .ty _, .base (.bl n), kit_ty (by decide +kernel), true, rfl, iteT (iteT (core (.inr (.inr ⟨rfl, ⟨_, .base (.bl n), N.bool⟩, rS⟩)) _ ok))⟩
        | str x _ _ => exact ⟨_, _, _, _, false, rfl, .ty _, .base (.str x), kit_ty (by decide +kernel), false, rfl, iteF ⟨_, rfl, rfl, _, rfl, iteT ⟨_, rfl, .str x, .ref C, _, .ref C, false, rfl, .own C, .base (.str x), N.str, false, rfl, iteT (core (.inr (.inr ⟨rfl, ⟨_, .base (.str x), N.str⟩, rS⟩)) _ ok)⟩⟩⟩
        | non => exact ⟨_, _, _, _, false, rfl, .ty _, .base .non, kit_ty (by decide +kernel), false, rfl, iteF ⟨_, rfl, rfl, _, rfl, iteT ⟨_, rfl, .non, .ref C, _, .ref C, false, rfl, .own C, .base .non, N.non, false, rfl, iteT (core (.inr (.inr ⟨rfl, ⟨_, .base .non, N.non⟩, rS⟩)) _ ok)⟩⟩⟩
        | oth a2 t ty ki ks =>
          refine ⟨_, _, _, _, false, rfl, .ty _, ty, ki, false, rfl, iteF ⟨_, rfl, rfl, _, rfl, iteT ⟨_, rfl, ?_⟩⟩⟩
          rcases pl with ⟨t2, ty2, kt⟩ | ⟨a3, e, pa⟩
          · exact ⟨.ref a2, .ref C, t2, .ref C, false, rfl, .own C, ty2, kt, false, rfl, iteT (core (.inr (.inr ⟨rfl, ⟨t2, ty2, kt⟩, rS⟩)) _ ok)⟩
          · cases e
            exact ⟨.ref a2, .ref C, .ref C, .ref C, true, rfl, .own C, pa.ty L.Y, kit_self, true, rfl, iteF (ok H9 (Same.refl _))⟩
    clear hT4
    have gy0 : Good y0 j0 := ny0.good ly0 hj0
    have tfb0 : H3 tf0 = some (.tup [.str y0, .int j0]) := t3
    refine ⟨_, rfl, b, 20, 2, rfl, B3, by omega, by decide, by decide, fun r H4 r0 r1 B4 K4 => ?_⟩
    have e1 := K4 _ _ tpb t23
    have e2 := K4 _ _ tfb tfb0
    have K14 := K2.trans (K3.trans K4)
    refine ⟨rfl, _, rfl, ite2 (fun _ => ?_) (fun _ => ⟨_, rfl, rest4 tf0 y0 j0 H4 gy0 e1 e2 B4 K14⟩)⟩
    have fin : ∀ (j2 : Int), Good z j2 → ∀ p, H4 p = none → T4 DD [some (.ref a), some (.int i), some (.ref b), some (.ref tp), some (.ref p), v5, v6, v7, v8, v9, v10] (upd H4 p (.tup [.str z, .int j2])) := by
      intro j2 g2 p np
      exact rest4 p z j2 _ g2 (by rw [upd_ne (ne_of_none e1 np)]; exact e1) upd_same (B4.same (same_nw np)) (K14.trans (Kp.same (same_nw np)))
    refine ⟨_, rfl, tp, _, _, _, rfl, rfl, SqT.of e1, rfl, _, rfl, tp, _, _, _, rfl, rfl, SqT.of e1, rfl, rfl, _, rfl, ?_⟩
    by_cases e : z = ""
    · rw [decide_eq_true (show V.str z = V.str "" by rw [e])]
      refine iteF ⟨_, rfl, tf0, _, _, _, rfl, rfl, SqT.of e2, rfl, _, _, rfl, (by show 2 ≤ sizeLine; decide), fun p np => fin _ ?_ p np⟩
      have lo : lowS z = 0 := if_pos e
      have h3 := hj0
      refine (good_iff gz).mpr ?_
      rw [lo]
      split <;> omega
    · rw [decide_eq_false (show ¬ V.str z = V.str "" from fun x => e (V.str.inj x))]
      refine iteT ⟨_, rfl, tf0, _, _, _, rfl, rfl, SqT.of e2, rfl, (by show 2 ≤ sizeLine; decide), fun p np => fin _ ?_ p np⟩
      have lo : lowS z = -3 := if_neg e
      have h2 := gy0.lo
      refine (good_iff gz).mpr ?_
      rw [lo]
      exact ⟨h2, hj0⟩
end
end Mz
set_option Elab.async false
set_option linter.all false
set_option maxRecDepth 100000
set_option maxHeartbeats 4000000
namespace Mz
open PySem PySem.Spec PyProof.Rows L2
theorem kb_one {K : PySem.W.Frag} {x qual : Str} {st : Stmt} {f : Addr} {fd : FuncData} {ps : List Str} (F : Fun K x qual st f fd) (n : Nat) (ks : List Str)
    (h : ∀ (kV doc pm : Value) (an : Option Addr) (cdv ct : Value) (us ws : List Value), us.length = n → ws.length = ks.length → bindArgs (PySem.W.fnOf x qual (defArgs st) (defBody st) (defScope st) .none kV doc pm an cdv ct) ⟨us, ks.zip ws⟩ = pure (ps.zip (us ++ ws))) :
    KBn K fd ps n ks (fun us ws => us ++ ws) (fun vs zs => vs ++ zs) := by
  obtain ⟨oc, od, kV, doc, pm, an, cdv, ct, osl, rfl, lk, hcd⟩ := F.ex
  exact ⟨fun s us ws _ hu hw => .of_eq (h kV doc pm an cdv ct us ws hu hw), fun r1 r2 => r1.append r2⟩
theorem kit_own {K : PySem.W.Frag} {C : Addr} {T : String} (hm : PySem.W.mroIn K C (.type T) = some false) (h2 : PySem.W.kitMeta T = true) : PySem.W.kitOne K (.ref C) (.type T) = some false := by
  unfold PySem.W.kitOne
  rw [if_neg (by intro e; cases e)]
  show (if PySem.W.kitMeta T = true then PySem.W.mroIn K C (.type T) else none) = some false
  rw [if_pos h2, hm]
theorem kit_ref {K : PySem.W.Frag} {C : Addr} {T : String} {b : Bool} (hdct : PySem.W.hasDictIn K C = true) (ht : PySem.W.typeIn K (.ref C) = some (.type "type")) (h4 : PySem.W.subIn K (.type T) (.ref C) = some b) : PySem.W.kitOne K (.type T) (.ref C) = some b := by
  obtain ⟨cd, hc, _⟩ := PySem.W.any_some hdct
  unfold PySem.W.kitOne
  rw [if_neg (by intro e; cases e)]
  show (if ((PySem.W.clsIn K C).isSome && PySem.W.typeIn K (.ref C) == some (.type "type")) = true then PySem.W.subIn K (.type T) (.ref C) else none) = some b
  rw [if_pos (by rw [hc, ht] <;> rfl)]
  exact h4
theorem all_mk {l : PySem.W.OpenLaw} {w : World} {K : PySem.W.Frag} {h : Heap} {mg : Str → Option Value} {fa : Addr} (X : K.In h) (G : h.Ns mainGlobals mg) (hfa : mg "law" = some (.ref fa))
    {cP cI cU cM pb ph fI tD kD : Addr} {rb rh : List Value}
    {fwh : Addr} {odwh anwh : Option Addr} {slwh : Array (Option Value)} {ocwh kVwh dcwh pmwh cdwh ctwh : Value}
    {fii : Addr} {odii anii : Option Addr} {slii : Array (Option Value)} {ocii kVii dcii pmii cdii ctii : Value}
    {fna : Addr} {odna anna : Option Addr} {slna : Array (Option Value)} {ocna kVna dcna pmna cdna ctna : Value}
    {fle : Addr} {odle anle : Option Addr} {slle : Array (Option Value)} {ocle kVle dcle pmle cdle ctle : Value}
    {fdi : Addr} {oddi andi : Option Addr} {sldi : Array (Option Value)} {ocdi kVdi dcdi pmdi cddi ctdi : Value}
    {fce : Addr} {odce ance : Option Addr} {slce : Array (Option Value)} {occe kVce dcce pmce cdce ctce : Value}
    {fbo : Addr} {odbo anbo : Option Addr} {slbo : Array (Option Value)} {ocbo kVbo dcbo pmbo cdbo ctbo : Value}
    {fta : Addr} {odta anta : Option Addr} {slta : Array (Option Value)} {octa kVta dcta pmta cdta ctta : Value}
    {fba : Addr} {odba anba : Option Addr} {slba : Array (Option Value)} {ocba kVba dcba pmba cdba ctba : Value}
    {fpa : Addr} {odpa anpa : Option Addr} {slpa : Array (Option Value)} {ocpa kVpa dcpa pmpa cdpa ctpa : Value}
    {fst : Addr} {odst anst : Option Addr} {slst : Array (Option Value)} {ocst kVst dcst pmst cdst ctst : Value}
    {ftr : Addr} {odtr antr : Option Addr} {sltr : Array (Option Value)} {octr kVtr dctr pmtr cdtr cttr : Value}
    {fte : Addr} {odte ante : Option Addr} {slte : Array (Option Value)} {octe kVte dcte pmte cdte ctte : Value}
    {fdu : Addr} {oddu andu : Option Addr} {sldu : Array (Option Value)} {ocdu kVdu dcdu pmdu cddu ctdu : Value}
    {fla : Addr} {odla anla : Option Addr} {slla : Array (Option Value)} {ocla kVla dcla pmla cdla ctla : Value}
    {fmb : Addr} {odmb anmb : Option Addr} {slmb : Array (Option Value)} {ocmb kVmb dcmb pmmb cdmb ctmb : Value}
    {fmh : Addr} {odmh anmh : Option Addr} {slmh : Array (Option Value)} {ocmh kVmh dcmh pmmh cdmh ctmh : Value}
    {fms : Addr} {odms anms : Option Addr} {slms : Array (Option Value)} {ocms kVms dcms pmms cdms ctms : Value}
    {fmr : Addr} {odmr anmr : Option Addr} {slmr : Array (Option Value)} {ocmr kVmr dcmr pmmr cdmr ctmr : Value}
    {fmq : Addr} {odmq anmq : Option Addr} {slmq : Array (Option Value)} {ocmq kVmq dcmq pmmq cdmq ctmq : Value}
    {fmd : Addr} {odmd anmd : Option Addr} {slmd : Array (Option Value)} {ocmd kVmd dcmd pmmd cdmd ctmd : Value}
    {fme : Addr} {odme anme : Option Addr} {slme : Array (Option Value)} {ocme kVme dcme pmme cdme ctme : Value}
    {fmf : Addr} {odmf anmf : Option Addr} {slmf : Array (Option Value)} {ocmf kVmf dcmf pmmf cdmf ctmf : Value}
    {fmi : Addr} {odmi anmi : Option Addr} {slmi : Array (Option Value)} {ocmi kVmi dcmi pmmi cdmi ctmi : Value}
    {fmu : Addr} {odmu anmu : Option Addr} {slmu : Array (Option Value)} {ocmu kVmu dcmu pmmu cdmu ctmu : Value}
    (awh : PySem.W.nsIn K mainGlobals "_is_whole" = some (some (.ref fwh))) (lwh : K.lookup fwh = some ⟨ocwh, odwh, .func (PySem.W.fnOf "_is_whole" "_is_whole" (defArgs sWhole) (defBody sWhole) (defScope sWhole) .none kVwh dcwh pmwh anwh cdwh ctwh), slwh⟩) (cwh : PySem.W.codeIn K cdwh "_is_whole" = true) (kwh : PySem.W.keepIn K (.ref fwh) = true)
    (aii : PySem.W.nsIn K mainGlobals "is_integer" = some (some (.ref fii))) (lii : K.lookup fii = some ⟨ocii, odii, .func (PySem.W.fnOf "is_integer" "is_integer" (defArgs sIsInt) (defBody sIsInt) (defScope sIsInt) .none kVii dcii pmii anii cdii ctii), slii⟩) (cii : PySem.W.codeIn K cdii "is_integer" = true) (kii : PySem.W.keepIn K (.ref fii) = true)
    (ana : PySem.W.nsIn K mainGlobals "is_name" = some (some (.ref fna))) (lna : K.lookup fna = some ⟨ocna, odna, .func (PySem.W.fnOf "is_name" "is_name" (defArgs sIsName) (defBody sIsName) (defScope sIsName) .none kVna dcna pmna anna cdna ctna), slna⟩) (cna : PySem.W.codeIn K cdna "is_name" = true) (kna : PySem.W.keepIn K (.ref fna) = true)
    (ale : PySem.W.nsIn K mainGlobals "_least_shift" = some (some (.ref fle))) (lle : K.lookup fle = some ⟨ocle, odle, .func (PySem.W.fnOf "_least_shift" "_least_shift" (defArgs sLeast) (defBody sLeast) (defScope sLeast) .none kVle dcle pmle anle cdle ctle), slle⟩) (cle : PySem.W.codeIn K cdle "_least_shift" = true) (kle : PySem.W.keepIn K (.ref fle) = true)
    (adi : PySem.W.nsIn K mainGlobals "_difference" = some (some (.ref fdi))) (ldi : K.lookup fdi = some ⟨ocdi, oddi, .func (PySem.W.fnOf "_difference" "_difference" (defArgs sDiff) (defBody sDiff) (defScope sDiff) .none kVdi dcdi pmdi andi cddi ctdi), sldi⟩) (cdi : PySem.W.codeIn K cddi "_difference" = true) (kdi : PySem.W.keepIn K (.ref fdi) = true)
    (ace : PySem.W.nsIn K mainGlobals "_law_cell" = some (some (.ref fce))) (lce : K.lookup fce = some ⟨occe, odce, .func (PySem.W.fnOf "_law_cell" "_law_cell" (defArgs sCell) (defBody sCell) (defScope sCell) .none kVce dcce pmce ance cdce ctce), slce⟩) (cce : PySem.W.codeIn K cdce "_law_cell" = true) (kce : PySem.W.keepIn K (.ref fce) = true)
    (abo : PySem.W.nsIn K mainGlobals "_law_box" = some (some (.ref fbo))) (lbo : K.lookup fbo = some ⟨ocbo, odbo, .func (PySem.W.fnOf "_law_box" "_law_box" (defArgs sBox) (defBody sBox) (defScope sBox) .none kVbo dcbo pmbo anbo cdbo ctbo), slbo⟩) (cbo : PySem.W.codeIn K cdbo "_law_box" = true) (kbo : PySem.W.keepIn K (.ref fbo) = true)
    (ata : PySem.W.nsIn K mainGlobals "_law_take" = some (some (.ref fta))) (lta : K.lookup fta = some ⟨octa, odta, .func (PySem.W.fnOf "_law_take" "_law_take" (defArgs sTake) (defBody sTake) (defScope sTake) .none kVta dcta pmta anta cdta ctta), slta⟩) (cta : PySem.W.codeIn K cdta "_law_take" = true) (kta : PySem.W.keepIn K (.ref fta) = true)
    (aba : PySem.W.nsIn K mainGlobals "_law_base" = some (some (.ref fba))) (lba : K.lookup fba = some ⟨ocba, odba, .func (PySem.W.fnOf "_law_base" "_law_base" (defArgs sBase4) (defBody sBase4) (defScope sBase4) .none kVba dcba pmba anba cdba ctba), slba⟩) (cba : PySem.W.codeIn K cdba "_law_base" = true) (kba : PySem.W.keepIn K (.ref fba) = true)
    (apa : PySem.W.nsIn K mainGlobals "_law_pair" = some (some (.ref fpa))) (lpa : K.lookup fpa = some ⟨ocpa, odpa, .func (PySem.W.fnOf "_law_pair" "_law_pair" (defArgs sPair) (defBody sPair) (defScope sPair) .none kVpa dcpa pmpa anpa cdpa ctpa), slpa⟩) (cpa : PySem.W.codeIn K cdpa "_law_pair" = true) (kpa : PySem.W.keepIn K (.ref fpa) = true)
    (ast : PySem.W.nsIn K mainGlobals "_law_step" = some (some (.ref fst))) (lst : K.lookup fst = some ⟨ocst, odst, .func (PySem.W.fnOf "_law_step" "_law_step" (defArgs sStep4) (defBody sStep4) (defScope sStep4) .none kVst dcst pmst anst cdst ctst), slst⟩) (cst : PySem.W.codeIn K cdst "_law_step" = true) (ksst : PySem.W.keepIn K (.ref fst) = true)
    (atr : PySem.W.nsIn K mainGlobals "_law_tried" = some (some (.ref ftr))) (ltr : K.lookup ftr = some ⟨octr, odtr, .func (PySem.W.fnOf "_law_tried" "_law_tried" (defArgs sTried) (defBody sTried) (defScope sTried) .none kVtr dctr pmtr antr cdtr cttr), sltr⟩) (ctr : PySem.W.codeIn K cdtr "_law_tried" = true) (ktr : PySem.W.keepIn K (.ref ftr) = true)
    (ate : PySem.W.nsIn K mainGlobals "_law_text" = some (some (.ref fte))) (lte : K.lookup fte = some ⟨octe, odte, .func (PySem.W.fnOf "_law_text" "_law_text" (defArgs sText4) (defBody sText4) (defScope sText4) .none kVte dcte pmte ante cdte ctte), slte⟩) (cte : PySem.W.codeIn K cdte "_law_text" = true) (kte : PySem.W.keepIn K (.ref fte) = true)
    (adu : PySem.W.nsIn K mainGlobals "_law_due" = some (some (.ref fdu))) (ldu : K.lookup fdu = some ⟨ocdu, oddu, .func (PySem.W.fnOf "_law_due" "_law_due" (defArgs sDue4) (defBody sDue4) (defScope sDue4) .none kVdu dcdu pmdu andu cddu ctdu), sldu⟩) (cdu : PySem.W.codeIn K cddu "_law_due" = true) (kdu : PySem.W.keepIn K (.ref fdu) = true)
    (ala : PySem.W.nsIn K mainGlobals "law" = some (some (.ref fla))) (lla : K.lookup fla = some ⟨ocla, odla, .func (PySem.W.fnOf "law" "law" (defArgs sLaw) (defBody sLaw) (defScope sLaw) .none kVla dcla pmla anla cdla ctla), slla⟩) (cla : PySem.W.codeIn K cdla "law" = true) (kla : PySem.W.keepIn K (.ref fla) = true)
    (aP : PySem.W.nsIn K mainGlobals "Place" = some (some (.ref cP)))
    (aI : PySem.W.nsIn K mainGlobals "InvalidInteger" = some (some (.ref cI)))
    (aU : PySem.W.nsIn K mainGlobals "Unordered" = some (some (.ref cU)))
    (aM : PySem.W.nsIn K mainGlobals "MapError" = some (some (.ref cM)))
    (amb : PySem.W.findIn K (.ref cP) "base" = some (some (.ref pb))) (amb1 : PySem.W.specialIn K (.ref pb) "__get__" = some (some (.builtin "property.__get__"))) (amb2 : PySem.W.takesIn K (.ref pb) = some true) (amb3 : PySem.W.recIn K pb "property" = some (.ref fmb :: rb)) (lmb : K.lookup fmb = some ⟨ocmb, odmb, .func (PySem.W.fnOf "base" "Place.base" (defArgs (inClass sPlace 2)) (defBody (inClass sPlace 2)) (defScope (inClass sPlace 2)) .none kVmb dcmb pmmb anmb cdmb ctmb), slmb⟩) (cmb : PySem.W.codeIn K cdmb "Place.base" = true) (kmb : PySem.W.keepIn K (.ref fmb) = true)
    (amh : PySem.W.findIn K (.ref cP) "shift" = some (some (.ref ph))) (amh1 : PySem.W.specialIn K (.ref ph) "__get__" = some (some (.builtin "property.__get__"))) (amh2 : PySem.W.takesIn K (.ref ph) = some true) (amh3 : PySem.W.recIn K ph "property" = some (.ref fmh :: rh)) (lmh : K.lookup fmh = some ⟨ocmh, odmh, .func (PySem.W.fnOf "shift" "Place.shift" (defArgs (inClass sPlace 3)) (defBody (inClass sPlace 3)) (defScope (inClass sPlace 3)) .none kVmh dcmh pmmh anmh cdmh ctmh), slmh⟩) (cmh : PySem.W.codeIn K cdmh "Place.shift" = true) (kmh : PySem.W.keepIn K (.ref fmh) = true)
    (ams : PySem.W.findIn K (.ref cP) "__str__" = some (some (.ref fms))) (lms : K.lookup fms = some ⟨ocms, odms, .func (PySem.W.fnOf "__str__" "Place.__str__" (defArgs (inClass sPlace 4)) (defBody (inClass sPlace 4)) (defScope (inClass sPlace 4)) .none kVms dcms pmms anms cdms ctms), slms⟩) (cms : PySem.W.codeIn K cdms "Place.__str__" = true) (kms : PySem.W.keepIn K (.ref fms) = true)
    (amr : PySem.W.findIn K (.ref cP) "__repr__" = some (some (.ref fmr))) (lmr : K.lookup fmr = some ⟨ocmr, odmr, .func (PySem.W.fnOf "__repr__" "Place.__repr__" (defArgs (inClass sPlace 5)) (defBody (inClass sPlace 5)) (defScope (inClass sPlace 5)) .none kVmr dcmr pmmr anmr cdmr ctmr), slmr⟩) (cmr : PySem.W.codeIn K cdmr "Place.__repr__" = true) (kmr : PySem.W.keepIn K (.ref fmr) = true)
    (amq : PySem.W.findIn K (.ref cP) "__eq__" = some (some (.ref fmq))) (lmq : K.lookup fmq = some ⟨ocmq, odmq, .func (PySem.W.fnOf "__eq__" "Place.__eq__" (defArgs (inClass sPlace 6)) (defBody (inClass sPlace 6)) (defScope (inClass sPlace 6)) .none kVmq dcmq pmmq anmq cdmq ctmq), slmq⟩) (cmq : PySem.W.codeIn K cdmq "Place.__eq__" = true) (kmq : PySem.W.keepIn K (.ref fmq) = true)
    (amd : PySem.W.findIn K (.ref cP) "__add__" = some (some (.ref fmd))) (lmd : K.lookup fmd = some ⟨ocmd, odmd, .func (PySem.W.fnOf "__add__" "Place.__add__" (defArgs (inClass sPlace 7)) (defBody (inClass sPlace 7)) (defScope (inClass sPlace 7)) .none kVmd dcmd pmmd anmd cdmd ctmd), slmd⟩) (cmd : PySem.W.codeIn K cdmd "Place.__add__" = true) (kmd : PySem.W.keepIn K (.ref fmd) = true)
    (ame : PySem.W.findIn K (.ref cP) "__radd__" = some (some (.ref fme))) (lme : K.lookup fme = some ⟨ocme, odme, .func (PySem.W.fnOf "__radd__" "Place.__radd__" (defArgs (inClass sPlace 8)) (defBody (inClass sPlace 8)) (defScope (inClass sPlace 8)) .none kVme dcme pmme anme cdme ctme), slme⟩) (cme : PySem.W.codeIn K cdme "Place.__radd__" = true) (kme : PySem.W.keepIn K (.ref fme) = true)
    (amf : PySem.W.findIn K (.ref cP) "__sub__" = some (some (.ref fmf))) (lmf : K.lookup fmf = some ⟨ocmf, odmf, .func (PySem.W.fnOf "__sub__" "Place.__sub__" (defArgs (inClass sPlace 9)) (defBody (inClass sPlace 9)) (defScope (inClass sPlace 9)) .none kVmf dcmf pmmf anmf cdmf ctmf), slmf⟩) (cmf : PySem.W.codeIn K cdmf "Place.__sub__" = true) (kmf : PySem.W.keepIn K (.ref fmf) = true)
    (ami : PySem.W.findIn K (.ref cI) "__init__" = some (some (.ref fmi))) (lmi : K.lookup fmi = some ⟨ocmi, odmi, .func (PySem.W.fnOf "__init__" "InvalidInteger.__init__" (defArgs (inClass sInvInt 0)) (defBody (inClass sInvInt 0)) (defScope (inClass sInvInt 0)) .none kVmi dcmi pmmi anmi cdmi ctmi), slmi⟩) (cmi : PySem.W.codeIn K cdmi "InvalidInteger.__init__" = true) (kmi : PySem.W.keepIn K (.ref fmi) = true)
    (amu : PySem.W.findIn K (.ref cU) "__init__" = some (some (.ref fmu))) (lmu : K.lookup fmu = some ⟨ocmu, odmu, .func (PySem.W.fnOf "__init__" "Unordered.__init__" (defArgs (inClass sUnord 0)) (defBody (inClass sUnord 0)) (defScope (inClass sUnord 0)) .none kVmu dcmu pmmu anmu cdmu ctmu), slmu⟩) (cmu : PySem.W.codeIn K cdmu "Unordered.__init__" = true) (kmu : PySem.W.keepIn K (.ref fmu) = true)
    (jms : PySem.W.isFn K (.ref fms) = true)
    (jmr : PySem.W.isFn K (.ref fmr) = true)
    (jmq : PySem.W.isFn K (.ref fmq) = true)
    (jmd : PySem.W.isFn K (.ref fmd) = true)
    (jme : PySem.W.isFn K (.ref fme) = true)
    (jmf : PySem.W.isFn K (.ref fmf) = true)
    (tI : PySem.W.typeIn K (.ref fmi) = some (.type "function"))
    (tU : PySem.W.typeIn K (.ref fmu) = some (.type "function"))
    {odI anI odT : Option Addr} {slI slT : Array (Option Value)} {ocI dcI pmI cdI ctI : Value} {nT : Nat} {kT kS kL kA kM : Tok}
    (iI : PySem.W.findIn K (.ref cP) "__init__" = some (some (.ref fI)))
    (jI : PySem.W.isFn K (.ref fI) = true)
    (lI : K.lookup fI = some ⟨ocI, odI, .func (PySem.W.fnOf "__init__" "Place.__init__" (defArgs (inClass sPlace 0)) (defBody (inClass sPlace 0)) (defScope (inClass sPlace 0)) (.ref tD) (.ref kD) dcI pmI anI cdI ctI), slI⟩)
    (cI_ : PySem.W.codeIn K cdI "Place.__init__" = true)
    (kI : PySem.W.keepIn K (.ref fI) = true)
    (lT : K.lookup tD = some ⟨.type "tuple", odT, .seq #[.str "" kT] nT, slT⟩)
    (sD : PySem.W.nsIn K kD "shift" = some (some (.int 0 kS)))
    (pg : PySem.W.plainGet K cP Str.empty = true)
    (hd : PySem.W.hasDictIn K cP = true)
    (pv_ : PySem.W.plainOver K cP = true)
    (sa : PySem.W.findIn K (.ref cP) "__setattr__" = some (some (.builtin "object.__setattr__")))
    (mk : PySem.W.makesIn K cP = true)
    (kc : PySem.W.keepIn K (.ref cP) = true)
    (nB : PySem.W.findIn K (.ref cP) "_base" = some none)
    (nS : PySem.W.findIn K (.ref cP) "_shift" = some none)
    (ha : PySem.W.findIn K (.ref cP) "__class__" = some (some (.builtin "object.__class__")))
    (hn : PySem.W.specialIn K (.builtin "object.__class__") "__get__" = some (some (.builtin "getset_descriptor.__get__")))
    (htk : PySem.W.takesIn K (.builtin "object.__class__") = some true)
    (hm : PySem.W.mroIn K cP (.type "object") = some true)
    (ks : PySem.W.mroIn K cP (.type "str") = some false)
    (kiP : PySem.W.mroIn K cP (.type "int") = some false)
    (tP : PySem.W.typeIn K (.ref cP) = some (.type "type"))
    (hne : PySem.W.findIn K (.ref cP) "__ne__" = some (some (.builtin "object.__ne__")))
    (sf : PySem.W.selfFirst K cP = true)
    (rsub : PySem.W.findIn K (.ref cP) "__rsub__" = some none)
    (lo1 : PySem.W.subIn K (.ref cP) (.type "int") = some false)
    (lo2 : PySem.W.subIn K (.ref cP) (.type "bool") = some false)
    (iad : PySem.W.findIn K (.ref cP) "__iadd__" = some none)
    (iao : PySem.W.findIn K (.type "object") "__iadd__" = some none)
    (hmro : (PySem.W.clsIn K cP).map (·.mro) = some [.ref cP, .type "object"])
    {qnona qnonr qnons qnonu : Option Value}
    (hnona : PySem.W.findIn K (.type "NoneType") "__add__" = some qnona)
    (hnonr : PySem.W.findIn K (.type "NoneType") "__radd__" = some qnonr)
    (hnons : PySem.W.findIn K (.type "NoneType") "__sub__" = some qnons)
    (hnonu : PySem.W.findIn K (.type "NoneType") "__rsub__" = some qnonu)
    {qboola qboolr qbools qboolu : Option Value}
    (hboola : PySem.W.findIn K (.type "bool") "__add__" = some qboola)
    (hboolr : PySem.W.findIn K (.type "bool") "__radd__" = some qboolr)
    (hbools : PySem.W.findIn K (.type "bool") "__sub__" = some qbools)
    (hboolu : PySem.W.findIn K (.type "bool") "__rsub__" = some qboolu)
    {qinta qintr qints qintu : Option Value}
    (hinta : PySem.W.findIn K (.type "int") "__add__" = some qinta)
    (hintr : PySem.W.findIn K (.type "int") "__radd__" = some qintr)
    (hints : PySem.W.findIn K (.type "int") "__sub__" = some qints)
    (hintu : PySem.W.findIn K (.type "int") "__rsub__" = some qintu)
    {qstra qstrr qstrs qstru : Option Value}
    (hstra : PySem.W.findIn K (.type "str") "__add__" = some qstra)
    (hstrr : PySem.W.findIn K (.type "str") "__radd__" = some qstrr)
    (hstrs : PySem.W.findIn K (.type "str") "__sub__" = some qstrs)
    (hstru : PySem.W.findIn K (.type "str") "__rsub__" = some qstru)
    {qlsta qlstr qlsts qlstu : Option Value}
    (hlsta : PySem.W.findIn K (.type "list") "__add__" = some qlsta)
    (hlstr : PySem.W.findIn K (.type "list") "__radd__" = some qlstr)
    (hlsts : PySem.W.findIn K (.type "list") "__sub__" = some qlsts)
    (hlstu : PySem.W.findIn K (.type "list") "__rsub__" = some qlstu)
    {qtupa qtupr qtups qtupu : Option Value}
    (htupa : PySem.W.findIn K (.type "tuple") "__add__" = some qtupa)
    (htupr : PySem.W.findIn K (.type "tuple") "__radd__" = some qtupr)
    (htups : PySem.W.findIn K (.type "tuple") "__sub__" = some qtups)
    (htupu : PySem.W.findIn K (.type "tuple") "__rsub__" = some qtupu)
    {qdcta qdctr qdcts qdctu : Option Value}
    (hdcta : PySem.W.findIn K (.type "dict") "__add__" = some qdcta)
    (hdctr : PySem.W.findIn K (.type "dict") "__radd__" = some qdctr)
    (hdcts : PySem.W.findIn K (.type "dict") "__sub__" = some qdcts)
    (hdctu : PySem.W.findIn K (.type "dict") "__rsub__" = some qdctu)
    {nmI qqI : Str} {NNI : Addr} {bsI bmI : List Value} {snI : List Str} {subI : List Value} {abI : Bool} {colI : Option Bool} {ddI : Option Addr} {k0I k1I k2I k3I k5I : Option Value}
    (lIx : K.lookup cI = some (excClassObj nmI qqI cI NNI bsI bmI true snI subI abI colI ddI k0I k1I k2I k3I k5I "ValueError.__new__"))
    (rI : PySem.HandSPX.refsVE bmI = true)
    (saIe : PySem.W.findIn K (.ref cI) "__setattr__" = some (some (.builtin "object.__setattr__")))
    (exIe : PySem.W.subIn K (.ref cI) (.type "BaseException") = some true)
    (tyIe : PySem.W.typeIn K (.ref cI) = some (.type "type"))
    (kIe : PySem.W.keepIn K (.ref cI) = true)
    (gaIe : PySem.W.findIn K (.ref cI) "__getattribute__" = some (some (.builtin "BaseException.__getattribute__")))
    (ggIe : PySem.W.findIn K (.ref cI) "__getattr__" = some none)
    (hdIe : PySem.W.hasDictIn K cI = true)
    (suIe : PySem.W.subIn K (.ref cI) (.ref cI) = some true)
    (noIe : PySem.W.findIn K (.ref cI) "value" = some none)
    {nmU qqU : Str} {NNU : Addr} {bsU bmU : List Value} {snU : List Str} {subU : List Value} {abU : Bool} {colU : Option Bool} {ddU : Option Addr} {k0U k1U k2U k3U k5U : Option Value}
    (lUx : K.lookup cU = some (excClassObj nmU qqU cU NNU bsU bmU true snU subU abU colU ddU k0U k1U k2U k3U k5U "ValueError.__new__"))
    (rU : PySem.HandSPX.refsVE bmU = true)
    (saUe : PySem.W.findIn K (.ref cU) "__setattr__" = some (some (.builtin "object.__setattr__")))
    (exUe : PySem.W.subIn K (.ref cU) (.type "BaseException") = some true)
    (tyUe : PySem.W.typeIn K (.ref cU) = some (.type "type"))
    (kUe : PySem.W.keepIn K (.ref cU) = true)
    (gaUe : PySem.W.findIn K (.ref cU) "__getattribute__" = some (some (.builtin "BaseException.__getattribute__")))
    (ggUe : PySem.W.findIn K (.ref cU) "__getattr__" = some none)
    (hdUe : PySem.W.hasDictIn K cU = true)
    (suUe : PySem.W.subIn K (.ref cU) (.ref cU) = some true)
    (nfUe : PySem.W.findIn K (.ref cU) "left" = some none)
    (ngUe : PySem.W.findIn K (.ref cU) "right" = some none)
    (suUI : PySem.W.subIn K (.ref cU) (.ref cI) = some false)
    (rdM : PySem.W.readsIn K cM (.type "type") = true)
    (gaM : PySem.W.specialIn K (.ref cM) "__getattribute__" = some (some (.builtin "type.__getattribute__")))
    (fcM : PySem.W.findCls K (.ref cM) (.type "type") "__init__" = some (.val (.builtin "ValueError.__init__")))
    (gL : PySem.W.nsIn K mainGlobals "_LONGEST_NAME" = some (some (.int 6 kL)))
    (gA : PySem.W.nsIn K mainGlobals "_LETTERS" = some (some (.str abc kA)))
    (gM : PySem.W.nsIn K mainGlobals "_MOST" = some (some (.int 3 kM)))
    (zlen : PySem.W.nsIn K mainGlobals "len" = some none)
    (zmax : PySem.W.nsIn K mainGlobals "max" = some none)
    (zmin : PySem.W.nsIn K mainGlobals "min" = some none)
    (zint : PySem.W.nsIn K mainGlobals "int" = some none)
    (zrange : PySem.W.nsIn K mainGlobals "range" = some none)
    (zisinstance : PySem.W.nsIn K mainGlobals "isinstance" = some none)
    (zbool : PySem.W.nsIn K mainGlobals "bool" = some none)
    (zstr : PySem.W.nsIn K mainGlobals "str" = some none)
    (zall : PySem.W.nsIn K mainGlobals "all" = some none)
    (zrepr : PySem.W.nsIn K mainGlobals "repr" = some none)
    : ∃ fd : FuncData, (∀ (s : Shared) (v : Value), BindsTo s fd ⟨[v], []⟩ [("_law_script", v)]) ∧ ∀ base : Heap, K.In base → base.Ns mainGlobals mg → FnG l.prog w K mg base CX0 8 fa fd ["_law_script"] (spLaw K) := by
  have e := hfa.symm.trans (PySem.W.mg_of X G ala)
  cases e
  have B : Blt mg := ⟨PySem.W.mg_none_of X G zlen, PySem.W.mg_none_of X G zmax, PySem.W.mg_none_of X G zmin, PySem.W.mg_none_of X G zint, PySem.W.mg_none_of X G zrange⟩
  have D : Blp mg := ⟨PySem.W.mg_none_of X G zisinstance, PySem.W.mg_none_of X G zbool, PySem.W.mg_none_of X G zstr, PySem.W.mg_none_of X G zall⟩
  have Fwh := fun_mk (st := sWhole) lwh cwh kwh
  have bwh := Fwh.binds (ps := ["value"]) fun _ _ _ _ _ _ us hl => match us, hl with | [_], _ => rfl
  have mwh := PySem.W.mg_of X G awh
  have Fii := fun_mk (st := sIsInt) lii cii kii
  have bii := Fii.binds (ps := ["value", "low", "high"]) fun _ _ _ _ _ _ us hl => match us, hl with | [_, _, _], _ => rfl
  have mii := PySem.W.mg_of X G aii
  have Fna := fun_mk (st := sIsName) lna cna kna
  have bna := Fna.binds (ps := ["value"]) fun _ _ _ _ _ _ us hl => match us, hl with | [_], _ => rfl
  have mna := PySem.W.mg_of X G ana
  have Fle := fun_mk (st := sLeast) lle cle kle
  have ble := Fle.binds (ps := ["base"]) fun _ _ _ _ _ _ us hl => match us, hl with | [_], _ => rfl
  have mle := PySem.W.mg_of X G ale
  have Fdi := fun_mk (st := sDiff) ldi cdi kdi
  have bdi := Fdi.binds (ps := ["one", "other"]) fun _ _ _ _ _ _ us hl => match us, hl with | [_, _], _ => rfl
  have mdi := PySem.W.mg_of X G adi
  have Fce := fun_mk (st := sCell) lce cce kce
  have bce := Fce.binds (ps := ["_law_script", "_law_k"]) fun _ _ _ _ _ _ us hl => match us, hl with | [_, _], _ => rfl
  have mce := PySem.W.mg_of X G ace
  have Fbo := fun_mk (st := sBox) lbo cbo kbo
  have bbo := Fbo.binds (ps := ["_law_cell_here"]) fun _ _ _ _ _ _ us hl => match us, hl with | [_], _ => rfl
  have mbo := PySem.W.mg_of X G abo
  have Fta := fun_mk (st := sTake) lta cta kta
  have bta := Fta.binds (ps := ["_law_box_here", "_law_many"]) fun _ _ _ _ _ _ us hl => match us, hl with | [_, _], _ => rfl
  have mta := PySem.W.mg_of X G ata
  have Fba := fun_mk (st := sBase4) lba cba kba
  have bba := Fba.binds (ps := ["_law_box_here"]) fun _ _ _ _ _ _ us hl => match us, hl with | [_], _ => rfl
  have mba := PySem.W.mg_of X G aba
  have Fpa := fun_mk (st := sPair) lpa cpa kpa
  have bpa := Fpa.binds (ps := ["_law_box_here"]) fun _ _ _ _ _ _ us hl => match us, hl with | [_], _ => rfl
  have mpa := PySem.W.mg_of X G apa
  have Fst := fun_mk (st := sStep4) lst cst ksst
  have bst := Fst.binds (ps := ["_law_box_here"]) fun _ _ _ _ _ _ us hl => match us, hl with | [_], _ => rfl
  have mst := PySem.W.mg_of X G ast
  have Ftr := fun_mk (st := sTried) ltr ctr ktr
  have btr := Ftr.binds (ps := ["_law_way", "_law_one", "_law_other"]) fun _ _ _ _ _ _ us hl => match us, hl with | [_, _, _], _ => rfl
  have mtr := PySem.W.mg_of X G atr
  have Fte := fun_mk (st := sText4) lte cte kte
  have bte := Fte.binds (ps := ["_law_root", "_law_many"]) fun _ _ _ _ _ _ us hl => match us, hl with | [_, _], _ => rfl
  have mte := PySem.W.mg_of X G ate
  have Fdu := fun_mk (st := sDue4) ldu cdu kdu
  have bdu := Fdu.binds (ps := ["_law_way", "_law_pair_here", "_law_step_here"]) fun _ _ _ _ _ _ us hl => match us, hl with | [_, _, _], _ => rfl
  have mdu := PySem.W.mg_of X G adu
  have Fla := fun_mk (st := sLaw) lla cla kla
  have bla := Fla.binds (ps := ["_law_script"]) fun _ _ _ _ _ _ us hl => match us, hl with | [_], _ => rfl
  have mla := PySem.W.mg_of X G ala
  have Fmb := fun_mk (st := (inClass sPlace 2)) lmb cmb kmb
  have bmb := Fmb.binds (ps := ["self"]) fun _ _ _ _ _ _ us hl => match us, hl with | [_], _ => rfl
  have Fmh := fun_mk (st := (inClass sPlace 3)) lmh cmh kmh
  have bmh := Fmh.binds (ps := ["self"]) fun _ _ _ _ _ _ us hl => match us, hl with | [_], _ => rfl
  have Fms := fun_mk (st := (inClass sPlace 4)) lms cms kms
  have bms := Fms.binds (ps := ["self"]) fun _ _ _ _ _ _ us hl => match us, hl with | [_], _ => rfl
  have Fmr := fun_mk (st := (inClass sPlace 5)) lmr cmr kmr
  have bmr := Fmr.binds (ps := ["self"]) fun _ _ _ _ _ _ us hl => match us, hl with | [_], _ => rfl
  have Fmq := fun_mk (st := (inClass sPlace 6)) lmq cmq kmq
  have bmq := Fmq.binds (ps := ["self", "other"]) fun _ _ _ _ _ _ us hl => match us, hl with | [_, _], _ => rfl
  have Fmd := fun_mk (st := (inClass sPlace 7)) lmd cmd kmd
  have bmd := Fmd.binds (ps := ["self", "other"]) fun _ _ _ _ _ _ us hl => match us, hl with | [_, _], _ => rfl
  have Fme := fun_mk (st := (inClass sPlace 8)) lme cme kme
  have bme := Fme.binds (ps := ["self", "other"]) fun _ _ _ _ _ _ us hl => match us, hl with | [_, _], _ => rfl
  have Fmf := fun_mk (st := (inClass sPlace 9)) lmf cmf kmf
  have bmf := Fmf.binds (ps := ["self", "other"]) fun _ _ _ _ _ _ us hl => match us, hl with | [_, _], _ => rfl
  have Fmi := fun_mk (st := (inClass sInvInt 0)) lmi cmi kmi
  have bmi := Fmi.binds (ps := ["self", "value"]) fun _ _ _ _ _ _ us hl => match us, hl with | [_, _], _ => rfl
  have Fmu := fun_mk (st := (inClass sUnord 0)) lmu cmu kmu
  have bmu := Fmu.binds (ps := ["self", "left", "right"]) fun _ _ _ _ _ _ us hl => match us, hl with | [_, _, _], _ => rfl
  have FI : FunD K "__init__" "Place.__init__" (defArgs (inClass sPlace 0)) (defBody (inClass sPlace 0)) (defScope (inClass sPlace 0)) [.str ""] [("shift", .int 0)] fI _ :=
    ⟨⟨ocI, odI, .ref tD, .ref kD, dcI, pmI, anI, cdI, ctI, slI, rfl, lI, cI_, .inr ⟨by simp, tD, _, [.str "" kT], nT, rfl, lT, rfl, .cons ⟨kT, rfl⟩ .nil⟩, .inr ⟨kD, rfl, fun q hq => by
      rw [List.mem_singleton.mp hq]
      exact ⟨_, sD, ⟨kS, rfl⟩⟩⟩⟩, kI⟩
  obtain ⟨its1, mv1, kb1⟩ := FunD.kbinds (ps := ["self", "base", "shift"]) FI 1 ["shift"] [] (fun us its _ ws => us ++ its ++ ws) (by simp) (by simp) (fun q hq => nomatch hq) (fun r1 r2 _ r4 => (r1.append r2).append r4)
    (fun T D doc pm an cdv ct us its mv ws l1 l2 l3 l4 => match us, its, mv, ws, l1, l2, l3, l4 with
    | [_], [_], [], [_], _, _, _, _ => ⟨_, rfl, rfl⟩)
  obtain ⟨its2, mv2, kb2⟩ := FunD.kbinds (ps := ["self", "base", "shift"]) FI 2 ["shift"] [] (fun us _ _ ws => us ++ ws) (by simp) (by simp) (fun q hq => nomatch hq) (fun r1 _ _ r4 => r1.append r4)
    (fun T D doc pm an cdv ct us its mv ws l1 l2 l3 l4 => match us, its, mv, ws, l1, l2, l3, l4 with
    | [_, _], [_], [], [_], _, _, _, _ => ⟨_, rfl, rfl⟩)
  have Z : Cpl K mg cP := ⟨⟨pg, hd, pv_, sa⟩, nB, nS, PySem.W.mg_of X G aP⟩
  have Y : Pty K cP := ⟨⟨pg, hd, pv_, sa⟩, ha, hn, htk, hm⟩
  have N1 : Npl K cP := ⟨kit_ref hd tP rfl, kit_ref hd tP rfl, kit_ref hd tP rfl, kit_ref hd tP rfl⟩
  have N2 : Npc K cP := ⟨kit_ref hd tP rfl, kit_ref hd tP rfl, kit_ref hd tP rfl⟩
  have ki : PySem.W.kitOne K (.ref cP) (.type "int") = some false := kit_own kiP (by decide +kernel)
  have kst : PySem.W.kitOne K (.ref cP) (.type "str") = some false := kit_own ks (by decide +kernel)
  have M : Mk K cP fI := ⟨mk, iI, jI, kc⟩
  have TI : Xcl K mg "InvalidInteger" cI "value" := ⟨⟨⟨nmI, qqI, NNI, bsI, bmI, snI, subI, abI, colI, ddI, k0I, k1I, k2I, k3I, k5I, lIx, rI⟩, saIe, exIe, tyIe, kIe⟩, noIe, PySem.W.mg_of X G aI, ⟨gaIe, ggIe, exIe, hdIe⟩⟩
  have TU : Xc2 K mg "Unordered" cU "left" "right" := ⟨⟨⟨nmU, qqU, NNU, bsU, bmU, snU, subU, abU, colU, ddU, k0U, k1U, k2U, k3U, k5U, lUx, rU⟩, saUe, exUe, tyUe, kUe⟩, nfUe, ngUe, PySem.W.mg_of X G aU, ⟨gaUe, ggUe, exUe, hdUe⟩⟩
  have eI : PySem.W.exmOne K (.ref cI) (.ref cI) = some true := PySem.W.exm_ref exIe hdIe tyIe suIe
  have eU : PySem.W.exmOne K (.ref cU) (.ref cU) = some true := PySem.W.exm_ref exUe hdUe tyUe suUe
  have eX : PySem.W.exmOne K (.ref cU) (.ref cI) = some false := PySem.W.exm_ref exIe hdIe tyIe suUI
  have pB : PropOf K cP "base" pb fmb := ⟨amb, amb1, amb2, rb, amb3⟩
  have pS : PropOf K cP "shift" ph fmh := ⟨amh, amh1, amh2, rh, amh3⟩
  have TA : Lty K cP .Add fmd := ⟨sf, amd, jmd, ⟨_, ame, .inr ⟨_, rfl⟩⟩⟩
  have TS : Lty K cP .Sub fmf := ⟨sf, amf, jmf, ⟨_, rsub, .inl rfl⟩⟩
  have RA : Rts K cP .Add := ⟨⟨⟨_, hnona⟩, ⟨_, hnonr⟩, rfl⟩, ⟨⟨_, hboola⟩, ⟨_, hboolr⟩, rfl⟩, ⟨⟨_, hinta⟩, ⟨_, hintr⟩, rfl⟩, ⟨⟨_, hstra⟩, ⟨_, hstrr⟩, rfl⟩, ⟨⟨_, hlsta⟩, ⟨_, hlstr⟩, rfl⟩, ⟨⟨_, htupa⟩, ⟨_, htupr⟩, rfl⟩, ⟨⟨_, hdcta⟩, ⟨_, hdctr⟩, rfl⟩⟩
  have RS : Rts K cP .Sub := ⟨⟨⟨_, hnons⟩, ⟨_, hnonu⟩, rfl⟩, ⟨⟨_, hbools⟩, ⟨_, hboolu⟩, rfl⟩, ⟨⟨_, hints⟩, ⟨_, hintu⟩, rfl⟩, ⟨⟨_, hstrs⟩, ⟨_, hstru⟩, rfl⟩, ⟨⟨_, hlsts⟩, ⟨_, hlstu⟩, rfl⟩, ⟨⟨_, htups⟩, ⟨_, htupu⟩, rfl⟩, ⟨⟨_, hdcts⟩, ⟨_, hdctu⟩, rfl⟩⟩
  refine ⟨PySem.W.fnOf "law" "law" (defArgs sLaw) (defBody sLaw) (defScope sLaw) .none kVla dcla pmla anla cdla ctla, fun s v => .of_eq rfl, fun base _ _ => ?_⟩
  have gm := PySem.W.mg_of X G gM
  have Gwh : FnOk l.prog w K mg base CX0 1 _ _ ["value"] (spWhole K) := ok_whole Fwh B D
  have Gii : FnOk l.prog w K mg base CX0 2 _ _ ["value", "low", "high"] (spIsInt K) := ok_isInt Fii Gwh mwh kwh bwh
  have Gna : FnOk l.prog w K mg base CX0 1 _ _ ["value"] (spIsName K) := ok_isName Fna B D (PySem.W.mg_of X G gL) (PySem.W.mg_of X G gA)
  have Gle : FnOk l.prog w K mg base CX0 1 _ _ ["base"] spLeast := ok_least Fle gm
  have GI : FnOk l.prog w K mg base CX0 3 fI _ ["self", "base", "shift"] (spInit cP) := ok_init FI Z Gna mna kna bna Gii mii kii bii Gle mle kle ble gm
  have T : Tk l.prog w K mg base fta _ := ⟨ok_take Fta B, mta, kta, bta⟩
  have GXI : FnOk l.prog w K mg base CX0 1 fmi _ ["self", "value"] (spX1 K cI "value") := ok_xinitI Fmi TI (PySem.W.mg_of X G aM) ⟨rdM, gaM⟩ fcM
  have GXU : FnOk l.prog w K mg base CX0 1 fmu _ ["self", "left", "right"] (spX2 K cU "left" "right") := ok_xinitU Fmu TU (PySem.W.mg_of X G aM) ⟨rdM, gaM⟩ fcM
  have Gb : FnOk l.prog w K mg base CX0 1 fmb _ ["self"] (spBase cP) := ok_base Fmb Z
  have Gs : FnOk l.prog w K mg base CX0 1 fmh _ ["self"] (spShift cP) := ok_shift Fmh Z
  have GbC : FnC l.prog w K mg base 1 fmb _ ["self"] (spBase cP) := ok_baseC Fmb Z
  have GsC : FnC l.prog w K mg base 1 fmh _ ["self"] (spShift cP) := ok_shiftC Fmh Z
  have GS : FnOk l.prog w K mg base CX0 1 fms _ ["self"] (spStr cP) := ok_str Fms Z D
  have GRp : FnOk l.prog w K mg base CX0 1 fmr _ ["self"] (spRepr cP) := ok_repr Fmr Z
  have GE : FnOk l.prog w K mg base CX0 1 fmq _ ["self", "other"] (spEq K cP) := ok_eq Fmq Z Y D
  have W := Movs.mk Z Gii mii kii bii Gle mle kle ble gm M GI kb2 TI GXI ami tI bmi
  have GA := ok_addR Fmd W
  have GRd := ok_radd Fme GA bmd TA RA.int RA.bool
  have GDi := ok_dif Fdi Z TU GXU amu tU bmu pB Gb bmb pS Gs bmh
  have GSb := ok_sub Fmf W D Y GDi mdi kdi bdi
  have O := Ops.mk GA bmd TA GRd bme ame jme lo1 lo2 GSb bmf TS
  have L := Plc.mk Z Y pB Gb bmb GbC GsC pS Gs bmh GS bms ams jms GE bmq amq jmq hne
  have Gba : C1 l.prog w K mg base "_law_base" 2 ["_law_box_here"] spBase4 fba _ := ⟨ok_base4 Fba T B, mba, kba, bba⟩
  have Gte : C1 l.prog w K mg base "_law_text" 1 ["_law_root", "_law_many"] spText3 fte _ := ⟨ok_text4 Fte, mte, kte, bte⟩
  exact ok_law Fla B D N1 N2 ki kst (PySem.W.mg_none_of X G zrepr) T ⟨ok_cell Fce B, mce, kce, bce⟩ ⟨ok_box Fbo B, mbo, kbo, bbo⟩ ⟨ok_pair Fpa T Gba, mpa, kpa, bpa⟩ ⟨ok_step4 Fst T B Z M GI kb1, mst, ksst, bst⟩
    ⟨ok_tried Ftr O L D N1 M GI kb2 TI TU eI eU eX, mtr, ktr, btr⟩ ⟨ok_due4 Fdu B D Gte, mdu, kdu, bdu⟩ Gte M GI kb2 O L RA RS hmro iad iao GRp bmr amr jmr
theorem walk {l : PySem.W.OpenLaw} {q : Program} {loose : List Str} {XP : (Str → Option Value) → Heap → Prop} {YP : World → Heap → Prop} {d : DefRec} {K : Params → PySem.W.Frag} (hn : l.most = some 63) (hdf : d.params.defaults = [])
    (hY : ∀ (w : World) (h : Heap), YP w h → (K w.params).In h)
    (F : ∀ (w : World) (mg : Str → Option Value) (fa : Addr) (h : Heap), (K w.params).In h → h.Ns mainGlobals mg → mg d.name = some (.ref fa) →
      ∃ fd : FuncData, (∀ (s : Shared) (u : Value), BindsTo s fd ⟨[u], []⟩ [("_law_script", u)]) ∧ ∀ base : Heap, (K w.params).In base → base.Ns mainGlobals mg → FnG l.prog w (K w.params) mg base CX0 8 fa fd ["_law_script"] (spLaw (K w.params))) :
    PySem.W.WalkO q loose XP YP l.row.toRowW d [] (fun f vs => PySem.call f vs) :=
  walk_G (n := 63) (k := 8) (x := "_law_script") (CX := fun _ => CX0) (sp := fun w => spLaw (K w.params)) hn (by decide) hdf ⟨rfl, by decide, by decide⟩ hY F (fun _ _ a ns hl _ _ hS => ⟨a, ns, rfl, hS, hl, fun _ => rfl⟩) fun _ _ _ _ _ z => z
end Mz
set_option Elab.async false
set_option linter.all false
set_option maxRecDepth 100000
open PySem PySem.W PyProof.Rows in
set_option maxRecDepth 100000 in
set_option maxHeartbeats 0 in
theorem PySem.Challenge.cw_mapsizes_k04_places_moved_holds : PySem.Challenge.rw_mapsizes_k04_places_moved.Holds := by
  w_on; o_law; k_head; (case hw => w_witness2)
  k_fill
  refine Mz.walk (l := PySem.Challenge.rw_mapsizes_k04_places_moved) rfl rfl (fun w h Y => PySem.W.kIn_of Y) ?F
  case F =>
    intro w mg fa h KX G hmg
    refine' Mz.all_mk (w := w) KX G hmg ?awh ?lwh ?cwh ?kwh ?aii ?lii ?cii ?kii ?ana ?lna ?cna ?kna ?ale ?lle ?cle ?kle ?adi ?ldi ?cdi ?kdi ?ace ?lce ?cce ?kce ?abo ?lbo ?cbo ?kbo ?ata ?lta ?cta ?kta ?aba ?lba ?cba ?kba ?apa ?lpa ?cpa ?kpa ?ast ?lst ?cst ?ksst ?atr ?ltr ?ctr ?ktr ?ate ?lte ?cte ?kte ?adu ?ldu ?cdu ?kdu ?ala ?lla ?cla ?kla ?aP ?aI ?aU ?aM ?amb ?amb1 ?amb2 ?amb3 ?lmb ?cmb ?kmb ?amh ?amh1 ?amh2 ?amh3 ?lmh ?cmh ?kmh ?ams ?lms ?cms ?kms ?amr ?lmr ?cmr ?kmr ?amq ?lmq ?cmq ?kmq ?amd ?lmd ?cmd ?kmd ?ame ?lme ?cme ?kme ?amf ?lmf ?cmf ?kmf ?ami ?lmi ?cmi ?kmi ?amu ?lmu ?cmu ?kmu ?jms ?jmr ?jmq ?jmd ?jme ?jmf ?tI ?tU ?iI ?jI ?lI ?cI_ ?kI ?lT ?sD ?pg ?hd ?pv_ ?sa ?mk ?kc ?nB ?nS ?ha ?hn ?htk ?hm ?ks ?kiP ?tP ?hne ?sf ?rsub ?lo1 ?lo2 ?iad ?iao ?hmro ?hnona ?hnonr ?hnons ?hnonu ?hboola ?hboolr ?hbools ?hboolu ?hinta ?hintr ?hints ?hintu ?hstra ?hstrr ?hstrs ?hstru ?hlsta ?hlstr ?hlsts ?hlstu ?htupa ?htupr ?htups ?htupu ?hdcta ?hdctr ?hdcts ?hdctu ?lIx ?rI ?saIe ?exIe ?tyIe ?kIe ?gaIe ?ggIe ?hdIe ?suIe ?noIe ?lUx ?rU ?saUe ?exUe ?tyUe ?kUe ?gaUe ?ggUe ?hdUe ?suUe ?nfUe ?ngUe ?suUI ?rdM ?gaM ?fcM ?gL ?gA ?gM ?zlen ?zmax ?zmin ?zint ?zrange ?zisinstance ?zbool ?zstr ?zall ?zrepr
    (case awh => k_is)
    (case lwh => k_is)
    (case cwh => k_is)
    (case kwh => k_is)
    (case aii => k_is)
    (case lii => k_is)
    (case cii => k_is)
    (case kii => k_is)
    (case ana => k_is)
    (case lna => k_is)
    (case cna => k_is)
    (case kna => k_is)
    (case ale => k_is)
    (case lle => k_is)
    (case cle => k_is)
    (case kle => k_is)
    (case adi => k_is)
    (case ldi => k_is)
    (case cdi => k_is)
    (case kdi => k_is)
    (case ace => k_is)
    (case lce => k_is)
    (case cce => k_is)
    (case kce => k_is)
    (case abo => k_is)
    (case lbo => k_is)
    (case cbo => k_is)
    (case kbo => k_is)
    (case ata => k_is)
    (case lta => k_is)
    (case cta => k_is)
    (case kta => k_is)
    (case aba => k_is)
    (case lba => k_is)
    (case cba => k_is)
    (case kba => k_is)
    (case apa => k_is)
    (case lpa => k_is)
    (case cpa => k_is)
    (case kpa => k_is)
    (case ast => k_is)
    (case lst => k_is)
    (case cst => k_is)
    (case ksst => k_is)
    (case atr => k_is)
    (case ltr => k_is)
    (case ctr => k_is)
    (case ktr => k_is)
    (case ate => k_is)
    (case lte => k_is)
    (case cte => k_is)
    (case kte => k_is)
    (case adu => k_is)
    (case ldu => k_is)
    (case cdu => k_is)
    (case kdu => k_is)
    (case ala => k_is)
    (case lla => k_is)
    (case cla => k_is)
    (case kla => k_is)
    (case aP => k_is)
    (case aI => k_is)
    (case aU => k_is)
    (case aM => k_is)
    (case amb => k_is)
    (case amb1 => k_is)
    (case amb2 => k_is)
    (case amb3 => k_is)
    (case lmb => k_is)
    (case cmb => k_is)
    (case kmb => k_is)
    (case amh => k_is)
    (case amh1 => k_is)
    (case amh2 => k_is)
    (case amh3 => k_is)
    (case lmh => k_is)
    (case cmh => k_is)
    (case kmh => k_is)
    (case ams => k_is)
    (case lms => k_is)
    (case cms => k_is)
    (case kms => k_is)
    (case amr => k_is)
    (case lmr => k_is)
    (case cmr => k_is)
    (case kmr => k_is)
    (case amq => k_is)
    (case lmq => k_is)
    (case cmq => k_is)
    (case kmq => k_is)
    (case amd => k_is)
    (case lmd => k_is)
    (case cmd => k_is)
    (case kmd => k_is)
    (case ame => k_is)
    (case lme => k_is)
    (case cme => k_is)
    (case kme => k_is)
    (case amf => k_is)
    (case lmf => k_is)
    (case cmf => k_is)
    (case kmf => k_is)
    (case ami => k_is)
    (case lmi => k_is)
    (case cmi => k_is)
    (case kmi => k_is)
    (case amu => k_is)
    (case lmu => k_is)
    (case cmu => k_is)
    (case kmu => k_is)
    (case jms => k_is)
    (case jmr => k_is)
    (case jmq => k_is)
    (case jmd => k_is)
    (case jme => k_is)
    (case jmf => k_is)
    (case tI => k_is)
    (case tU => k_is)
    (case iI => k_is)
    (case jI => k_is)
    (case lI => k_is)
    (case cI_ => k_is)
    (case kI => k_is)
    (case lT => k_is)
    (case sD => k_is)
    (case pg => k_is)
    (case hd => k_is)
    (case pv_ => k_is)
    (case sa => k_is)
    (case mk => k_is)
    (case kc => k_is)
    (case nB => k_is)
    (case nS => k_is)
    (case ha => k_is)
    (case hn => k_is)
    (case htk => k_is)
    (case hm => k_is)
    (case ks => k_is)
    (case kiP => k_is)
    (case tP => k_is)
    (case hne => k_is)
    (case sf => k_is)
    (case rsub => k_is)
    (case lo1 => k_is)
    (case lo2 => k_is)
    (case iad => k_is)
    (case iao => k_is)
    (case hmro => first | rfl | k_is)
    (case hnona => k_is)
    (case hnonr => k_is)
    (case hnons => k_is)
    (case hnonu => k_is)
    (case hboola => k_is)
    (case hboolr => k_is)
    (case hbools => k_is)
    (case hboolu => k_is)
    (case hinta => k_is)
    (case hintr => k_is)
    (case hints => k_is)
    (case hintu => k_is)
    (case hstra => k_is)
    (case hstrr => k_is)
    (case hstrs => k_is)
    (case hstru => k_is)
    (case hlsta => k_is)
    (case hlstr => k_is)
    (case hlsts => k_is)
    (case hlstu => k_is)
    (case htupa => k_is)
    (case htupr => k_is)
    (case htups => k_is)
    (case htupu => k_is)
    (case hdcta => k_is)
    (case hdctr => k_is)
    (case hdcts => k_is)
    (case hdctu => k_is)
    (case lIx => k_is)
    (case rI => rfl)
    (case saIe => k_is)
    (case exIe => k_is)
    (case tyIe => k_is)
    (case kIe => k_is)
    (case gaIe => k_is)
    (case ggIe => k_is)
    (case hdIe => k_is)
    (case suIe => k_is)
    (case noIe => k_is)
    (case lUx => k_is)
    (case rU => rfl)
    (case saUe => k_is)
    (case exUe => k_is)
    (case tyUe => k_is)
    (case kUe => k_is)
    (case gaUe => k_is)
    (case ggUe => k_is)
    (case hdUe => k_is)
    (case suUe => k_is)
    (case nfUe => k_is)
    (case ngUe => k_is)
    (case suUI => k_is)
    (case rdM => k_is)
    (case gaM => k_is)
    (case fcM => k_is)
    (case gL => k_is)
    (case gA => k_is)
    (case gM => k_is)
    (case zlen => k_is)
    (case zmax => k_is)
    (case zmin => k_is)
    (case zint => k_is)
    (case zrange => k_is)
    (case zisinstance => k_is)
    (case zbool => k_is)
    (case zstr => k_is)
    (case zall => k_is)
    (case zrepr => k_is)
