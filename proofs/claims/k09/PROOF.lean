import PyProof.Rows.All
import Wide.All
import OpenK.AllK
import Wide.FinOn
import PyProof.ReprRoads
import HandS.ForMost
import HandS.EndBits
import HandS.ForExc
import HandS.TryMany
import HandS.ExcInit
import HandS.ExcField
import HandS.ClsMeth
import HandS.IsInst
import KE.KCallOwn
import KE.KFmtOwn
import KE.KOpsOwn
import HandS.FStr
import KE.KxField
import HandS.MakeKwOnly
import HandS.ExcOwn
import PyProof.StrLawsRepr
import PyProof.TwoTypes
import PyProof.FactsAll.bool
import PyProof.FactsAll.int
import OpenK.KMeth
import KE.KEqNest
import HandS.DictComp
import HandS.Set
import HandS.SetBool
import HandS.Walk
import HandS.Star
import OpenK.KOps
import HandS.Wide
import HandS.Property
import HandS.TupAny
import HandS.Zip
import HandS.AnyAll
import HandS.StrMore
import PySem.Challenge.RW_mapsizes_k09_facts_refused
import HandS.More
import HandS.Dict
import HandS.FStrTup
import HandS.Text
import HandS.RaiseMore
import HandS.SetFor
import PyProof.Rows.DictTallyStr
import HandS.SortKw
import PyProof.SumWalkG
import PyProof.Rows.SumAny
import PyProof.WalkInts
import HandS.Style
import HandS.ExcIs
set_option Elab.async false
set_option linter.all false
set_option maxRecDepth 100000
set_option maxHeartbeats 4000000
/-! calls under which no container is being shown: the promises of defs that show lists -/
namespace Mz
open PySem PySem.Spec PyProof.Rows L2
section
variable {P : Program} {w : World} {K : PySem.W.Frag} {mg : Str → Option Value} {base : Heap} {CX : CXT} {k : Nat} {f : Addr} {fd : FuncData} {ps : List Str} {sp : Sp}
theorem quiet_deeper {A : Around} {env : Env} (h : A.guards = some []) : (A.deeper env).guards = some [] := h
theorem quiet_make {A : Around} {c : Addr} {us : List Value} {kw : List (Str × Value)} (h : A.guards = some []) : (A.under (.builtin "type.__call__" ⟨.ref c :: us, kw⟩)).guards = some [] := by
  have e : (Code.builtin "type.__call__" ⟨.ref c :: us, kw⟩).guards = [] := by
    have e2 : (Code.builtin "type.__call__" ⟨.ref c :: us, kw⟩).isGuard = false := by
      show guardIds.contains "type.__call__" = false
      decide +kernel
    unfold Code.guards
    rw [e2]
    rfl
  show pushGuards (Code.builtin "type.__call__" ⟨.ref c :: us, kw⟩).guards A.guards = some []
  rw [e, h]
  rfl
/-- a def's promise where nothing is being shown around it -/
structure FnG (P : Program) (w : World) (K : PySem.W.Frag) (mg : Str → Option Value) (base : Heap) (CX : CXT) (k : Nat) (f : Addr) (fd : FuncData) (ps : List Str) (sp : Sp) : Prop where
  lenG : ∀ vs H Q E, sp vs H Q E → vs.length = ps.length
  runG : ∀ (A : Around) (outer : List Env) (s : Shared) (H : Hp) (args : Args) (us : List Value) (vs : List V) (Q : VK) (E : XK),
    A.guards = some [] → Room k A → Env0 P w K mg base A outer s H → BindsTo s fd args (ps.zip us) → Vals vs us → sp vs H Q E →
    codeAny (model P w) A (.call (.ref f) args) (CR CX outer P w H s Q E) s
theorem FnG.of (F : FnOk P w K mg base CX k f fd ps sp) : FnG P w K mg base CX k f fd ps sp :=
  ⟨F.len, fun A outer s H args us vs Q E _ => F.run A outer s H args us vs Q E⟩
theorem FnG.mono {j : Nat} (F : FnG P w K mg base CX j f fd ps sp) (h : j ≤ k) : FnG P w K mg base CX k f fd ps sp :=
  ⟨F.lenG, fun A outer s H args us vs Q E g r => F.runG A outer s H args us vs Q E g (r.mono h)⟩
/-- the def by its body, told that nothing is being shown -/
theorem fnG_of {name qual : Str} {params : Arguments} {body : List Stmt} {scope : Scope} {dV kV doc pm cdv ct oc : Value} {an od : Option Addr} {osl : Array (Option Value)} {N : List Str}
    (lk : K.lookup f = some ⟨oc, od, .func (PySem.W.fnOf name qual params body scope dV kV doc pm an cdv ct), osl⟩) (hcd : PySem.W.codeIn K cdv qual = true) (S : FnScope N ps scope)
    (len : ∀ vs H Q E, sp vs H Q E → vs.length = ps.length)
    (hb : ∀ (A : Around) (outer : List Env) (s : Shared) (H : Hp) (vs : List V) (Q : VK) (E : XK), A.guards = some [] → Room k (A.deeper (envOfC qual scope s.heap.objs.size f cdv)) → sp vs H Q E →
      ∃ t, PSs (cxOf CX P w K mg base N qual scope f cdv A outer s H E) body t ∧ t { nx := fun _ H' => Q .non H', rt := Q } (start N vs) H) :
    FnG P w K mg base CX (k + 1) f (PySem.W.fnOf name qual params body scope dV kV doc pm an cdv ct) ps sp := by
  refine ⟨len, fun A outer s H args us vs Q E hg hr e0 hbi r hsp => ?_⟩
  -- the promise of the same def at this very place alone: whoever runs it stands at A
  have spA : ∀ (A2 : Around), A2 = A → A2.guards = some [] := fun A2 e => by
    rw [e]
    exact hg
  have lenv := len _ _ _ _ hsp
  have KX : K.In s.heap := e0.mod.kin.keeps fun b o e => (e0.bs b o e).1
  have lim : s.heap.NoLimit := e0.mod.nolimit.keeps fun b o e => (e0.bs b o e).1
  have kinds : ∀ y ∈ ps.zip us, scope.names.lookup y.1 = some .local ∨ (scope.names.lookup y.1 = some .cell ∧ ((cellsFrom (s.heap.objs.size + 1) scope.names []).lookup y.1).isSome = true) := by
    intro y hy
    obtain ⟨n, v⟩ := y
    rcases S.par n (List.of_mem_zip hy).1 with q | q
    · exact .inl q
    · exact .inr ⟨q, PySem.W.cellsFrom_some _ _ _ (.inl q)⟩
  refine codeAny_call_function hr.depth (KX _ _ lk) rfl S.co S.gen rfl (PySem.W.codeRec_of KX hcd) (hbi _ _ _ _ ?_)
  refine wpAny_newFunctionEnv_cells S.kind kinds fun env he s1 x => ?_
  subst he
  refine ⟨lim.keeps x.toInCall.keep, codeAny_func ?_⟩
  obtain ⟨t, ht, hq⟩ := hb A outer s H vs Q E hg (hr.deeper _) hsp
  have I : Inv (cxOf CX P w K mg base N qual scope f cdv A outer s H E) [] (start N vs) H s1 := inv_start S hr.hd e0 lenv r x
  refine wpAny_mono (ht.run [] s1 (start N vs) H _ I hq) (fun fl s' hs => ?_) fun e s' hs => hs
  cases fl with
  | ret u =>
    obtain ⟨v, σ', H', J, rv, q⟩ := hs
    exact ⟨v, H', J.os, J.bare, J.base, J.hok, rv, q⟩
  | next =>
    obtain ⟨σ', H', J, q⟩ := hs
    exact ⟨V.non, H', J.os, J.bare, J.base, J.hok, rfl, q⟩
  | brk =>
    obtain ⟨_, _, _, q⟩ := hs
    exact q.elim
  | cont =>
    obtain ⟨_, _, _, q⟩ := hs
    exact q.elim
end
section
variable {P : Program} {w : World} {K : PySem.W.Frag} {mg : Str → Option Value} {base : Heap}
theorem fun_okG {x qual : Str} {st : Stmt} {f : Addr} {fd : FuncData} {N ps : List Str} {k : Nat} {sp : Sp} (F : Fun K x qual st f fd) (S : FnScope N ps (defScope st)) (len : ∀ vs H Q E, sp vs H Q E → vs.length = ps.length)
    (hb : ∀ (cdv : Value) (A : Around) (outer : List Env) (s : Shared) (H : Hp) (vs : List V) (Q : VK) (E : XK), A.guards = some [] → Room k (A.deeper (envOfC qual (defScope st) s.heap.objs.size f cdv)) → sp vs H Q E →
      ∃ t, PSs (cxOf CX0 P w K mg base N qual (defScope st) f cdv A outer s H E).nox (defBody st) t ∧ t { nx := fun _ H' => Q .non H', rt := Q } (start N vs) H) : FnG P w K mg base CX0 (k + 1) f fd ps sp := by
  obtain ⟨oc, od, kV, doc, pm, an, cdv, ct, osl, rfl, lk, hcd⟩ := F.ex
  refine fnG_of lk hcd S len fun A outer s H vs Q E hg hr hsp => ?_
  obtain ⟨t, h, q⟩ := hb cdv A outer s H vs Q E hg hr hsp
  exact ⟨t, h.nox, q⟩
end
section
variable {X : Cx} {CX : CXT} {k : Nat} {f : Addr} {fd : FuncData} {ps : List Str} {sp : Sp} {dvs : List V} {ds : List Value} {E : XK} {x : Str} {p pos : Pos} {e : Expr} {es : List Expr} {t : TA}
/-- a call of such a def -/
theorem pe_callG (F : FnG X.prog X.w X.K X.mg X.base CX k f fd ps sp) (g0 : X.A.guards = some []) (hr : Room k X.A) (hg : Gl X x) (hm : X.mg x = some (.ref f)) (hk : PySem.W.keepIn X.K (.ref f) = true) (hb : Binds X.K fd ps ds) (hd : Vals dvs ds) (hx : Passes CX X E)
    (ha : PA X (e :: es) t) (hdb : (x == ("__debug__" : Str)) = false := by decide) (he : starEach (e :: es) X.env = (false, eval e X.env) :: starEach es X.env := by rfl) (hpl : (backTo pos (starEach es X.env)).any (·.1) = false := by rfl) :
    PE X (.Call (.Name x p) (e :: es) [] pos) (tCall sp dvs E t) := by
  refine ⟨fun pins s σ H Q I h => wpAny_Call_Name_kw (ld_glob I hg hm ?_ hdb)⟩
  refine PySem.W.callWith_K (h₀ := X.base) I.ok.mod.kin hk (thn (ha.run pos pins s σ H _ I h) fun us s1 hv => ?_) he hpl
  obtain ⟨vs, H1, I1, r, q⟩ := hv
  refine ⟨I1.kIn, ?_⟩
  have r2 : Vals (vs ++ dvs) (us ++ ds) := r.append hd
  have hl : (us ++ ds).length = ps.length := r2.length.symm.trans (F.lenG _ _ _ _ q)
  refine wpAny_call (codeAny_mono (F.runG X.A X.stack s1 H1 ⟨us, []⟩ (us ++ ds) (vs ++ dvs) Q E g0 hr I1.env0 (hb s1 us I1.kIn hl) r2 q) fun r s' hq => ?_)
  cases r with
  | error e => exact hx pins σ H1 s1 e s' I1 hq
  | ok fl =>
    cases fl with
    | ret u => exact I1.after hq
    | next => exact hq.elim
    | brk => exact hq.elim
    | cont => exact hq.elim
end
/-! ### repr of data -/
section
variable {X : Cx}
/-- repr(x), x a bool, None, an int of some size, a text, a list or a tuple of these -/
def rReprD (K : PySem.W.Frag) : List V → Hp → VK → Prop := fun xs H Q => ∃ x d, xs = [x] ∧ Dp K H x d ∧ PyData.showable d = true ∧ PyData.hasDict d = false ∧ PyData.depth d < 60 ∧ (PyData.shown d).length ≤ sizeLine ∧ Q (.str (PyData.shown d)) H
theorem call_reprD (g0 : X.A.guards = some []) (hu : X.A.units + 64 < cLine) : CallR X (.builtin "repr") (rReprD X.K) := by
  intro pins s σ H xs us Q I r h
  obtain ⟨x, d, rfl, hd, hs, hno, hdp, hz, q⟩ := h
  obtain ⟨u, rfl, rx⟩ := vals1 r
  have ends : ∀ h' t tk, (∀ b o, s.heap.get? b = some o → h'.get? b = some o) → EP X pins σ Q (.str (PyData.shown d) t) { s with heap := h', toks := tk } :=
    fun h' t tk hk => ⟨.str _, H, I.kept hk, ⟨_, rfl⟩, q⟩
  have keep : ∀ b o, s.heap.get? b = some o → s.heap.get? b = some o := fun _ _ z => z
  obtain ⟨as, rd⟩ := Dp.reads I d x u hd rx
  cases hd with
  | non =>
    cases rx
    exact PySem.P.repr_of_none (by simpa only [PyData.shown] using ends s.heap _ _ keep)
  | bl b =>
    cases rx
    exact PySem.P.repr_of_bool (by simpa only [PyData.shown] using ends s.heap _ _ keep)
  | int i =>
    obtain ⟨t, rfl⟩ := rx
    have hs' : i.natAbs.log2 < 1920 := by simpa [PyData.showable] using hs
    exact PySem.P.repr_of_int hs' (by simpa only [PyData.shown] using ends s.heap _ _ keep)
  | str z =>
    obtain ⟨t, rfl⟩ := rx
    exact PySem.P.repr_of_str (by simpa only [PyData.shown] using ends s.heap _ _ keep) (by simpa only [PyData.shown] using hz)
  | lst h1 h2 =>
    cases rx
    exact repr_of_reads' rd hs (fun z => by rw [hno] at z; cases z) g0 (by omega) keep (fun h' t tk hk => ends h' t tk hk) hz
  | tup h1 h2 =>
    cases rx
    exact repr_of_reads' rd hs (fun z => by rw [hno] at z; cases z) g0 (by omega) keep (fun h' t tk hk => ends h' t tk hk) hz
end
end Mz
set_option Elab.async false
set_option linter.all false
set_option maxRecDepth 100000
set_option maxHeartbeats 4000000
/-! the end of a row for a law whose promise wants that nothing is being shown -/
namespace Mz
open PySem PySem.Spec PyProof.Rows L2
theorem law_callG {P : Program} {w : World} {K : PySem.W.Frag} {mg mb : Str → Option Value} {CX : CXT} {k : Nat} {fa a : Addr} {fd : FuncData} {x : Str} {sp : Sp} {s1 : Shared} {vs : List Value} {ns : List Int}
    (KX : K.In s1.heap) (hns : s1.heap.Ns mainGlobals mg) (hb : s1.heap.Ns builtinsNs mb) (hbb : ∀ x : Str, x ≠ "__name__" → mb x = bootBuiltins x) (hlim : s1.heap.NoLimit) (hgen : s1.gens = #[])
    (ha : s1.heap.get? a = some { cls := .type "list", data := .seq vs.toArray }) (hi : IntsAre vs ns) (hl : ns.length ≤ sizeLine) (hr : Room k callerA)
    (F : ∀ base : Heap, K.In base → base.Ns mainGlobals mg → FnG P w K mg base CX k fa fd [x] sp) (hbind : ∀ (s : Shared) (u : Value), BindsTo s fd ⟨[u], []⟩ [(x, u)])
    (hsp : ∀ H : Hp, Only H → SqL K H a (ns.map V.int) → sp [.ref a] H (fun v _ => v = .bl true) fun _ _ _ => False)
    (hCX : ∀ H e s', CX [] H s1 (fun _ _ _ => False) e s' → False) :
    codeAny (model P w) callerA (.call (.ref fa) ⟨[.ref a], []⟩) (fun r s' => r = .ok (.ret (.bool true)) ∧ OldK s1.heap s'.heap ∧ s'.os = s1.os ∧ AllBare s'.gens) s1 := by
  have rv := vals_ints hi
  have lenV := hi.length
  have way : ∀ H : Hp, Only H → SqL K H a (ns.map V.int) → HOk P w H s1.heap → (∀ b u, H b = some u → b = a) → (∀ u, H a = some u → K.lookup a = none) →
      codeAny (model P w) callerA (.call (.ref fa) ⟨[.ref a], []⟩) (fun r s' => r = .ok (.ret (.bool true)) ∧ OldK s1.heap s'.heap ∧ s'.os = s1.os ∧ AllBare s'.gens) s1 := by
    intro H hO hS hok hA hK
    have untr : ∀ {b : Addr} {o : Obj} {es : Array DictEntry} {ep : Nat}, s1.heap.get? b = some o → o.data = .dict es ep → H b = none := by
      intro b o es ep e d
      rcases q : H b with _ | u
      · rfl
      · obtain rfl := hA b u q
        rw [ha] at e
        cases e
        exact nomatch (show Data.seq vs.toArray _ = Data.dict es ep from d)
    have nsK : ∀ {b : Addr} {m : Str → Option Value}, s1.heap.Ns b m → (hidT s1.heap H).Ns b m := by
      rintro b m ⟨o, es, ep, e, d, r⟩
      exact ⟨o, es, ep, hidT_get e (untr e d), d, r⟩
    have hKb : K.In (hidT s1.heap H) := by
      intro b o e
      refine hidT_get (KX b o e) ?_
      rcases q : H b with _ | u
      · rfl
      · obtain rfl := hA b u q
        have z := hK u q
        rw [z] at e
        cases e
    have hM : Mod K mg (hidT s1.heap H) := by
      obtain ⟨mc, h1, h2⟩ := hlim
      exact ⟨hKb, nsK hns, ⟨mb, nsK hb, hbb⟩, ⟨mc, nsK h1, h2⟩⟩
    have e0 : Env0 P w K mg (hidT s1.heap H) callerA [] s1 H :=
      ⟨rfl, hM, fun b o e => of_hidT e, Nat.le_of_eq (hidT_size _ _), trivial, fun b z => (nomatch (show b ∈ ([] : List Addr) from z)), hok, .of_eq hgen⟩
    have run := (F _ hKb (nsK hns)).runG callerA [] s1 H ⟨[.ref a], []⟩ [.ref a] [.ref a] _ _ rfl hr e0 (hbind s1 (.ref a)) (.cons rfl .nil) (hsp H hO hS)
    refine codeAny_mono run fun r s' h => ?_
    match r, h with
    | .error e, h => exact (hCX H e s' h).elim
    | .ok .next, h => exact h.elim
    | .ok .brk, h => exact h.elim
    | .ok .cont, h => exact h.elim
    | .ok (.ret u), h =>
      obtain ⟨v, H', os, bare, un, hok2, r2, q⟩ := h
      obtain rfl : v = .bl true := q
      obtain rfl : u = Value.bool true := r2
      refine ⟨rfl, OldK.of_keep fun b o e => ?_, os, bare⟩
      rcases q : H b with _ | u
      · exact un.keep b o e q (fun z => (nomatch (show b ∈ ([] : List Addr) from z))) (by simp)
      · rcases hO b with z | ⟨ob, xs, z⟩
        · rw [q] at z
          cases z
        · have z2 := un.frzs b ob _ z
          obtain ⟨e1, _⟩ := hok b _ z
          obtain ⟨e2, _⟩ := hok2 b _ z2
          rw [e] at e1
          cases e1
          exact e2
  rcases hk : K.lookup a with _ | o
  · have at_a : ∀ {b : Addr} {u : HO}, (if b = a then some (HO.frz { cls := .type "list", data := .seq vs.toArray } (.lst (ns.map V.int))) else none) = some u → b = a ∧ u = .frz { cls := .type "list", data := .seq vs.toArray } (.lst (ns.map V.int)) := by
      intro b u z
      by_cases hba : b = a
      · rw [if_pos hba] at z
        exact ⟨hba, (Option.some.inj z).symm⟩
      · rw [if_neg hba] at z
        cases z
    refine way (fun b => if b = a then some (.frz { cls := .type "list", data := .seq vs.toArray } (.lst (ns.map V.int))) else none) (fun b => ?_) (.inl (.inr ⟨{ cls := .type "list", data := .seq vs.toArray }, if_pos rfl⟩)) (fun b u z => ?_) (fun b u z => (at_a z).1) fun u _ => hk
    · by_cases hba : b = a
      · exact .inr ⟨_, _, if_pos hba⟩
      · exact .inl (if_neg hba)
    · obtain ⟨rfl, rfl⟩ := at_a z
      exact ⟨ha, by rw [List.length_map]; exact hl, vs, _, rv, ha⟩
  · have e := KX a o hk
    rw [ha] at e
    cases e
    refine way (fun _ => none) (fun _ => .inl rfl) (.inr ⟨_, vs.toArray, _, hk, rfl, rfl, rfl, by rw [List.size_toArray, lenV]; exact hl, by simpa using rv⟩) (fun b u z => ?_) (fun b u z => ?_) fun u z => ?_
    · exact nomatch (show (none : Option HO) = some u from z)
    · exact nomatch (show (none : Option HO) = some u from z)
    · exact nomatch (show (none : Option HO) = some u from z)
theorem walk_G {l : PySem.W.OpenLaw} {n k : Nat} {q : Program} {loose : List Str} {XP : (Str → Option Value) → Heap → Prop} {YP : World → Heap → Prop} {d : DefRec} {K : Params → PySem.W.Frag} {CX : World → CXT} {sp : World → Sp} {x : Str}
    (hn : l.most = some n) (hn2 : n ≤ sizeLine) (hdf : d.params.defaults = []) (hr : Room k callerA)
    (hY : ∀ (w : World) (h : Heap), YP w h → (K w.params).In h)
    (F : ∀ (w : World) (mg : Str → Option Value) (fa : Addr) (h : Heap), (K w.params).In h → h.Ns mainGlobals mg → mg d.name = some (.ref fa) →
      ∃ fd : FuncData, (∀ (s : Shared) (u : Value), BindsTo s fd ⟨[u], []⟩ [(x, u)]) ∧ ∀ base : Heap, (K w.params).In base → base.Ns mainGlobals mg → FnG l.prog w (K w.params) mg base (CX w) k fa fd [x] (sp w))
    (hsp : ∀ (w : World) (H : Hp) (a : Addr) (ns : List Int), ns.length ≤ n → (∀ z ∈ ns, Builtin.Int.intBits z ≤ 1048576) → Only H → SqL (K w.params) H a (ns.map V.int) → sp w [.ref a] H (fun v _ => v = .bl true) fun _ _ _ => False)
    (hCX : ∀ (w : World) (H : Hp) (s : Shared) (e : Value) (s' : Shared), CX w [] H s (fun _ _ _ => False) e s' → False) :
    PySem.W.WalkO q loose XP YP l.row.toRowW d [] (fun f vs => PySem.call f vs) := by
  refine Att.attach_callB hn hdf fun w s0 s1 mg mb fa o pm cd doc a vs ns G Y ho hd hcd hmg hobj hints hlen hbits hgen => ?_
  obtain ⟨fd, hb, hF⟩ := F w mg fa _ (hY w _ Y) G.T.g hmg
  exact law_callG (hY w _ Y) G.T.g G.T.b G.T.builtins G.T.nolimit hgen hobj hints (Nat.le_trans hlen hn2) hr hF hb (fun H hO hS => hsp w H a ns hlen hbits hO hS) fun H e s' => hCX w H s1 e s'
end Mz
set_option Elab.async false
set_option linter.all false
set_option maxRecDepth 100000
set_option maxHeartbeats 4000000
/-! try with several clauses «except X as n», the exception met by one of them; what else stands behind these clauses is never looked at -/
namespace Mz
open PySem PySem.Spec PyProof.Rows L2
/-- a clause: the class, the slot of its name, its suite -/
abbrev Cl := Value × Nat × (Addr → Value → Option Addr → TS)
def endsAs (i : Nat) (D : Ends) : Ends := { nx := fun t G => D.nx (t.set i none) G, rt := D.rt, bk := fun t G => D.bk (t.set i none) G, ct := fun t G => D.ct (t.set i none) G }
def wNam (K : PySem.W.Frag) (D : Ends) : List Cl → WX
  | [] => fun _ _ _ _ => False
  | (c, i, ts) :: r => fun cls d t G => ∃ b, PySem.W.exmOne K cls c = some b ∧ (b = true → ∀ a, G a = none → ts a cls d (endsAs i D) (t.set i (some (.ref a))) G) ∧ (b = false → wNam K D r cls d t G)
inductive Cls_ (X : Cx) : List ExceptHandler → List Cl → Prop
  | any (l : List ExceptHandler) : Cls_ X l []
  | one {x n : Str} {c : Value} {i : Nat} {ts : Addr → Value → Option Addr → TS} {st : Stmt} {suite : List Stmt} {p1 p2 : Pos} {hs : List ExceptHandler} {l : List Cl} (hi : X.N[i]? = some n) (hl : X.env.kindOf n = some .local) (hc : Names X x c)
      (hsu : ∀ (a : Addr) (oe : Obj) (cls : Value) (d : Option Addr) (pn : List (Addr × Obj)), Zc cls d oe → (∃ vs, oe.data = .fields vs) → PSs (X.suite a ((a, oe) :: pn)) (st :: suite) (ts a cls d)) (r : Cls_ X hs l) :
      Cls_ X (.ExceptHandler (some (.Name x p1)) (some n) (st :: suite) p2 :: hs) ((c, i, ts) :: l)
section
variable {X : Cx} {body : List Stmt} {hd0 : ExceptHandler} {hds : List ExceptHandler} {tb : WX → TS} {l : List Cl} {pos : Pos}
theorem ps_try_named (hst : X.stack = X.env :: X.outer) (hfr : X.env.frame = some X.env.locals) (hN : X.N.Nodup)
    (hb : ∀ (W : WX) (pn : List (Addr × Obj)) (xe : Value → Shared → Prop), Takes (X.tr pn xe) W → PassesOwn (model X.prog X.w) X.A X.env xe → PSs (X.tr pn xe) body (tb W))
    (hh : Cls_ X (hd0 :: hds) l) : PS X (.Try body (hd0 :: hds) [] [] pos) (fun D σ H => tb (wNam X.K D l) D σ H) := by
  refine ⟨fun pins s σ H D I h => ?_⟩
  have ok := I.ok
  have frames : X.A.frames = some (X.env :: X.outer) := ok.frames.trans (congrArg some hst)
  refine wpAny_Try_except (wpAny_mono ((hb (wNam X.K D l) (X.pn ++ pins) (fun e q1 => wpAny (model X.prog X.w) X.A (noteFrame e X.env) (fun _ q2 => wpAny (model X.prog X.w) X.A (setFlight e none) (fun _ q3 =>
    wpAny (model X.prog X.w) X.A (handleBy e X.env (hd0 :: hds)) (SP X pins D) X.xe q3) X.xe q2) X.xe q1) (fun u s' xx => ?_) PassesOwn.looking).run [] s σ H D (I.toTry _) h) (fun f q1 hsp => ?_) fun e q1 he => he)
  · obtain ⟨a, B, sI, pins2, t, G, cls, d, rfl, JT, nb, up, sky, na, os, ag, wish⟩ := xx
    have J : Inv X pins t G sI := JT.ofTry ok
    have sky2 : Sky B (X.env :: X.outer) a (Zc cls d) X.env.locals s'.heap := hst ▸ sky
    show wpAny (model X.prog X.w) X.A (noteFrame (.ref a) X.env) _ _ _
    refine Sky.land Zc.steady frames hfr sky2 fun g3 fl3 up3 => ?_
    have J3 : Inv X pins t G { s' with heap := g3 } := J.landed nb fl3.1 (up.trans up3) os ag
    obtain ⟨oe3, vs3, he3, hz3, hd3⟩ := fl3.there
    have off : a ∉ frs (X.env :: X.outer) := by
      intro hm
      obtain ⟨_, o2, e2, hnf⟩ := fl3.2.2.1.mem hm
      rw [he3] at e2
      cases e2
      exact hnf _ hd3
    have nL : a ≠ X.env.locals := fun z => off (List.mem_filterMap.mpr ⟨X.env, List.mem_cons_self, by rw [hfr, z]⟩)
    have nF : a ∉ X.fs := by
      intro hm
      obtain ⟨e, he, q⟩ := List.mem_filterMap.mp hm
      exact off (List.mem_filterMap.mpr ⟨e, List.mem_cons_of_mem _ he, q⟩)
    have S3 := J3.suite he3 hd3 na nL nF
    have go : ∀ {k : List ExceptHandler} {m : List Cl}, Cls_ X k m → wNam X.K D m cls d t G → wpAny (model X.prog X.w) X.A (handleBy (.ref a) X.env k) (SP X pins D) X.xe { s' with heap := g3 } := by
      intro k m hk
      induction hk with
      | any k => exact fun z => z.elim
      | @one x n c i ts st suite p1 p2 k2 m2 hi hl hc hsu r ih =>
        rintro ⟨b, hb1, hyes, hno⟩
        have locn : Loc X.env.scope n := .inl hl
        refine wpAny_handleBy_cons (codeAny_handlers_test ?_) (by intro q; cases q)
        have typ : PySem.W.Looks (model X.prog X.w) g3 (typeOf (.ref a)) cls := fun A Q E s k q => wpAny_typeOf_ref (k _ _ he3) (by rw [hz3.1]; exact q)
        have met := PySem.W.exm_one (M := model X.prog X.w) (J3.kIn) typ hb1
        have load : ∀ {Q : Value → Shared → Prop} {E : Value → Shared → Prop}, Q c { s' with heap := g3 } → wpAny (model X.prog X.w) (X.A.mark (some (.ref a))) (eval (.Name x p1) X.env) Q E { s' with heap := g3 } := by
          intro Q E q
          obtain ⟨h1, h2, h3 | ⟨h3, h4, h5⟩⟩ := hc
          · exact ld_glob (X := X.suite a ((a, oe3) :: (X.pn ++ pins))) S3 h1 h3 q h2
          · exact ld_blt (X := X.suite a ((a, oe3) :: (X.pn ++ pins))) S3 h1 h3 h4 q h5 h2
        refine load (met.here ?_)
        cases b with
        | false => exact ih (hno rfl)
        | true =>
          refine codeAny_handlers_suite_as (HandSPX.lands_againZ fl3 fun g4 fl4 up4 => ?_)
          have J4 : Inv X pins t G { s' with heap := g4 } := J.landed nb fl4.1 ((up.trans up3).trans up4) os ag
          obtain ⟨oe4, vs4, he4, hz4, hd4⟩ := fl4.there
          have S4 := J4.suite he4 hd4 na nL nF
          refine store_ok (X := X.suite a ((a, oe4) :: (X.pn ++ pins))) (v := .ref a) S4 hN hi locn rfl (fun q5 S5 => ?_) (.inr hl)
          refine wpAny_mono ((hsu a oe4 cls d (X.pn ++ pins) hz4 ⟨_, hd4⟩).run [] q5 _ G _ S5 (hyes rfl a na)) (fun f q6 hsp => ?_) (fun _ _ z => z.elim)
          have fin : ∀ {t6 : L2.St} {G6 : Hp} {Q : Shared → Prop}, Inv (X.suite a ((a, oe4) :: (X.pn ++ pins))) [] t6 G6 q6 → (∀ q7, Inv X pins (t6.set i none) G6 q7 → Q q7) →
              wpAny (model X.prog X.w) X.A (do bindName X.env n .none; unbindBehindTheSuite X.env n p2) (fun _ q7 => Q q7) X.xe q6 := fun S6 hq => gone_ok (S6.unsuite ok) hN hi hl hq
          match f, hsp with
          | .next, ⟨t6, G6, S6, q6⟩ => exact fin S6 fun _ J7 => ⟨_, _, J7, q6⟩
          | .brk, ⟨t6, G6, S6, q6⟩ => exact fin S6 fun _ J7 => ⟨_, _, J7, q6⟩
          | .cont, ⟨t6, G6, S6, q6⟩ => exact fin S6 fun _ J7 => ⟨_, _, J7, q6⟩
          | .ret u, ⟨v6, t6, G6, S6, r6, q6⟩ => exact fin S6 fun _ J7 => ⟨_, _, _, J7, r6, q6⟩
    first
      | exact go hh wish
      | exact HandSPX.setFlight_upZ fl3 fun h4 hh4 up4 => go hh wish
  · match f, hsp with
    | .next, ⟨t, G, J, q⟩ => exact wpAny_execs_nil ⟨t, G, J.ofTry ok, q⟩
    | .brk, ⟨t, G, J, q⟩ => exact ⟨t, G, J.ofTry ok, q⟩
    | .cont, ⟨t, G, J, q⟩ => exact ⟨t, G, J.ofTry ok, q⟩
    | .ret u, ⟨v, t, G, J, r, q⟩ => exact ⟨v, t, G, J.ofTry ok, r, q⟩
end
end Mz
set_option Elab.async false
set_option linter.all false
set_option maxRecDepth 100000
set_option maxHeartbeats 4000000
/-! own exceptions whose __init__ calls the __init__ of an own base by its name -/
namespace Mz
open PySem PySem.Spec PyProof.Rows L2
section
variable {X : Cx} {o e : Expr} {es : List Expr} {ta : TA} {x : Str} {cM : Addr} {p1 p2 pos : Pos}
/-- MapError.__init__(self, ..): what stands there is the built-in one -/
theorem pe_meinit {pl : Sem Bool} (hg : Gl X x) (hm : X.mg x = some (.ref cM)) (rd : ClX.CRead X.K cM (.type "type")) (fc : PySem.W.findCls X.K (.ref cM) (.type "type") "__init__" = some (.val (.builtin "ValueError.__init__"))) (ha : PA X (e :: es) ta)
    (hc : eval (.Call (.Attribute (.Name x p1) "__init__" p2) (e :: es) [] pos) X.env = (do
      let ov ← eval (.Name x p1) X.env
      standAt p2.atName
      let (f, first) ← holding [ov] (getMethod ov "__init__" pl)
      callWith pos f first (backTo pos (starEach (e :: es) X.env)) (backToKw pos (keywordEach [] X.env))) := by rfl)
    (hdb : (x == ("__debug__" : Str)) = false := by decide) (he : starEach (e :: es) X.env = (false, eval e X.env) :: starEach es X.env := by rfl) (hpl : (backTo pos (starEach es X.env)).any (·.1) = false := by rfl) :
    PE X (.Call (.Attribute (.Name x p1) "__init__" p2) (e :: es) [] pos) (tVeI X.K ta) := by
  refine ⟨fun pins s σ H Q I h => PySem.W.methodCall_KW (ld_glob I hg hm ?_ hdb) hc⟩
  refine PySem.W.method_cls I.kIn rd.ga (PySem.W.cls_value I.kIn rd.rd fc (by decide +kernel) ?_)
  show wpAny _ _ (callWith pos (Value.builtin "ValueError.__init__") [] (backTo pos (starEach (e :: es) X.env)) []) _ _ _
  refine PyProof.Rows.callWith_method1 (thn (ha.run pos pins _ σ H _ (I.tok _) h) fun us s1 hv => ?_) he hpl
  obtain ⟨vs, H1, I1, r1, a, C, ws, rfl, hl, T, ea, q⟩ := hv
  cases r1 with
  | @cons _ u0 _ ur ra rw2 =>
    obtain rfl : u0 = Value.ref a := ra
    have short : ur.length ≤ sizeLine := by
      have e2 := Paired.length rw2
      have e3 := sizeLine_eq
      omega
    exact oinit_ok T I1 ea short fun s2 J => ⟨.non, H1, J, rfl, q⟩
end
/-- an exception of one field that is being made: it is at a, no dict as yet; behind __init__ its dict holds the field -/
def spX1 (K : PySem.W.Frag) (C : Addr) (f : Str) : Sp := fun vs H Q _ => ∃ (a : Addr) (v : V), vs = [.ref a, v] ∧ H a = some (exo a C none) ∧
  ∀ dx, H dx = none → dx ≠ a → Q .non (upd (upd H dx (exd dx [(f, v)])) a (exo a C (some dx)))
end Mz
set_option Elab.async false
set_option linter.all false
set_option maxRecDepth 100000
set_option maxHeartbeats 4000000
/-! what an own class says of str, ==, !=, + -/
namespace Mz
open PySem PySem.Spec PyProof.Rows L2
section
variable {X : Cx} {CX : CXT} {k : Nat} {f C : Addr} {fd : FuncData} {ps : List Str} {sp : Sp} {E : XK}
/-- a def of the text called at another place of the same run -/
theorem run_at {pins : List (Addr × Obj)} {σ : L2.St} {H : Hp} {s : Shared} {A : Around} {Q : VK} {us : List Value} {vs : List V} {E2 : Value → Shared → Prop} (F : FnOk X.prog X.w X.K X.mg X.base CX k f fd ps sp) (hr : Room k A) (e0 : Env0 X.prog X.w X.K X.mg X.base A X.stack s H)
    (hb : Binds X.K fd ps []) (hx : ∀ e s2, CX X.stack H s E e s2 → E2 e s2) (I : Inv X pins σ H s) (r : Vals vs us) (h : sp vs H Q E) : wpAny (model X.prog X.w) A (call (.ref f) us) (EP X pins σ Q) E2 s := by
  have hl : (us ++ []).length = ps.length := by
    rw [List.append_nil]
    exact r.length.symm.trans (F.len _ _ _ _ h)
  have hbi := hb s us I.kIn hl
  rw [List.append_nil] at hbi
  refine wpAny_call (codeAny_mono (F.run A X.stack s H ⟨us, []⟩ us vs Q E hr e0 hbi r h) fun r s2 hq => ?_)
  match r, hq with
  | .error e, hq => exact hx e s2 hq
  | .ok (.ret u), hq => exact I.after hq
  | .ok .next, hq => exact hq.elim
  | .ok .brk, hq => exact hq.elim
  | .ok .cont, hq => exact hq.elim
/-- str(x) by the own __str__ -/
theorem call_strO (F : FnOk X.prog X.w X.K X.mg X.base CX0 k f fd ps sp) (hr : Room (k + 2) X.A) (hb : Binds X.K fd ps []) (hs : PySem.W.findIn X.K (.ref C) "__str__" = some (some (.ref f))) (hf : PySem.W.isFn X.K (.ref f) = true) :
    CallR X (.type "str") (fun xs H Q => ∃ a dx fs, xs = [.ref a] ∧ H a = some (.ins C dx fs) ∧ sp [.ref a] H (fun v H2 => ∃ z : Str, v = .str z ∧ Q (.str z) H2) E0) := by
  intro pins s σ H xs us Q I r h
  obtain ⟨a, dx, fs, rfl, ha, q⟩ := h
  obtain ⟨u, rfl, rx⟩ := vals1 r
  obtain rfl : u = Value.ref a := rx
  obtain ⟨mA, O, _⟩ := ins_get I.hok ha
  obtain ⟨od, J, _⟩ := O.look
  refine PySem.W.kso_call hr.in1.in1.units0 I.kIn J hs hf (wpAny_mono (run_at (E := E0) (vs := [.ref a]) (us := [.ref a]) F hr.in1.in1 I.env0.in1.in1 hb (fun _ _ z => z.elim) I (.cons rfl .nil) q) (fun u s2 hv => ?_) fun _ _ z => z)
  obtain ⟨v, H2, I2, rv, z, rfl, q2⟩ := hv
  obtain ⟨t, rfl⟩ := rv
  exact ⟨.str z, H2, I2, ⟨t, rfl⟩, q2⟩
/-- what stands on the other side of == : its type, no class below C -/
def Oth (K : PySem.W.Frag) (C : Addr) (H : Hp) (y : V) : Prop := ∃ t, TyX K H y t ∧ PySem.W.notFirst K C t = true
theorem op_eqO (F : FnOk X.prog X.w X.K X.mg X.base CX0 k f fd ps sp) (hr : Room k X.A) (hb : Binds X.K fd ps []) (hs : PySem.W.findIn X.K (.ref C) "__eq__" = some (some (.ref f))) (hf : PySem.W.isFn X.K (.ref f) = true) :
    OpR X (compareOp .Eq) (fun x y H Q => ∃ a dx fs, x = .ref a ∧ H a = some (.ins C dx fs) ∧ Oth X.K C H y ∧ sp [.ref a, y] H (fun v H2 => ∃ b : Bool, v = .bl b ∧ Q (.bl b) H2) E0) := by
  intro pins s σ H x y v u Q I rx ry h
  obtain ⟨a, dx, fs, rfl, ha, ⟨t, ty, nf⟩, q⟩ := h
  obtain rfl : v = Value.ref a := rx
  obtain ⟨mA, O, _⟩ := ins_get I.hok ha
  obtain ⟨od, J, _⟩ := O.look
  obtain ⟨m, hF⟩ := I.fr
  obtain ⟨P, Z, hp, _⟩ := kit_of I ry ty
  refine PySem.W.cmp_ofEq (PySem.W.cmp_K (op := .Eq) hr.units0 hF I.ok.mod.kin J (Z.ty _ _ I.kIn hp) nf hs hf (wpAny_mono (run_at (E := E0) (vs := [.ref a, y]) (us := [.ref a, u]) F hr I.env0 hb (fun _ _ z => z.elim) I (.cons rfl (.cons ry .nil)) q) (fun u s2 hv => ?_) fun _ _ z => z))
  obtain ⟨v, H2, I2, rv, b, rfl, q2⟩ := hv
  obtain rfl : u = Value.bool b := rv
  exact ⟨.bl b, H2, I2, rfl, q2⟩
/-- object.__ne__ by the own __eq__ -/
theorem op_neO (F : FnOk X.prog X.w X.K X.mg X.base CX0 k f fd ps sp) (hr : Room (k + 1) X.A) (hb : Binds X.K fd ps []) (hs : PySem.W.findIn X.K (.ref C) "__eq__" = some (some (.ref f))) (hf : PySem.W.isFn X.K (.ref f) = true)
    (hn : PySem.W.findIn X.K (.ref C) "__ne__" = some (some (.builtin "object.__ne__"))) (hm : PySem.W.mroIn X.K C (.type "object") = some true) :
    OpR X (compareOp .NotEq) (fun x y H Q => ∃ a dx fs, x = .ref a ∧ H a = some (.ins C dx fs) ∧ Oth X.K C H y ∧ sp [.ref a, y] H (fun v H2 => ∃ b : Bool, v = .bl b ∧ Q (.bl (!b)) H2) E0) := by
  intro pins s σ H x y v u Q I rx ry h
  obtain ⟨a, dx, fs, rfl, ha, ⟨t, ty, nf⟩, q⟩ := h
  obtain rfl : v = Value.ref a := rx
  obtain ⟨mA, O, _⟩ := ins_get I.hok ha
  obtain ⟨od, J, _⟩ := O.look
  obtain ⟨m, hF⟩ := I.fr
  obtain ⟨P, Z, hp, _⟩ := kit_of I ry ty
  have back : wpAny (model X.prog X.w) X.A.in1 (call (.ref f) [.ref a, u]) (fun r s2 => ∃ b, r = .bool b ∧ EP X pins σ Q (.bool (!b)) s2) X.xe s :=
    wpAny_mono (run_at (E := E0) (vs := [.ref a, y]) (us := [.ref a, u]) F hr.in1 I.env0.in1 hb (fun _ _ z => z.elim) I (.cons rfl (.cons ry .nil)) q) (fun r s2 hv => by
      obtain ⟨v, H2, I2, rv, b, rfl, q2⟩ := hv
      obtain rfl : r = Value.bool b := rv
      exact ⟨b, rfl, .bl (!b), H2, I2, rfl, q2⟩) fun _ _ z => z
  have body : wpAny (model X.prog X.w) X.A.in1 (Builtin.«object.__ne__» ⟨[.ref a, u], []⟩) (fun fin s2 => ∃ b : Bool, fin = .done (.ret (.bool b)) ∧ EP X pins σ Q (.bool b) s2) X.xe s := by
    unfold Builtin.«object.__ne__»
    refine wpAny_bind (m := slotArgs "__ne__" 1 _) (wpAny_pure ?_)
    refine wpAny_bind (m := cRoomFor _ _) (wpAny_cRoomFor hr.in1.units0 ?_)
    refine wpAny_bind (m := callSpecialIfBound? (.ref a) "__eq__" [u]) (PySem.W.ifBound_K I.kIn J hs hf (wpAny_mono back (fun r s2 hv => ?_) fun _ _ z => z))
    obtain ⟨b, rfl, e⟩ := hv
    exact wpAny_bind (wpAny_pure (wpAny_pure ⟨!b, rfl, e⟩))
  have sub : PySem.W.Looks (model X.prog X.w) s.heap (isInstance (.ref a) (.type "object")) true := J.type.andThen (PySem.W.looks_mroIn I.kIn hm)
  have ran : wpAny (model X.prog X.w) X.A (call (.builtin "object.__ne__") [.ref a, u]) (fun r s2 => ∃ b : Bool, r = .bool b ∧ EP X pins σ Q (.bool b) s2) X.xe s := by
    refine wpAny_call (codeAny_call_builtin PySem.F.slot_object_ne.plain PySem.F.entry_object_ne (PySem.W.check_slot (i := "object.__ne__") (owner := "object") (n := "__ne__") (by decide +kernel) (by decide +kernel) sub (PySem.F.args_object_ne_2 _ _) ?_))
    refine wpAny_mono body (fun fin s2 hv => ?_) fun _ _ z => z
    obtain ⟨b, rfl, e⟩ := hv
    exact ⟨b, rfl, e⟩
  have ask : wpAny (model X.prog X.w) X.A (callSpecialIfBound? (.ref a) "__ne__" [u]) (fun r s2 => ∃ b : Bool, r = some (.bool b) ∧ EP X pins σ Q (.bool b) s2) X.xe s := by
    simp only [callSpecialIfBound?, bindSpecialIfBound?]
    refine wpAny_holding (wpAny_bind (wpAny_bind (wpAny_bind (J.type.here ((PySem.W.looks_findIn I.kIn hn).here ?_)))))
    refine wpAny_bind (wpAny_askSetting (wpAny_ite ?_))
    have fin : wpAny (model X.prog X.w) X.A (call (.builtin "object.__ne__") ([.ref a] ++ [u]) >>= fun v => pure (some v)) (fun r s2 => ∃ b : Bool, r = some (.bool b) ∧ EP X pins σ Q (.bool b) s2) X.xe s :=
      wpAny_bind (wpAny_mono ran (fun v s2 hv => by
        obtain ⟨b, rfl, e⟩ := hv
        exact wpAny_pure ⟨b, rfl, e⟩) fun _ _ z => z)
    split
    · exact wpAny_bind ((PySem.W.Looks.of_pure (PySem.F.slot_object_ne.bind _)).here (wpAny_pure (by exact fin)))
    · exact wpAny_tryCatch (wpAny_bind ((PySem.W.Looks.of_pure (PySem.F.slot_object_ne.bind _)).here (wpAny_pure (by exact fin))))
  have one : wpAny (model X.prog X.w) X.A (tryCompare (.ref a) (cmpInfo .NotEq).2.1 u) (fun r s2 => ∃ v, r = some v ∧ EP X pins σ Q v s2) X.xe s := by
    unfold tryCompare
    refine wpAny_bind (wpAny_mono ask (fun r s2 hv => ?_) fun _ _ z => z)
    obtain ⟨b, rfl, e⟩ := hv
    exact wpAny_pure ⟨_, rfl, e⟩
  refine PySem.W.cmp_ofNotEq ?_
  unfold richCompare
  simp only [oneThing_ref]
  refine wpAny_holding (wpAny_bind (wpAny_cRoomFor (Nat.lt_of_lt_of_le hr.in1.units0 (Nat.le_refl _) |> fun z => Nat.lt_of_le_of_lt (Nat.le_succ _) z) ?_))
  refine wpAny_bind (J.type.here (wpAny_bind ((Z.ty _ _ I.kIn hp).here ?_)))
  have last : wpAny (model X.prog X.w) X.A (tryCompare (.ref a) (cmpInfo .NotEq).2.1 u) (fun r s2 => ∃ v, r = some v ∧ EP X pins σ Q v s2) X.xe s := one
  split
  · rename_i qn
    have e : PySem.W.subIn X.K t (.ref C) = some false := by
      rcases Bool.or_eq_true_iff.mp nf with e | e
      · rw [beq_iff_eq.mp e] at qn
        simp at qn
      · exact beq_iff_eq.mp e
    refine wpAny_bind ((PySem.W.looks_subIn I.kIn e).here ?_)
    simp only [Bool.false_eq_true, if_false]
    refine wpAny_bind (wpAny_mono last (fun r s2 z => ?_) fun _ _ e => e)
    obtain ⟨v, rfl, hq⟩ := z
    exact wpAny_pure hq
  · refine wpAny_bind (wpAny_pure ?_)
    simp only [Bool.false_eq_true, if_false]
    refine wpAny_bind (wpAny_mono last (fun r s2 z => ?_) fun _ _ e => e)
    obtain ⟨v, rfl, hq⟩ := z
    exact wpAny_pure hq
/-- what the class says of +, - with an int on the right -/
structure Arith (K : PySem.W.Frag) (C : Addr) (op : Operator) (f : Addr) : Prop where
  first : PySem.W.selfFirst K C = true
  own : PySem.W.findIn K (.ref C) (PySem.dunder op.info.2) = some (some (.ref f))
  fn : PySem.W.isFn K (.ref f) = true
  back : ∃ rc, PySem.W.findIn K (.ref C) (dunderR op.info.2) = some rc ∧ (rc = none ∨ ∃ g : Addr, rc = some (.ref g))
  io : ∃ fo, PySem.W.findIn K (.type "int") (PySem.dunder op.info.2) = some fo
  ir : ∃ ro, PySem.W.findIn K (.type "int") (dunderR op.info.2) = some ro
  sub : PySem.W.subIn K (.type "int") (.ref C) = some false
theorem op_binO {op : Operator} (F : FnOk X.prog X.w X.K X.mg X.base CX0 k f fd ps sp) (hr : Room k X.A) (hb : Binds X.K fd ps []) (T : Arith X.K C op f) :
    OpR X (binaryOp op) (fun x y H Q => ∃ a dx fs i, x = .ref a ∧ y = .int i ∧ H a = some (.ins C dx fs) ∧ sp [.ref a, y] H (fun v H2 => (∃ p, v = .ref p) ∧ Q v H2) E0) := by
  intro pins s σ H x y v u Q I rx ry h
  obtain ⟨a, dx, fs, i, rfl, rfl, ha, q⟩ := h
  obtain rfl : v = Value.ref a := rx
  obtain ⟨t, rfl⟩ := ry
  obtain ⟨mA, O, _⟩ := ins_get I.hok ha
  obtain ⟨od, J, _⟩ := O.look
  obtain ⟨m, hF⟩ := I.fr
  obtain ⟨rc, b1, b2⟩ := T.back
  obtain ⟨fo, c1⟩ := T.io
  obtain ⟨ro, c2⟩ := T.ir
  refine PySem.W.ksp_binT (T := "int") hF I.ok.mod.kin J rfl T.first T.own T.fn b1 b2 c1 c2 T.sub (wpAny_mono (run_at (E := E0) (vs := [.ref a, .int i]) (us := [.ref a, .int i t]) F hr I.env0 hb (fun _ _ z => z.elim) I (.cons rfl (.cons ⟨t, rfl⟩ .nil)) q) (fun r s2 hv => ?_) fun _ _ z => z)
  obtain ⟨v, H2, I2, rv, ⟨p, rfl⟩, q2⟩ := hv
  obtain rfl : r = Value.ref p := rv
  exact ⟨.ref p, H2, I2, rfl, q2⟩
end
end Mz
set_option Elab.async false
set_option linter.all false
set_option maxRecDepth 100000
set_option maxHeartbeats 4000000
/-! a small int in a field of an f-string with its sign written -/
namespace Mz
open PySem PySem.Spec PyProof.Rows L2 PySem.W
def signS (i : Int) : Str := if i = 1 then "+1" else if i = 2 then "+2" else if i = 3 then "+3" else if i = -1 then "-1" else if i = -2 then "-2" else "-3"
theorem small_six {i : Int} (h0 : -3 ≤ i) (h1 : i ≤ 3) (h : i ≠ 0) : i = 1 ∨ i = 2 ∨ i = 3 ∨ i = -1 ∨ i = -2 ∨ i = -3 := by omega
theorem fmt_plus {prog : Program} {w : World} {A : Around} {E : Value → Shared → Prop} {s : Shared} {i : Int} {t : Tok} {Q : Value → Shared → Prop} (h0 : -3 ≤ i) (h1 : i ≤ 3) (hz : i ≠ 0) (h : ∀ u k, Q (.str (signS i) u) { s with toks := k }) :
    wpAny (model prog w) A (formatField (.int i t) ("+d" : Str)) Q E s := by
  rcases small_six h0 h1 hz with rfl | rfl | rfl | rfl | rfl | rfl
  · exact KXf.field_int (y := "+1") rfl (by decide +kernel) (by decide +kernel) (by kxf_run_i) h
  · exact KXf.field_int (y := "+2") rfl (by decide +kernel) (by decide +kernel) (by kxf_run_i) h
  · exact KXf.field_int (y := "+3") rfl (by decide +kernel) (by decide +kernel) (by kxf_run_i) h
  · exact KXf.field_int (y := "-1") rfl (by decide +kernel) (by decide +kernel) (by kxf_run_i) h
  · exact KXf.field_int (y := "-2") rfl (by decide +kernel) (by decide +kernel) (by kxf_run_i) h
  · exact KXf.field_int (y := "-3") rfl (by decide +kernel) (by decide +kernel) (by kxf_run_i) h
section
variable {X : Cx}
theorem pe_fmtP {e : Expr} {te : TE} {j : Nat} {p1 p2 pos : Pos} (he : PE X e te) : PE X (.FormattedValue e (-1) (some (.JoinedStr [.Constant (.str "+d") j p1] p2)) pos)
    (fun σ H Q => te σ H fun x H1 => ∃ i : Int, x = .int i ∧ -3 ≤ i ∧ i ≤ 3 ∧ i ≠ 0 ∧ Q (.str (signS i)) H1) := by
  refine ⟨fun pins s σ H Q I h => ?_⟩
  refine wpAny_FormattedValue_spec (thn (he.run pins s σ H _ I h) fun v s1 hv => ?_)
  obtain ⟨x, H1, I1, r1, i, rfl, h0, h1, hz, q⟩ := hv
  obtain ⟨t, rfl⟩ := r1
  have sp : PE X (.JoinedStr [.Constant (.str "+d") j p1] p2) (tC (.str "+d")) := pe_joined1 pe_str
  refine wpAny_mono (sp.run pins s1 σ H1 (fun y H2 => y = .str "+d" ∧ Q (.str (signS i)) H2) I1 ⟨rfl, q⟩) (fun u s2 hv => ?_) fun _ _ z => z
  obtain ⟨y, H2, I2, r2, rfl, q2⟩ := hv
  obtain ⟨u2, rfl⟩ := r2
  exact ⟨_, u2, rfl, fmt_plus h0 h1 hz fun u k => ⟨.str (signS i), H2, I2.tok _, ⟨u, rfl⟩, q2⟩⟩
end
end Mz
set_option Elab.async false
set_option linter.all false
set_option maxRecDepth 100000
set_option maxHeartbeats 4000000
/-! a class held by a parameter, called; a classmethod called by keywords alone -/
namespace Mz
open PySem PySem.Spec PyProof.Rows L2
section
variable {X : Cx} {CX : CXT} {k n i : Nat} {f C : Addr} {fd : FuncData} {ps ks : List Str} {sp : Sp} {E : XK} {x : Str} {p pos : Pos} {e : Expr} {es : List Expr} {kws : List Keyword} {t tk : TA} {g : List Value → List Value → List Value} {gV : List V → List V → List V}
/-- cls(k = v, ..), cls a local name that holds the class at C -/
theorem pe_makeL0 (hN : X.N[i]? = some x) (hv : Vis X.env.scope x) (M : Mk X.K C f) (F : FnOk X.prog X.w X.K X.mg X.base CX k f fd ps sp) (hr : Room (k + 1) X.A) (hb : KBn X.K fd ps 1 ks g gV) (hx : Passes CX X E) (hkw : PK X kws tk)
    (hall : (backToKw pos (keywordEach kws X.env)).all (·.1.isSome) = true := by rfl) (hks : (backToKw pos (keywordEach kws X.env)).filterMap (·.1) = ks := by rfl) (hdb : (x == ("__debug__" : Str)) = false := by decide) (hcd : (x == ("__classdict__" : Str)) = false := by decide)
    (hpl : ((backTo pos (starEach [] X.env)).any (·.1) || (backToKw pos (keywordEach kws X.env)).any (·.1.isNone)) = false := by rfl) :
    PE X (.Call (.Name x p) [] kws pos) (fun σ H Q => σ[i]? = some (some (.ref C)) ∧ tMakeK C 0 ks.length sp gV E tNil tk σ H Q) := by
  refine ⟨fun pins s σ H Q I h => ?_⟩
  obtain ⟨hσ, h⟩ := h
  have ld : PE X (.Name x p) (tVar i) := pe_var hN hv hdb hcd
  refine wpAny_Call_Name_kw (wpAny_mono (ld.run pins s σ H (fun v H2 => v = .ref C ∧ tMakeK C 0 ks.length sp gV E tNil tk σ H2 Q) I ⟨_, hσ, rfl, h⟩) (fun u s1 hv => ?_) fun _ _ z => z)
  obtain ⟨v, H1, I1, rv, rfl, q⟩ := hv
  obtain rfl : u = Value.ref C := rv
  refine PySem.W.callWith_KW0 (h₀ := X.base) I.ok.mod.kin M.kp hall (thn (hkw.run pos pins s1 σ H1 _ I1 q) fun ws s2 hw => ?_) hpl
  obtain ⟨zs, H2, I2, rz, l1, l2, q2⟩ := hw
  rw [hks]
  exact ⟨I2.kIn, run_makeK (us := []) (vs := []) M F hr hb hx I2 .nil rz rfl l2 q2⟩
/-- cls(e, .., k = v, ..) -/
theorem pe_makeL (hN : X.N[i]? = some x) (hv : Vis X.env.scope x) (M : Mk X.K C f) (F : FnOk X.prog X.w X.K X.mg X.base CX k f fd ps sp) (hr : Room (k + 1) X.A) (hb : KBn X.K fd ps (n + 1) ks g gV) (hx : Passes CX X E) (ha : PA X (e :: es) t) (hkw : PK X kws tk)
    (hall : (backToKw pos (keywordEach kws X.env)).all (·.1.isSome) = true := by rfl) (hks : (backToKw pos (keywordEach kws X.env)).filterMap (·.1) = ks := by rfl) (hdb : (x == ("__debug__" : Str)) = false := by decide) (hcd : (x == ("__classdict__" : Str)) = false := by decide)
    (he : starEach (e :: es) X.env = (false, eval e X.env) :: starEach es X.env := by rfl) (hpl : ((backTo pos (starEach (e :: es) X.env)).any (·.1) || (backToKw pos (keywordEach kws X.env)).any (·.1.isNone)) = false := by rfl) :
    PE X (.Call (.Name x p) (e :: es) kws pos) (fun σ H Q => σ[i]? = some (some (.ref C)) ∧ tMakeK C n ks.length sp gV E t tk σ H Q) := by
  refine ⟨fun pins s σ H Q I h => ?_⟩
  obtain ⟨hσ, h⟩ := h
  have ld : PE X (.Name x p) (tVar i) := pe_var hN hv hdb hcd
  refine wpAny_Call_Name_kw (wpAny_mono (ld.run pins s σ H (fun v H2 => v = .ref C ∧ tMakeK C n ks.length sp gV E t tk σ H2 Q) I ⟨_, hσ, rfl, h⟩) (fun u s1 hv => ?_) fun _ _ z => z)
  obtain ⟨v, H1, I1, rv, rfl, q⟩ := hv
  obtain rfl : u = Value.ref C := rv
  refine PySem.W.callWith_KW (h₀ := X.base) I.ok.mod.kin M.kp hall (thn (ha.run pos pins s1 σ H1 _ I1 q) fun us s2 hw => ?_) hpl he
  obtain ⟨vs, H2, I2, r2, q2⟩ := hw
  refine thn (hkw.run pos pins s2 σ H2 _ I2 q2) fun ws s3 hw => ?_
  obtain ⟨zs, H3, I3, rz, l1, l2, q3⟩ := hw
  rw [hks]
  exact ⟨I3.kIn, run_makeK M F hr hb hx I3 r2 rz l1 l2 q3⟩
/-- C.m(k = v, ..), m a classmethod, keywords alone -/
theorem pe_cmethK0 {o : Expr} {ta : TE} {m : Str} {q g0 : Addr} {mc : Value} {apos : Pos} {pl : Sem Bool} {ES : L2.St → XK} (ho : PE X o ta) (r : ClX.CRead X.K C mc) (c : ClX.CMet X.K C mc m q g0) (F : FnOk X.prog X.w X.K X.mg X.base CX k g0 fd ps sp) (hr : Room k X.A) (hb : KBn X.K fd ps 1 ks g gV) (hx : ∀ σ, PassesAt CX X σ (ES σ)) (hkw : PK X kws tk)
    (hall : (backToKw pos (keywordEach kws X.env)).all (·.1.isSome) = true := by rfl) (hks : (backToKw pos (keywordEach kws X.env)).filterMap (·.1) = ks := by rfl)
    (hpl : ((backTo pos (starEach [] X.env)).any (·.1) || (backToKw pos (keywordEach kws X.env)).any (·.1.isNone)) = false := by rfl)
    (ht : eval (.Call (.Attribute o m apos) [] kws pos) X.env = (do
      let ov ← eval o X.env
      standAt apos.atName
      let (f, first) ← holding [ov] (getMethod ov m pl)
      callWith pos f first (backTo pos (starEach [] X.env)) (backToKw pos (keywordEach kws X.env))) := by rfl) :
    PE X (.Call (.Attribute o m apos) [] kws pos) (fun σ H Q => ta σ H fun x H1 => x = .ref C ∧ tk σ H1 fun zs H2 => zs.length = ks.length ∧ sp (gV [.ref C] zs) H2 Q (ES σ)) := by
  refine ⟨fun pins s σ H Q I h => PySem.W.methodCall_KW (pl := pl) (thn (ho.run pins s σ H _ I h) fun u s1 hv => ?_) ht⟩
  obtain ⟨x, H1, I1, rx, rfl, q1⟩ := hv
  obtain rfl : u = Value.ref C := rx
  refine ClX.getmethcm_ok I1 r c fun s2 I2 => ?_
  refine PySem.W.callWith_of (P := PySem.W.MethP X.K s1.heap.objs.size g0 (.ref C)) hpl (PySem.W.keeps_M c.fi) (evalArgs_kw2_nil hall (thn (hkw.run pos _ s2 σ H1 _ I2 q1) fun ws s3 hw => ?_))
  obtain ⟨zs, H2, I3, rz, l2, q2⟩ := hw
  refine ⟨⟨ClX.pin_at I3, I3.kIn⟩, ?_⟩
  rw [hks]
  have r1 : Vals [V.ref C] [Value.ref C] := .cons rfl .nil
  have z : wpAny (model X.prog X.w) X.A (call (.ref s1.heap.objs.size) [] (ks.zip ws)) (EP X ((s1.heap.objs.size, PySem.W.methodObj (.ref g0) (.ref C)) :: pins) σ Q) X.xe s3 := by
    refine wpAny_call (PySem.W.method_call (ClX.pin_at I3) (codeAny_mono (F.run X.A X.stack s3 H2 ⟨[.ref C], ks.zip ws⟩ (g [.ref C] ws) (gV [.ref C] zs) Q (ES σ) hr I3.env0 (hb.to s3 [.ref C] ws I3.kIn rfl (rz.length.symm.trans l2)) (hb.rel r1 rz) q2) fun r s4 hq => ?_))
    cases r with
    | error e => exact hx σ _ H2 s3 e s4 I3 hq
    | ok fl =>
      cases fl with
      | ret u => exact I3.after hq
      | next => exact hq.elim
      | brk => exact hq.elim
      | cont => exact hq.elim
  exact thn z fun _ _ y => ClX.unpinE y
/-- C.m(e, ..), m a classmethod; what is raised is wished for at the caller's slots -/
theorem pe_cmethS {o : Expr} {ta : TE} {m : Str} {q g0 : Addr} {mc : Value} {apos : Pos} {pl : Sem Bool} {ES : L2.St → XK} (ho : PE X o ta) (r : ClX.CRead X.K C mc) (c : ClX.CMet X.K C mc m q g0) (F : FnOk X.prog X.w X.K X.mg X.base CX k g0 fd ps sp) (hr : Room k X.A) (hb : Binds X.K fd ps [])
    (hx : ∀ σ, PassesAt CX X σ (ES σ)) (ha : PA X (e :: es) t) (hst : starEach (e :: es) X.env = (false, eval e X.env) :: starEach es X.env := by rfl) (hpl : (backTo pos (starEach es X.env)).any (·.1) = false := by rfl)
    (ht : eval (.Call (.Attribute o m apos) (e :: es) [] pos) X.env = (do
      let ov ← eval o X.env
      standAt apos.atName
      let (f, first) ← holding [ov] (getMethod ov m pl)
      callWith pos f first (backTo pos (starEach (e :: es) X.env)) (backToKw pos (keywordEach [] X.env))) := by rfl) :
    PE X (.Call (.Attribute o m apos) (e :: es) [] pos) (fun σ H Q => ta σ H fun x H1 => x = .ref C ∧ t σ H1 fun vs H2 => sp (.ref C :: vs) H2 Q (ES σ)) := by
  refine ⟨fun pins s σ H Q I h => PySem.W.methodCall_KW (pl := pl) (thn (ho.run pins s σ H _ I h) fun u s1 hv => ?_) ht⟩
  obtain ⟨x, H1, I1, rx, rfl, q1⟩ := hv
  obtain rfl : u = Value.ref C := rx
  refine ClX.getmethcm_ok I1 r c fun s2 I2 => ?_
  refine ClX.callwith_cm I2 (ClX.base_none I1 (Nat.le_refl _)) c.fi (thn (ha.run pos _ s2 σ H1 _ I2 q1) fun us s3 hw => ?_) hst hpl
  obtain ⟨vs, H2, I3, rv, q2⟩ := hw
  refine ⟨⟨ClX.pin_at I3, I3.kIn⟩, ?_⟩
  have r1 : Vals (V.ref C :: vs) (Value.ref C :: us) := .cons rfl rv
  have hl : (Value.ref C :: us ++ []).length = ps.length := by
    rw [List.append_nil]
    exact r1.length.symm.trans (F.len _ _ _ _ q2)
  have hbi := hb s3 (Value.ref C :: us) I3.kIn hl
  rw [List.append_nil] at hbi
  have z : wpAny (model X.prog X.w) X.A (call (.ref s1.heap.objs.size) us) (EP X ((s1.heap.objs.size, PySem.W.methodObj (.ref g0) (.ref C)) :: pins) σ Q) X.xe s3 := by
    refine wpAny_call (PySem.W.method_call (ClX.pin_at I3) (codeAny_mono (F.run X.A X.stack s3 H2 ⟨Value.ref C :: us, []⟩ (Value.ref C :: us) (V.ref C :: vs) Q (ES σ) hr I3.env0 hbi r1 q2) fun r s4 hq => ?_))
    cases r with
    | error e => exact hx σ _ H2 s3 e s4 I3 hq
    | ok fl =>
      cases fl with
      | ret u => exact I3.after hq
      | next => exact hq.elim
      | brk => exact hq.elim
      | cont => exact hq.elim
  exact thn z fun _ _ y => ClX.unpinE y
end
end Mz
set_option Elab.async false
set_option linter.all false
set_option maxRecDepth 100000
set_option maxHeartbeats 4000000
/-! repr of lists that hold instances with an own __repr__ -/
namespace Mz
open PySem PySem.Spec PyProof.Rows L2
/-- v is shown as t, under the containers as -/
def ShV (X : Cx) (k : Nat) (as : List Addr) (Pre : Hp → Prop) (v : V) (t : Str) : Prop :=
  ∀ (base : Nat), base + t.length ≤ sizeLine → ∀ (A : Around) (g : List Code) (pins : List (Addr × Obj)) (σ : L2.St) (H : Hp) (s : Shared) (u : Value) (Q : Str → Shared → Prop), A.frames = some X.stack → A.guards = some g → (∀ b ∈ as, Clear g b) → Room k A →
    Inv X pins σ H s → Pre H → RelV v u → (∀ H' s', Inv X pins σ H' s' → Same H H' → Q t s') → wpAny (model X.prog X.w) A (pyReprUnder base u) Q X.xe s
section
variable {X : Cx} {k : Nat} {as : List Addr} {Pre : Hp → Prop}
theorem shv_is {v : V} {t : Str} (h : ∀ u, RelV v u → ReprIs X.prog X.w u t) : ShV X k as Pre v t :=
  fun base hb A g pins σ H s u Q _ _ _ _ I _ r q => (h u r) base hb A X.xe s Q fun tk => q H _ (I.tok _) (Same.refl H)
theorem shv_str {z : Str} (h : (reprText z).length ≤ sizeLine) : ShV X k as Pre (.str z) (reprText z) := shv_is fun u r => by
  obtain ⟨t, rfl⟩ := r
  exact ReprIs.str z t h
theorem shv_int {i : Int} (h : i.natAbs.log2 < 1920) : ShV X k as Pre (.int i) (Str.ofString (toString i)) := shv_is fun u r => by
  obtain ⟨t, rfl⟩ := r
  exact ReprIs.int t h
theorem ifBoundBy_K {M : Model} {A : Around} {E : Value → Shared → Prop} {s : Shared} {K : PySem.W.Frag} {x C f : Addr} {ox : Obj} {od : Option Obj} {name : Str} {last : Value → List Value → Sem Value} {Q : Option Value → Shared → Prop} (KX : K.In s.heap) (I : PySem.W.InstAt s.heap x ox C od)
    (hs : PySem.W.findIn K (.ref C) name = some (some (.ref f))) (hf : PySem.W.isFn K (.ref f) = true)
    (h : wpAny M A (last (.ref f) [.ref x]) (fun v => Q (some v)) E s) : wpAny M A (callSpecialIfBoundBy? last (.ref x) name) Q E s := by
  simp only [callSpecialIfBoundBy?, bindSpecialIfBound?]
  refine wpAny_holding (wpAny_bind (wpAny_bind (wpAny_bind (I.type.here ((PySem.W.looks_findIn KX hs).here ?_)))))
  refine wpAny_bind (wpAny_askSetting (wpAny_ite ?_))
  have fin : wpAny M A (last (.ref f) [.ref x] >>= fun v => pure (some v)) Q E s := wpAny_bind (wpAny_mono h (fun v s' h' => wpAny_pure h') fun _ _ h' => h')
  split
  · exact wpAny_bind ((PySem.W.bind_fn KX _ (beq_iff_eq.mp hf)).here (wpAny_pure (by exact fin)))
  · exact wpAny_tryCatch (wpAny_bind ((PySem.W.bind_fn KX _ (beq_iff_eq.mp hf)).here (wpAny_pure (by exact fin))))
theorem env_at {pins : List (Addr × Obj)} {σ : L2.St} {H : Hp} {s : Shared} {A : Around} (I : Inv X pins σ H s) (h : A.frames = some X.stack) : Env0 X.prog X.w X.K X.mg X.base A X.stack s H := by
  have e := I.env0
  exact ⟨h, e.mod, e.bs, e.bsz, e.funs, e.frf, e.hok, e.bare⟩
theorem shv_own {j : Nat} {f C p : Addr} {fd : FuncData} {sp : Sp} {t : Str} (F : FnOk X.prog X.w X.K X.mg X.base CX0 k f fd ["self"] sp) (hb : Binds X.K fd ["self"] []) (hs : PySem.W.findIn X.K (.ref C) "__repr__" = some (some (.ref f))) (hf : PySem.W.isFn X.K (.ref f) = true)
    (hp : ∀ H, Pre H → ∃ dx fs, H p = some (.ins C dx fs) ∧ sp [.ref p] H (fun v H2 => v = .str t ∧ Same H H2) E0) : ShV X k as Pre (.ref p) t := by
  intro base hbs A g pins σ H s u Q hfr hg hcl hr I pre r q
  obtain rfl : u = Value.ref p := r
  obtain ⟨dx, fs, ha, hsp⟩ := hp H pre
  obtain ⟨mA, O, _⟩ := ins_get I.hok ha
  obtain ⟨od, J, _⟩ := O.look
  refine wpAny_pyReprUnder_ref (by omega) ?_
  unfold pyReprObjUnder pyReprObjBy
  refine wpAny_bind (wpAny_cRoomFor hr.units0 ?_)
  refine wpAny_bind (wpAny_bind (J.type.here ((PySem.W.looks_findIn I.kIn hs).here ?_)))
  refine wpAny_bind (ifBoundBy_K I.kIn J hs hf ?_)
  have run := run_at (Q := fun v H2 => v = .str t ∧ Same H H2) (E := E0) (E2 := X.xe) (vs := [.ref p]) (us := [.ref p]) F hr (env_at I hfr) hb (fun _ _ z => z.elim) I (.cons rfl .nil) hsp
  refine wpAny_mono run (fun v s2 hv => ?_) fun _ _ z => z
  obtain ⟨w, H2, I2, rv, rfl, sm⟩ := hv
  obtain ⟨tk, rfl⟩ := rv
  exact wpAny_bind (wpAny_isInstance (T := "str") (b := true) rfl isSubtype_str_str (wpAny_pure ⟨_, _, rfl, q _ _ I2 sm⟩))
/-- texts, as a tracked list has them -/
theorem strs_done : ∀ {l : List Str} {us : List Value}, Vals (l.map V.str) us → ∃ done : List (Str × Tok), us = strValues done ∧ done.map (·.1) = l
  | [], _, .nil => ⟨[], rfl, rfl⟩
  | z :: l, _, .cons ⟨t, e⟩ r => by
    obtain ⟨done, rfl, e2⟩ := strs_done r
    exact ⟨(z, t) :: done, by rw [e]; rfl, by rw [List.map_cons, e2]⟩
theorem frames_list_loop {A : Around} {l : List Env} {args : Args} (h : A.frames = some l) : (A.under (.builtin "list.__repr__.loop" args)).frames = some l := by
  first | exact h | (simpa [Around.under, Code.envs, Code.isFrame, pushEnvs] using h)
theorem loop_depth {A : Around} {args : Args} : (A.under (.builtin "list.__repr__.loop" args)).depth ≤ A.depth + 1 := by
  first | exact Nat.le_refl _ | (simp [Around.under, Code.weight, Code.isCreation, Code.isGuard, Code.isCaller, Code.frames, Code.isFrame, guardIds])
theorem _root_.L2.Room.list_loop {A : Around} {k : Nat} (r : Room (k + 1) A) (args : Args) : Room k (A.under (.builtin "list.__repr__.loop" args)) :=
  ⟨r.hd, by have := r.dp; have := loop_depth (A := A) (args := args); omega, by have := r.un; rw [units_under_list_loop]; omega⟩
/-- the loop of list.__repr__ -/
theorem loop_own {A : Around} {g : List Code} {pins : List (Addr × Obj)} {σ : L2.St} {a P : Addr} {vs : List V} {ts : List Str} {base : Nat} {R : Result → Shared → Prop} (hfr : A.frames = some X.stack) (hg : A.guards = some g) (hcl : ∀ b ∈ as, Clear g b) (hr : Room (k + 1) A) (hna : a ∉ as)
    (mono : ∀ H H', Same H H' → Pre H → Pre H') (hne : a ≠ P) (hlen : ts.length = vs.length) (hT : ∀ (i : Nat) (v : V), vs[i]? = some v → ∃ t, ts[i]? = some t ∧ ShV X k as Pre v t) (hsz : base + (listText ts).length ≤ sizeLine) (hE : ∀ e s', X.xe e s' → R (.error e) s') :
    ∀ (n i : Nat) (H : Hp) (s : Shared), vs.length - i = n → i ≤ vs.length → Inv X pins σ H s → (∀ H', (∀ p o, p ≠ P → H p = some o → H' p = some o) → Pre H') → H a = some (.lst vs) → H P = some (.lst ((ts.take i).map V.str)) →
    (∀ H' s' u, Inv X pins σ H' s' → (∀ p o, p ≠ P → H p = some o → H' p = some o) → R (.ok (.ret (.str (listText ts) u))) s') →
    codeAny (model X.prog X.w) A (.builtin "list.__repr__.loop" ⟨[.ref a, rawInt i, .ref P, rawInt ((base + piled (ts.take i) : Nat) : Int)], []⟩) R s := by
  have hL := textFrom_len ts 0 "["
  have hX : (listText ts).length = (textFrom 0 "[" ts).length + 1 := by
    show (textFrom 0 "[" ts ++ "]").length = _
    rw [strLen_append]; rfl
  have hsz1 : vs.length ≤ sizeLine := by
    have h1 := hL.1
    rw [if_neg (Nat.lt_irrefl 0)] at h1
    omega
  have hsz2 : ∀ t ∈ ts, t.length ≤ sizeLine := fun t ht => by
    have h2 := hL.2.1 t ht
    omega
  have hsz3 : (listText ts).length ≤ sizeLine := by omega
  have hp3 := piled_le_listText ts
  intro n
  induction n with
  | zero =>
    intro i H s hk hi I pre hA hP q
    obtain ⟨_, its, na, rv, l1, ha⟩ := I.lstM hA
    obtain ⟨_, its2, nc, rv2, l2, hP2⟩ := I.lstM hP
    obtain ⟨done, rfl, hdone⟩ := strs_done rv2
    have hin : i = vs.length := by omega
    refine codeAny_builtin PySem.F.entry_list_repr_loop ?_
    show wpAny _ _ (Builtin.«list.__repr__.loop» ⟨[.ref a, .int i 0, .ref P, .int ((base + piled (ts.take i) : Nat) : Int) 0], []⟩) _ _ s
    rw [repr_loop_tree]
    refine wpAny_bind (wpAny_listItems ha rfl ?_)
    have hnone : its.toArray[(i : Int).toNat]? = none := by simp [hin, l1]
    simp only [hnone]
    unfold reprEnd
    refine wpAny_bind (wpAny_listItems hP2 rfl ?_)
    rw [show (strValues done).toArray.toList = strValues done from rfl, repr_fold]
    refine wpAny_bind (wpAny_pure ?_)
    have hall : done.map (·.1) = ts := by rw [hdone, hin, ← hlen, List.take_length]
    rw [hall]
    refine wpAny_bind (wpAny_mkStr (wpAny_pure ?_) hsz3)
    exact q H _ _ (I.tok _) fun _ _ _ e => e
  | succ n ih =>
    intro i H s hk hi I pre hA hP q
    obtain ⟨_, its, na, rv, l1, ha⟩ := I.lstM hA
    have hlt : i < vs.length := by omega
    obtain ⟨t, ht, hrep⟩ := hT i vs[i] (List.getElem?_eq_getElem hlt)
    obtain ⟨u, hu, rel⟩ := rv.get (List.getElem?_eq_getElem hlt)
    have hp1 := piled_take_succ ht
    have hp2 := piled_take_le ts (i + 1)
    refine codeAny_builtin PySem.F.entry_list_repr_loop ?_
    show wpAny _ _ (Builtin.«list.__repr__.loop» ⟨[.ref a, .int i 0, .ref P, .int ((base + piled (ts.take i) : Nat) : Int) 0], []⟩) _ _ s
    rw [repr_loop_tree]
    refine wpAny_bind (wpAny_listItems ha rfl ?_)
    have hsome : its.toArray[(i : Int).toNat]? = some u := by simpa using hu
    simp only [hsome]
    rw [Int.toNat_natCast]
    have hpre : Pre H := pre H fun _ _ _ e => e
    refine wpAny_bind (wpAny_holding (wpAny_mono (hrep (base + piled (ts.take i) + 1) (by omega) _ _ pins σ H s u (fun t' s' => t' = t ∧ ∃ H', Inv X pins σ H' s' ∧ Same H H') (frames_list_loop hfr) (guards_under_guard (isGuard_list_loop _) hg) (fun b hb => (hcl b hb).cons (a := a) fun e => hna (e ▸ hb)) (hr.list_loop _) I hpre rel fun H' s' I' sm => ⟨rfl, H', I', sm⟩) (fun t' s' hh => ?_) fun e s' z => hE e s' z))
    obtain ⟨rfl, H', I', sm⟩ := hh
    refine wpAny_bind (wpAny_mkStr ?_ (hsz2 t' (List.mem_of_getElem? ht)))
    refine wpAny_bind ?_
    show wpAny _ _ (updateSeq P _) _ _ _
    have hP' := sm _ _ hP
    obtain ⟨_, its2, nc, rv2, l2, hP2⟩ := I'.lstM hP'
    have take_len : (ts.take i).length ≤ i := by rw [List.length_take]; omega
    have asz : its2.toArray.size ≤ sizeLine := by
      rw [List.size_toArray, ← l2, List.length_map]
      omega
    refine wpAny_updateSeq hP2 rfl (wpAny_pure ⟨PySem.F.quiet_list_repr_loop _, ?_⟩) asz
    have e1 : ((i : Int) + 1) = ((i + 1 : Nat) : Int) := by omega
    have e2 : base + piled (ts.take i) + (t'.length + 2) = base + piled (ts.take (i + 1)) := by omega
    rw [e1, e2]
    have e3 : (ts.take i).map V.str ++ [V.str t'] = (ts.take (i + 1)).map V.str := by
      rw [List.take_add_one, ht, List.map_append]
      rfl
    have I2 : Inv X pins σ (upd H' P (.lst ((ts.take (i + 1)).map V.str))) _ := I'.lset (its' := its2 ++ [.str t' s'.toks]) (f := fun xs => xs.push (.str t' s'.toks)) (t' := s'.toks + 1) hP' hP2 (by simp) (by rw [← e3]; exact rv2.append (.cons ⟨_, rfl⟩ .nil)) (by rw [List.length_map, List.length_take]; omega)
    have keepP : ∀ p o, p ≠ P → H p = some o → (upd H' P (.lst ((ts.take (i + 1)).map V.str))) p = some o := fun p o np e => by
      rw [upd_ne np]
      exact sm p o e
    refine ih (i + 1) _ _ (by omega) hlt I2 (fun H2 k2 => pre H2 fun p o np e => k2 p o np (keepP p o np e)) (keepP a _ hne hA) upd_same fun H2 s2 u2 I3 k3 => ?_
    exact q H2 s2 u2 I3 fun p o np e => k3 p o np (keepP p o np e)
/-- repr of a list some of whose items are instances -/
def rReprO (X : Cx) (k : Nat) : List V → Hp → VK → Prop := fun xs H Q => ∃ (a : Addr) (v0 : V) (vr : List V) (ts : List Str) (Pre : Hp → Prop), xs = [.ref a] ∧ H a = some (.lst (v0 :: vr)) ∧ (∀ H H', Same H H' → Pre H → Pre H') ∧ Pre H ∧ ts.length = (v0 :: vr).length ∧
  (∀ (i : Nat) (v : V), (v0 :: vr)[i]? = some v → ∃ t, ts[i]? = some t ∧ ShV X k [] Pre v t) ∧ (listText ts).length ≤ sizeLine ∧ ∀ H', Same H H' → Q (.str (listText ts)) H'
theorem call_reprO (g0 : X.A.guards = some []) (hr : Room (k + 2) X.A) : CallR X (.builtin "repr") (rReprO X k) := by
  intro pins s σ H xs us Q I r h
  obtain ⟨a, v0, vr, ts, Pre, rfl, hA, mono, pre, hlen, hT, hsz, q⟩ := h
  obtain ⟨u, rfl, rx⟩ := vals1 r
  obtain rfl : u = Value.ref a := rx
  obtain ⟨z, its, n, rv, l1, ha⟩ := I.lstM hA
  match its, rv with
  | x :: l, rv =>
  refine call_repr_slot (T := "list") (by have := hr.units; omega) ⟨_, ha, rfl⟩ PySem.F.slot_list_repr.toG ?_
  refine wpAny_call (codeAny_call_builtin PySem.F.slot_list_repr.plain PySem.F.entry_list_repr (PySem.F.slot_list_repr.check _ _ _ _ _ _ _ _ ⟨_, ha, rfl⟩ (PySem.F.args_list_repr_1 _) ?_))
  refine wpAny_list_repr_head (A := X.A.in1.in1) (g := []) (b := 0) g0 (fun v rest kw hm => nomatch hm) ha rfl ?_
  refine wpAny_bind (m := newList []) (wpAny_newObj_type ?_)
  refine wpAny_pure ⟨PySem.F.quiet_list_repr_loop _, ?_⟩
  have I1 := I.lnew (ys := []) (its := []) (t' := s.toks) .nil (Nat.zero_le _)
  have nP : H s.heap.objs.size = none := I.hok.fresh (Nat.le_refl _)
  have neP : a ≠ s.heap.objs.size := ne_of_none hA nP
  have same : ∀ {H' : Hp}, (∀ p o, p ≠ s.heap.objs.size → (upd H s.heap.objs.size (.lst [])) p = some o → H' p = some o) → Same H H' := fun k2 p o e => k2 p o (ne_of_none e nP) (by rw [upd_ne (ne_of_none e nP)]; exact e)
  have pz : piled (ts.take 0) = 0 := rfl
  refine loop_own (X := X) (k := k) (as := []) (Pre := Pre) (A := X.A.in1) (g := []) (pins := pins) (σ := σ) (a := a) (P := s.heap.objs.size) (vs := v0 :: vr) (ts := ts) (base := 0) I.env0.frames g0 (fun b hb => nomatch hb) hr.in1 (fun hb => nomatch hb) mono neP hlen hT (by omega) (fun e s' z => z) _ 0 (upd H s.heap.objs.size (.lst [])) _ rfl (Nat.zero_le _) I1
    (fun H' k2 => mono H H' (same k2) pre) (by rw [upd_ne neP]; exact hA) upd_same fun H' s' u2 I2 k2 => ?_
  exact ⟨_, _, rfl, .str _, H', I2, ⟨u2, rfl⟩, q H' (same k2)⟩
end
end Mz
set_option Elab.async false
set_option linter.all false
set_option maxRecDepth 100000
set_option maxHeartbeats 4000000
/-! repr of a list of a text and a dict of one pair -/
namespace Mz
open PySem PySem.Spec PyProof.Rows L2
def pairText (z : Str) (i : Int) : Str := dictText (List.zipWith (fun k v : Str => k ++ ": " ++ v) [reprText z] [Str.ofString (toString i)])
def twoText (r z : Str) (i : Int) : Str := listText [reprText r, pairText z i]
def rRepr2 : List V → Hp → VK → Prop := fun xs H Q => ∃ (p : Addr) (r : Str) (a : Addr) (z : Str) (i : Int), xs = [.ref p] ∧ H p = some (.lst [.str r, .ref a]) ∧ H a = some (.dK [(.inr z, .int i)]) ∧
  i.natAbs.log2 < 1920 ∧ (reprText r).length ≤ 1000 ∧ (reprText z).length ≤ 1000 ∧ (twoText r z i).length ≤ sizeLine ∧ Q (.str (twoText r z i)) H
theorem call_repr2 {X : Cx} (g0 : X.A.guards = some []) (hu : X.A.units + 64 < cLine) : CallR X (.builtin "repr") rRepr2 := by
  intro pins s σ H xs us Q I rv h
  obtain ⟨p, r, a, z, i, rfl, hp, ha, hi, hr, hz, hsz, q⟩ := h
  obtain ⟨u, rfl, rx⟩ := vals1 rv
  obtain rfl : u = Value.ref p := rx
  have ends : ∀ h' t tk, (∀ b o, s.heap.get? b = some o → h'.get? b = some o) → EP X pins σ Q (.str (twoText r z i) t) { s with heap := h', toks := tk } := fun h' t tk hk => ⟨.str _, H, I.kept hk, ⟨_, rfl⟩, q⟩
  obtain ⟨_, its, n, vl, hl⟩ := (show ObjOk X.prog X.w H s.heap p (.lst [.str r, .ref a]) from I.hok p _ hp)
  obtain ⟨_, hsys, vs, kv, o, es, ep, ho, hx, hd, _, hpair, _⟩ := dk_of I.hok ha
  -- the two items
  match its, vl with
  | [u1, u2], .cons r1 (.cons r2 .nil) =>
  obtain ⟨t1, rfl⟩ := r1
  obtain rfl : u2 = Value.ref a := r2
  -- the one entry
  match vs, kv with
  | [(k2, v2)], .cons ⟨ek, rv2⟩ .nil =>
  obtain ⟨t2, rfl⟩ := rv2
  have ek2 : k2 = Sum.inr z := ek.symm
  subst ek2
  have entry : ∃ e, es.toList = [e] ∧ (∃ t, e.key = .str z t) ∧ e.val = .int i t2 := by
    generalize es.toList = l at hpair ⊢
    cases hpair with
    | cons hk hv hn =>
      cases hn
      obtain ⟨t, et⟩ := Value.isStrOf_shape (x := z) hk
      exact ⟨_, rfl, ⟨t, et⟩, hv⟩
  obtain ⟨e, he, ⟨t3, hkey⟩, hval⟩ := entry
  have kz : ReprK X.prog X.w [] s.heap 0 e.key (reprText z) := by
    rw [hkey]
    exact .of_is (ReprIs.str z t3 (Nat.le_trans hz (by decide))) _ _ _
  have vz : ReprK X.prog X.w [] s.heap 0 e.val (Str.ofString (toString i)) := by
    rw [hval]
    exact .of_is (ReprIs.int t2 hi) _ _ _
  have hE : ReprEntriesK X.prog X.w [] s.heap 0 es.toList (List.zipWith (fun k v : Str => k ++ ": " ++ v) [reprText z] [Str.ofString (toString i)]) := by
    rw [he]
    exact ReprEntriesK.of_two [e] _ _ (.cons kz .nil) (.cons vz .nil)
  have dk : ReprK X.prog X.w [a] s.heap 1 (.ref a) (pairText z i) := ReprK.dict ho hx.1 hd hsys (by simp) hE
  have sk : ReprK X.prog X.w [a] s.heap 1 (.str r t1) (reprText r) := .of_is (ReprIs.str r t1 (Nat.le_trans hr (by decide))) _ _ _
  have npa : p ∉ [a] := by
    intro hm
    rw [List.mem_singleton.mp hm, ha] at hp
    cases hp
  refine call_repr_slot (T := "list") (by omega) ⟨_, hl, rfl⟩ F.slot_list_repr.toG ?_
  refine call_list_reprK (as := [a]) (d := 1) (ts := [reprText r, pairText z i]) hl rfl rfl npa rfl (fun j y hy => ?_) (A := X.A.in1) g0 (fun b _ => Clear.nil b) (by show X.A.units + 1 + 2 < cLine; omega) (fun _ _ z => z) (fun h' t tk hk => ⟨_, _, rfl, ends h' t tk hk⟩) hsz
  match j, hy with
  | 0, hy =>
    cases hy
    exact ⟨_, rfl, sk⟩
  | 1, hy =>
    cases hy
    exact ⟨_, rfl, dk⟩
  | j + 2, hy =>
    exact absurd hy (by simp)
end Mz
set_option Elab.async false
set_option linter.all false
set_option maxRecDepth 100000
set_option maxHeartbeats 4000000
/-! repr of a list of a text and a dict whose values are flat, or lists of a 1 -/
namespace Mz
open PySem PySem.Spec PyProof.Rows L2
def keyT : Key → Str
  | .inl i => Str.ofString (toString i)
  | .inr z => reprText z
def itemT : V → Str
  | .non => PyData.shown .none
  | .bl b => PyData.shown (.bool b)
  | .int i => Str.ofString (toString i)
  | .str z => reprText z
  | _ => listText [Str.ofString (toString (1 : Int))]
/-- a value of such a dict -/
def VOk (qs : List Addr) (H : Hp) (v : V) : Prop := v = .non ∨ (∃ b, v = .bl b) ∨ (∃ i, v = .int i ∧ (i.natAbs.log2 < 1920 ∧ (Str.ofString (toString i)).length ≤ 300)) ∨ (∃ z, v = .str z ∧ (reprText z).length ≤ 300) ∨ ∃ q, v = .ref q ∧ q ∈ qs ∧ H q = some (.lst [.int 1])
def KOk : Key → Prop
  | .inl i => i.natAbs.log2 < 1920 ∧ (Str.ofString (toString i)).length ≤ 300
  | .inr z => (reprText z).length ≤ 300
def entT (kv : Key × V) : Str := keyT kv.1 ++ ": " ++ itemT kv.2
def dkText (r : Str) (kvs : List (Key × V)) : Str := listText [reprText r, dictText (kvs.map entT)]
def rReprDk : List V → Hp → VK → Prop := fun xs H Q => ∃ (p : Addr) (r : Str) (a : Addr) (qs : List Addr) (kvs : List (Key × V)), xs = [.ref p] ∧ H p = some (.lst [.str r, .ref a]) ∧ H a = some (.dK kvs) ∧ p ∉ qs ∧ a ∉ qs ∧ (reprText r).length ≤ 1000 ∧
  (∀ kv ∈ kvs, KOk kv.1 ∧ VOk qs H kv.2) ∧ (dkText r kvs).length ≤ sizeLine ∧ Q (.str (dkText r kvs)) H
section
variable {X : Cx} {pins : List (Addr × Obj)} {σ : L2.St} {H : Hp} {s : Shared} {qs : List Addr}
theorem item_repr (I : Inv X pins σ H s) {v : V} {u : Value} (r : RelV v u) (h : VOk qs H v) : ReprK X.prog X.w qs s.heap 1 u (itemT v) := by
  rcases h with rfl | ⟨b, rfl⟩ | ⟨i, rfl, hi, _⟩ | ⟨z, rfl, hz⟩ | ⟨q, rfl, hq, hH⟩
  · obtain rfl : u = Value.none := r
    exact .of_is (by simpa only [itemT, PyData.shown] using ReprIs.none) _ _ _
  · obtain rfl : u = Value.bool b := r
    exact .of_is (by simpa only [itemT, PyData.shown] using ReprIs.bool b) _ _ _
  · obtain ⟨t, rfl⟩ := r
    exact .of_is (ReprIs.int t hi) _ _ _
  · obtain ⟨t, rfl⟩ := r
    exact .of_is (ReprIs.str z t (Nat.le_trans hz (by decide))) _ _ _
  · obtain rfl : u = Value.ref q := r
    obtain ⟨_, its, n, vl, hl⟩ := (show ObjOk X.prog X.w H s.heap q (.lst [.int 1]) from I.hok q _ hH)
    match its, vl with
    | [u1], .cons r1 .nil =>
    obtain ⟨t1, rfl⟩ := r1
    refine (ReprK.list (as := []) (d := 0) hl rfl rfl (by simp) rfl fun i y hy => ?_).more fun b hb => by
      rw [List.mem_singleton.mp hb]
      exact hq
    match i, hy with
    | 0, hy =>
      cases hy
      exact ⟨_, rfl, .of_is (ReprIs.int t1 (by decide +kernel)) _ _ _⟩
    | i + 1, hy => exact absurd hy (by simp)
theorem key_repr {k : Key} {u : Value} (e : keyIs k u = true) (h : KOk k) : ReprK X.prog X.w qs s.heap 1 u (keyT k) := by
  rcases keyIs_shape e with ⟨i, t, rfl, rfl⟩ | ⟨z, t, rfl, rfl⟩
  · exact .of_is (ReprIs.int t h.1) _ _ _
  · exact .of_is (ReprIs.str z t (Nat.le_trans h (by decide))) _ _ _
end
theorem item_len {qs : List Addr} {H : Hp} {v : V} (h : VOk qs H v) : (itemT v).length ≤ 300 := by
  rcases h with rfl | ⟨b, rfl⟩ | ⟨i, rfl, _, hi⟩ | ⟨z, rfl, hz⟩ | ⟨q, rfl, hq, hH⟩
  · simp only [itemT, PyData.shown]
    decide +kernel
  · cases b <;> simp only [itemT, PyData.shown] <;> decide +kernel
  · exact hi
  · exact hz
  · show (listText [Str.ofString (toString (1 : Int))]).length ≤ 300
    decide +kernel
theorem key_len {k : Key} (h : KOk k) : (keyT k).length ≤ 300 := by
  cases k with
  | inl i => exact h.2
  | inr z => exact h
theorem ent_sum {qs : List Addr} {H : Hp} : ∀ kvs : List (Key × V), (∀ kv ∈ kvs, KOk kv.1 ∧ VOk qs H kv.2) → ((kvs.map entT).map (·.length)).sum ≤ 602 * kvs.length
  | [], _ => Nat.le_refl _
  | kv :: r, h => by
    obtain ⟨h1, h2⟩ := h kv List.mem_cons_self
    have ih := ent_sum r fun x hx => h x (List.mem_cons_of_mem _ hx)
    have e : (entT kv).length = (keyT kv.1).length + 2 + (itemT kv.2).length := by
      show ((keyT kv.1 ++ ": ") ++ itemT kv.2 : Str).length = _
      rw [strLen_append, strLen_append]
      rfl
    have k1 := key_len h1
    have k2 := item_len h2
    rw [List.map_cons, List.map_cons, List.sum_cons, List.length_cons, e]
    omega
theorem dkText_len {qs : List Addr} {H : Hp} {r : Str} {kvs : List (Key × V)} (h : ∀ kv ∈ kvs, KOk kv.1 ∧ VOk qs H kv.2) (hl : kvs.length ≤ 6) (hr : (reprText r).length ≤ 1000) : (dkText r kvs).length ≤ sizeLine := by
  have e1 := ent_sum kvs h
  have e2 := StrLaws.join_length_le ", " (kvs.map entT)
  have e3 : (dictText (kvs.map entT)).length = 1 + (Str.join ", " (kvs.map entT)).length + 1 := by
    unfold dictText
    rw [strLen_append, strLen_append]
    rfl
  have e4 : (dkText r kvs).length = (reprText r).length + (dictText (kvs.map entT)).length + 4 := by
    show ((("[" ++ ((if 0 > 0 then ", " else "" : String) : Str) ++ reprText r) ++ ((if 1 > 0 then ", " else "" : String) : Str) ++ dictText (kvs.map entT)) ++ "]" : Str).length = _
    rw [if_neg (by decide), if_pos (by decide)]
    simp only [strLen_append]
    have f1 : (("[" : String) : Str).length = 1 := by decide +kernel
    have f2 : (("" : String) : Str).length = 0 := by decide +kernel
    have f3 : ((", " : String) : Str).length = 2 := by decide +kernel
    have f4 : (("]" : String) : Str).length = 1 := by decide +kernel
    rw [f1, f2, f3, f4]
    omega
  have e5 : (", " : Str).length = 2 := by decide +kernel
  rw [e5, List.length_map] at e2
  have e6 : 100000 ≤ sizeLine := by decide
  rw [e4, e3]
  omega
theorem call_reprDk {X : Cx} (g0 : X.A.guards = some []) (hu : X.A.units + 64 < cLine) : CallR X (.builtin "repr") rReprDk := by
  intro pins s σ H xs us Q I rv h
  obtain ⟨p, r, a, qs, kvs, rfl, hp, ha, npq, naq, hr, hall, hsz, q⟩ := h
  obtain ⟨u, rfl, rx⟩ := vals1 rv
  obtain rfl : u = Value.ref p := rx
  have ends : ∀ h' t tk, (∀ b o, s.heap.get? b = some o → h'.get? b = some o) → EP X pins σ Q (.str (dkText r kvs) t) { s with heap := h', toks := tk } := fun h' t tk hk => ⟨.str _, H, I.kept hk, ⟨_, rfl⟩, q⟩
  obtain ⟨_, its, n, vl, hl⟩ := (show ObjOk X.prog X.w H s.heap p (.lst [.str r, .ref a]) from I.hok p _ hp)
  obtain ⟨_, hsys, vs, kv, o, es, ep, ho, hx, hd, _, hpair, _⟩ := dk_of I.hok ha
  match its, vl with
  | [u1, u2], .cons r1 (.cons r2 .nil) =>
  obtain ⟨t1, rfl⟩ := r1
  obtain rfl : u2 = Value.ref a := r2
  have ents : ∀ (kvs : List (Key × V)) (vs : List (Key × Value)) (l : List DictEntry), KV kvs vs → Pairs (mixKind X.prog X.w) l vs → (∀ kv ∈ kvs, KOk kv.1 ∧ VOk qs H kv.2) → ReprEntriesK X.prog X.w qs s.heap 1 l (kvs.map entT) := by
    intro kvs
    induction kvs with
    | nil =>
      intro vs l kv pr _
      match vs, kv, l, pr with
      | [], .nil, _, pr =>
        cases pr
        exact .nil
    | cons x kvs ih =>
      intro vs l kv pr hall
      match vs, kv, pr with
      | (k2, v2) :: vs, .cons ⟨ek, rv2⟩ kr, pr =>
        cases pr with
        | @cons en _ es2 _ hk hv hn =>
          obtain ⟨h1, h2⟩ := hall x List.mem_cons_self
          have ek2 : x.1 = k2 := ek
          have hk2 : keyIs x.1 en.key = true := by
            rw [ek2]
            exact hk
          refine .cons (k := keyT x.1) (v := itemT x.2) (key_repr hk2 h1) ?_ (ih vs es2 kr hn fun y hy => hall y (List.mem_cons_of_mem _ hy))
          rw [hv]
          exact item_repr I rv2 h2
  have dk : ReprK X.prog X.w (a :: qs) s.heap 2 (.ref a) (dictText (kvs.map entT)) := ReprK.dict ho hx.1 hd hsys naq (ents kvs vs es.toList kv hpair hall)
  have sk : ReprK X.prog X.w (a :: qs) s.heap 2 (.str r t1) (reprText r) := .of_is (ReprIs.str r t1 (Nat.le_trans hr (by decide))) _ _ _
  have npa : p ∉ a :: qs := by
    intro hm
    rcases List.mem_cons.mp hm with e | e
    · rw [e, ha] at hp
      cases hp
    · exact npq e
  refine call_repr_slot (T := "list") (by omega) ⟨_, hl, rfl⟩ F.slot_list_repr.toG ?_
  refine call_list_reprK (as := a :: qs) (d := 2) (ts := [reprText r, dictText (kvs.map entT)]) hl rfl rfl npa rfl (fun j y hy => ?_) (A := X.A.in1) g0 (fun b _ => Clear.nil b) (by show X.A.units + 1 + 3 < cLine; omega) (fun _ _ z => z) (fun h' t tk hk => ⟨_, _, rfl, ends h' t tk hk⟩) hsz
  match j, hy with
  | 0, hy =>
    cases hy
    exact ⟨_, rfl, sk⟩
  | 1, hy =>
    cases hy
    exact ⟨_, rfl, dk⟩
  | j + 2, hy => exact absurd hy (by simp)
end Mz
set_option Elab.async false
set_option linter.all false
set_option maxRecDepth 100000
set_option maxHeartbeats 4000000
/-! o[i], o an instance with an own __getitem__ that may raise -/
namespace Mz
open PySem PySem.Spec PyProof.Rows L2
def rSubO (C : Addr) (sp : Sp) (E : XK) : R2 := fun x y H Q => ∃ a dx fs, x = .ref a ∧ H a = some (.ins C dx fs) ∧ sp [.ref a, y] H Q E
theorem pe_subS {X : Cx} {CX : CXT} {k : Nat} {f C : Addr} {fd : FuncData} {ps : List Str} {sp : Sp} {E : L2.St → XK} {ea eb : Expr} {ta tb : TE} {pos : Pos} (F : FnOk X.prog X.w X.K X.mg X.base CX k f fd ps sp) (hr : Room (k + 1) X.A) (hb : Binds X.K fd ps [])
    (iG : PySem.W.findIn X.K (.ref C) "__getitem__" = some (some (.ref f))) (fG : PySem.W.fnIn X.K f = true) (jG : PySem.W.isFn X.K (.ref f) = true) (hx : ∀ σ, PassesAt CX X σ (E σ)) (ha : PE X ea ta) (hb2 : PE X eb tb)
    (hs : ∀ (x : Addr) (i : Value), subscripted eb true (.ref x) i = runValue (.builtin "lifetime.subscript" ⟨[.ref x, i], []⟩) := by intro _ _; rfl) :
    PE X (.Subscript ea eb pos) (fun σ H Q => ta σ H fun x H1 => tb σ H1 fun y H2 => rSubO C sp (E σ) x y H2 Q) := by
  refine ⟨fun pins s σ H Q I h => Subscript_ (binT (f := fun v u => subscriptTail ea eb v u) ha hb2 I h fun v u s2 x y H2 I2 rx ry q => ?_)⟩
  obtain ⟨a, dx, fs, rfl, hH, q⟩ := q
  obtain rfl : v = Value.ref a := rx
  obtain ⟨mA, O, _⟩ := ins_get I2.hok hH
  obtain ⟨od, J, _⟩ := O.look
  obtain ⟨m, hF⟩ := I2.fr
  exact PySem.W.sub_K hF I2.ok.mod.kin J iG fG jG (run_at (vs := [.ref a, y]) (us := [.ref a, u]) F hr.in1 I2.env0.in1 hb (fun e s3 z => hx σ pins H2 s2 e s3 I2 z) I2 (.cons rfl (.cons ry .nil)) q) (hs a u)
/-- o.m(e, ..), an own method that may raise; what it raises is wished for at the caller's slots -/
theorem pe_methSS {X : Cx} {CX : CXT} {k : Nat} {f C : Addr} {fd : FuncData} {ps : List Str} {sp : Sp} {E : L2.St → XK} {o e : Expr} {es : List Expr} {ta : TE} {t : TA} {m : Str} {apos pos : Pos} {pl : Sem Bool} (he : PE X o ta) (c : Cls X.K C) (hm : Meth X.K C m f) (F : FnOk X.prog X.w X.K X.mg X.base CX k f fd ps sp) (hr : Room k X.A)
    (hb : Binds X.K fd ps []) (hx : ∀ σ, PassesAt CX X σ (E σ)) (ha : PA X (e :: es) t) (hst : starEach (e :: es) X.env = (false, eval e X.env) :: starEach es X.env := by rfl) (hpl : (backTo pos (starEach es X.env)).any (·.1) = false := by rfl)
    (ht : eval (.Call (.Attribute o m apos) (e :: es) [] pos) X.env = (do
      let ov ← eval o X.env
      standAt apos.atName
      let (f, first) ← holding [ov] (getMethod ov m pl)
      callWith pos f first (backTo pos (starEach (e :: es) X.env)) (backToKw pos (keywordEach [] X.env))) := by rfl) :
    PE X (.Call (.Attribute o m apos) (e :: es) [] pos) (fun σ H Q => ta σ H fun x H1 => ∃ a dx fs, x = .ref a ∧ H1 a = some (.ins C dx fs) ∧ fs.lookup m = none ∧ t σ H1 fun vs H2 => sp (x :: vs) H2 Q (E σ)) := by
  refine ⟨fun pins s σ H Q I h => PySem.W.methodCall_KW (pl := pl) (thn (he.run pins s σ H _ I h) fun u s1 hv => ?_) ht⟩
  obtain ⟨x, H1, I1, rx, a, dx, fs, rfl, ea, l, q⟩ := hv
  obtain rfl : u = Value.ref a := rx
  refine getmeth_ok I1 ea c hm l (PySem.W.callWith_K (first := [.ref a]) (h₀ := X.base) I.ok.mod.kin hm.kp (thn (ha.run pos pins s1 σ H1 _ I1 q) fun us s2 hw => ?_) hst hpl)
  obtain ⟨vs, H2, I2, r, q2⟩ := hw
  exact ⟨I2.kIn, run_fnS (us := .ref a :: us) (vs := .ref a :: vs) F hr hb (hx σ) I2 (.cons rfl r) q2⟩
end Mz
set_option Elab.async false
set_option linter.all false
set_option maxRecDepth 100000
set_option maxHeartbeats 4000000
/-! + and - with an instance of an own class on one side, where the own def may raise -/
namespace Mz
open PySem PySem.Spec PyProof.Rows L2
section
variable {prog : Program} {w : World} {A : Around} {E : Value → Shared → Prop} {s : Shared} {K : PySem.W.Frag} {x C f : Addr} {ox : Obj} {od : Option Obj} {T : String} {op : Operator}
open PySem.W in
/-- the instance is on the left, on the right is a value of a built-in type -/
theorem bin1_type {b : Value} {fo ro rc : Option Value} {Q : Value → Shared → Prop} (X : K.In s.heap) (J : InstAt s.heap x ox C od) (hb : ∀ h : Heap, s.heap = h → Looks (model prog w) h (typeOf b) (.type T)) (first : selfFirst K C = true)
    (own : findIn K (.ref C) (PySem.dunder op.info.2) = some (some (.ref f))) (fn : isFn K (.ref f) = true) (back : findIn K (.ref C) (dunderR op.info.2) = some rc) (how : rc = none ∨ ∃ g : Addr, rc = some (.ref g))
    (t1 : findIn K (.type T) (PySem.dunder op.info.2) = some fo) (t2 : findIn K (.type T) (dunderR op.info.2) = some ro) (low : subIn K (.type T) (.ref C) = some false)
    (run : wpAny (model prog w) A (call (.ref f) [.ref x, b]) (PySem.W.CmpBack Q) E s) : wpAny (model prog w) A (binaryOp1 op.info.2 (.ref x) b) (fun r s2 => ∃ v, r = some v ∧ Q v s2) E s := by
  obtain ⟨cd, rest, hcd, hm⟩ := ksp_first first
  rcases hi : op.info with ⟨sym, nm⟩
  rw [hi] at own back t1 t2
  have tried := ksp_try X J own fn run
  obtain ⟨hp, gn, dp, tk, os⟩ := s
  have K1 : Looks (model prog w) hp (typeOf (.ref x)) (.ref C) := J.type
  have K2 : Looks (model prog w) hp (typeOf b) (.type T) := hb _ rfl
  have K3 : Looks (model prog w) hp (fillsNumberSlot (.ref C) nm) true := fills_K X hcd hm own
  have K4 := ksp_fillsT (M := model prog w) X t1 t2
  have K5 : Looks (model prog w) hp (isSubtype (.type T) (.ref C)) false := looks_subIn X low
  have K6 : Looks (model prog w) hp (numberSlotInPython (.ref C) nm) true := ksp_inPy X own back how
  have K7 : Looks (model prog w) hp (numberSlotInPython (.type T) nm) false := Looks.of_pure rfl
  have K8 : Looks (model prog w) hp (typeLookup (.type T) (dunderR nm)) ro := looks_findIn X t2
  have unlike : (Value.ref C == Value.type T) = false := by
    cases e : (Value.ref C == Value.type T) with
    | false => rfl
    | true => cases beq_iff_eq.mp e
  revert K4
  generalize ((fo.isSome && !isSeqSlot fo) || (ro.isSome && !isSeqSlot ro)) = fills
  intro K4
  have fin : ∀ r s2, (∃ v, r = some v ∧ Q v s2) → wpAny (model prog w) A (pure r) (fun r s3 => ∃ v, r = some v ∧ Q v s3) E s2 := fun r s2 h => wpAny_pure h
  show wpAny (model prog w) A (binaryOp1 nm (.ref x) b) _ E _
  unfold binaryOp1
  refine wpAny_bind (K1.at (wpAny_bind (K2.at (wpAny_bind (K3.at ?_)))))
  simp only [unlike, Bool.false_eq_true, if_false]
  cases fills
  all_goals
    ksp_lk
    refine wpAny_mono tried (fun r s2 hr => ?_) fun _ _ z => z
    obtain ⟨v, rfl, hq⟩ := hr
    ksp_lk
    exact ⟨v, rfl, hq⟩
open PySem.W in
theorem bin_of1 {a b : Value} {Q : Value → Shared → Prop} (h : wpAny (model prog w) A (binaryOp1 op.info.2 a b) (fun r s2 => ∃ v, r = some v ∧ Q v s2) E s) : wpAny (model prog w) A (binaryOp op a b) Q E s := by
  rcases hi : op.info with ⟨sym, nm⟩
  rw [hi] at h
  simp only [binaryOp, hi]
  refine wpAny_holding (wpAny_bind (wpAny_mono h (fun r s2 hr => ?_) fun _ _ z => z))
  obtain ⟨v, rfl, hq⟩ := hr
  exact wpAny_pure hq
/-- a class whose types ahead of object know no += : it goes as + -/
theorem inp_of1 {b : Value} {Q : Value → Shared → Prop} (X : K.In s.heap) (J : PySem.W.InstAt s.heap x ox C od) (hc : (PySem.W.clsIn K C).map (·.mro) = some [.ref C, .type "object"]) (n1 : PySem.W.findIn K (.ref C) (dunderI op.info.2) = some none) (n2 : PySem.W.findIn K (.type "object") (dunderI op.info.2) = some none)
    (h : wpAny (model prog w) A (binaryOp1 op.info.2 (.ref x) b) (fun r s2 => ∃ v, r = some v ∧ Q v s2) E s) : wpAny (model prog w) A (inplaceOp op (.ref x) b) Q E s := by
  obtain ⟨cd, hcd, hm⟩ := Option.map_eq_some_iff.mp hc
  have no : PySem.W.Looks (model prog w) s.heap (fillsInplaceSlot (.ref C) op.info.2 (op == .Add)) false := by
    intro A2 Q2 E2 s2 k q2
    have Lm : PySem.W.Looks (model prog w) s.heap (mroOf (.ref C)) cd.mro := (PySem.W.looks_clsIn X hcd).andThen (f := fun cd => pure cd.mro) .now
    have L1 : PySem.W.Looks (model prog w) s.heap (typeLookup (.ref C) (dunderI op.info.2)) none := PySem.W.looks_findIn X n1
    have L2' : PySem.W.Looks (model prog w) s.heap (typeLookup (.type "object") (dunderI op.info.2)) none := PySem.W.looks_findIn X n2
    have M1 := Lm.keeps k
    have M2 := L1.keeps k
    have M3 := L2'.keeps k
    obtain ⟨hp, gn, dp, tk, os⟩ := s2
    unfold fillsInplaceSlot
    refine wpAny_bind (M1.at ?_)
    rw [hm, List.anyM_cons]
    refine wpAny_bind (wpAny_bind (M2.at (wpAny_pure ?_)))
    rw [if_neg Bool.false_ne_true, List.anyM_cons]
    refine wpAny_bind (wpAny_bind (M3.at (wpAny_pure ?_)))
    exact wpAny_pure q2
  unfold inplaceOp
  refine wpAny_holding (wpAny_bind (J.type.here (wpAny_bind (no.here ?_))))
  simp only [Bool.false_eq_true, if_false]
  refine wpAny_bind (wpAny_mono h (fun r s2 hr => ?_) fun _ _ z => z)
  obtain ⟨v, rfl, hq⟩ := hr
  exact wpAny_pure hq
open PySem.W in
/-- both sides are of the class -/
theorem bin_own {b : Value} {Q : Value → Shared → Prop} (X : K.In s.heap) (J : InstAt s.heap x ox C od) (hb : ∀ h : Heap, s.heap = h → Looks (model prog w) h (typeOf b) (.ref C)) (first : selfFirst K C = true)
    (own : findIn K (.ref C) (PySem.dunder op.info.2) = some (some (.ref f))) (fn : isFn K (.ref f) = true)
    (run : wpAny (model prog w) A (call (.ref f) [.ref x, b]) (PySem.W.CmpBack Q) E s) : wpAny (model prog w) A (binaryOp op (.ref x) b) Q E s := by
  obtain ⟨cd, rest, hcd, hm⟩ := ksp_first first
  rcases hi : op.info with ⟨sym, nm⟩
  rw [hi] at own
  have tried := ksp_try X J own fn run
  obtain ⟨hp, gn, dp, tk, os⟩ := s
  have K1 : Looks (model prog w) hp (typeOf (.ref x)) (.ref C) := J.type
  have K2 : Looks (model prog w) hp (typeOf b) (.ref C) := hb _ rfl
  have K3 : Looks (model prog w) hp (fillsNumberSlot (.ref C) nm) true := fills_K X hcd hm own
  have like : (Value.ref C == Value.ref C) = true := beq_self_eq_true _
  simp only [binaryOp, hi]
  refine wpAny_holding (wpAny_bind ?_)
  unfold binaryOp1
  refine wpAny_bind (K1.at (wpAny_bind (K2.at (wpAny_bind (K3.at ?_)))))
  simp only [like, if_true]
  ksp_lk
  refine wpAny_mono tried (fun r s2 hr => ?_) fun _ _ z => z
  obtain ⟨v, rfl, hq⟩ := hr
  ksp_lk
  exact hq
/-- int.__add__ declines what is an instance -/
theorem add_declines {b : Value} {dx : Addr} {Q : Value → Shared → Prop} (hx : s.heap.get? x = some (PySem.W.instObj C dx)) (hb : (∃ i t, b = .int i t) ∨ ∃ y, b = .bool y) (q : Q .notImplemented s) :
    wpAny (model prog w) A (call (.builtin "int.__add__") [b, .ref x]) Q E s := by
  have body : ∀ (A2 : Around) (E2 : Value → Shared → Prop) (Q2 : Fin → Shared → Prop), Q2 (.done (.ret .notImplemented)) s → wpAny (model prog w) A2 (Builtin.«int.__add__» ⟨[b, .ref x], []⟩) Q2 E2 s := by
    intro A2 E2 Q2 q2
    obtain ⟨hp, gn, dp, tk, os⟩ := s
    rcases hb with ⟨i, t, rfl⟩ | ⟨y, rfl⟩
    all_goals
      unfold Builtin.«int.__add__» Builtin.Int.intBinary
      refine wpAny_bind (m := slotArgs "__add__" 1 _) (wpAny_pure ?_)
      refine wpAny_bind (wpAny_pure ?_)
      refine wpAny_bind ?_
      show wpAny _ _ (asInt? (.ref x)) _ _ _
      unfold asInt?
      refine wpAny_bind (wpAny_load hx ?_)
      refine wpAny_pure ?_
      exact wpAny_bind (wpAny_rule (wpAny_pure q2))
  rcases hb with ⟨i, t, rfl⟩ | ⟨y, rfl⟩
  · exact wpAny_call (codeAny_call_builtin F.slot_int_add.plain F.entry_int_add (F.slot_int_add.check _ _ _ _ _ _ _ _ (typeIs_int s i t) (F.args_int_add_2 _ _) (body _ _ _ q)))
  · exact wpAny_call (codeAny_call_builtin F.slot_bool_add.plain F.entry_int_add (F.slot_bool_add.check _ _ _ _ _ _ _ _ rfl (F.args_int_add_2 _ _) (body _ _ _ q)))
open PySem.W in
/-- an int or a bool on the left, which declines, the instance on the right -/
theorem add_back {b : Value} {dx : Addr} {Q : Value → Shared → Prop} (X : K.In s.heap) (J : InstAt s.heap x ox C od) (hx : s.heap.get? x = some (PySem.W.instObj C dx)) (first : selfFirst K C = true) (own : findIn K (.ref C) (PySem.dunder "add") = some (some (.ref f))) {g : Addr} (back : findIn K (.ref C) (dunderR "add") = some (some (.ref g)))
    (fn : isFn K (.ref g) = true) (lo1 : subIn K (.ref C) (.type "int") = some false) (lo2 : subIn K (.ref C) (.type "bool") = some false) (hb : (∃ i t, b = .int i t) ∨ ∃ y, b = .bool y)
    (run : wpAny (model prog w) A (call (.ref g) [.ref x, b]) (PySem.W.CmpBack Q) E s) : wpAny (model prog w) A (binaryOp .Add b (.ref x)) Q E s := by
  obtain ⟨cd, rest, hcd, hm⟩ := ksp_first first
  have tried := ksp_try X J back fn run
  have no : ∀ {Q2 : Option Value → Shared → Prop}, Q2 none s → wpAny (model prog w) A (tryMethod b (PySem.dunder "add") (.ref x)) Q2 E s := by
    intro Q2 q
    have dec : wpAny (model prog w) A (call (.builtin "int.__add__") [b, .ref x]) (fun v s2 => v = .notImplemented ∧ Q2 none s2) E s := add_declines hx hb ⟨rfl, q⟩
    rcases id hb with ⟨i, t, e⟩ | ⟨y, e⟩
    · have ty : s.TypeIs b "int" := by
        rw [e]
        exact typeIs_int s i t
      exact wpAny_tryMethod_declines ty F.slot_int_add dec
    · have ty : s.TypeIs b "bool" := by
        rw [e]
        exact rfl
      exact wpAny_tryMethod_declines ty F.slot_bool_add dec
  have main : ∀ T : String, typeOf b = pure (.type T) → fillsNumberSlot (.type T) "add" = pure true → subIn K (.ref C) (.type T) = some false → wpAny (model prog w) A (binaryOp .Add b (.ref x)) Q E s := by
    intro T hty hf hlow
    have no2 := @no
    revert tried no2
    obtain ⟨hp, gn, dp, tk, os⟩ := s
    intro tried no2
    have K1 : Looks (model prog w) hp (typeOf b) (.type T) := Looks.of_pure hty
    have K2 : Looks (model prog w) hp (typeOf (.ref x)) (.ref C) := J.type
    have K3 : Looks (model prog w) hp (fillsNumberSlot (.type T) "add") true := Looks.of_pure hf
    have K4 : Looks (model prog w) hp (fillsNumberSlot (.ref C) "add") true := fills_K X hcd hm own
    have K5 : Looks (model prog w) hp (isSubtype (.ref C) (.type T)) false := looks_subIn X hlow
    have K6 : Looks (model prog w) hp (numberSlotInPython (.type T) "add") false := Looks.of_pure rfl
    have unlike : (Value.type T == Value.ref C) = false := by
      cases e : (Value.type T == Value.ref C) with
      | false => rfl
      | true => cases beq_iff_eq.mp e
    simp only [binaryOp, Operator.info]
    refine wpAny_holding (wpAny_bind ?_)
    unfold binaryOp1
    refine wpAny_bind (K1.at (wpAny_bind (K2.at (wpAny_bind (K3.at ?_)))))
    simp only [unlike, Bool.false_eq_true, if_false]
    ksp_lk
    refine no2 ?_
    ksp_lk
    refine wpAny_mono tried (fun r s2 hr => ?_) fun _ _ z => z
    obtain ⟨v, rfl, hq⟩ := hr
    ksp_lk
    exact hq
  rcases id hb with ⟨i, t, rfl⟩ | ⟨y, rfl⟩
  · exact main "int" rfl F.fills_int_add lo1
  · exact main "bool" rfl F.fills_bool_add lo2
end
/-! the rules -/
theorem back_of {X : Cx} {pins : List (Addr × Obj)} {σ : L2.St} {Q : VK} {u : Value} {s : Shared} (h : EP X pins σ Q u s) : PySem.W.CmpBack (EP X pins σ Q) u s := by
  cases u
  case notImplemented =>
    obtain ⟨v, H, I, r, q⟩ := h
    exfalso
    cases v <;> first | exact nomatch r | (obtain ⟨_, e⟩ := r; cases e)
  all_goals exact h
/-- what the class says of a operator's def on its left -/
structure Lty (K : PySem.W.Frag) (C : Addr) (op : Operator) (f : Addr) : Prop where
  first : PySem.W.selfFirst K C = true
  own : PySem.W.findIn K (.ref C) (PySem.dunder op.info.2) = some (some (.ref f))
  fn : PySem.W.isFn K (.ref f) = true
  back : ∃ rc, PySem.W.findIn K (.ref C) (dunderR op.info.2) = some rc ∧ (rc = none ∨ ∃ g : Addr, rc = some (.ref g))
/-- what a built-in type on the right says -/
structure Rty (K : PySem.W.Frag) (C : Addr) (op : Operator) (T : String) : Prop where
  io : ∃ fo, PySem.W.findIn K (.type T) (PySem.dunder op.info.2) = some fo
  ir : ∃ ro, PySem.W.findIn K (.type T) (dunderR op.info.2) = some ro
  sub : PySem.W.subIn K (.type T) (.ref C) = some false
def rLeft (K : PySem.W.Frag) (C : Addr) (op : Operator) (sp : Sp) (E : XK) : R2 := fun x y H Q => ∃ a dx fs, x = .ref a ∧ H a = some (.ins C dx fs) ∧ ((∃ T, TyX K H y (.type T) ∧ Rty K C op T) ∨ TyX K H y (.ref C)) ∧ sp [.ref a, y] H Q E
section
variable {X : Cx} {CX : CXT} {k : Nat} {f C : Addr} {fd : FuncData} {ps : List Str} {sp : Sp} {op : Operator} {E : L2.St → XK} {ea eb : Expr} {ta tb : TE} {pos : Pos}
theorem op_leftS (F : FnOk X.prog X.w X.K X.mg X.base CX k f fd ps sp) (hr : Room k X.A) (hb : Binds X.K fd ps []) (T : Lty X.K C op f) (hx : ∀ σ, PassesAt CX X σ (E σ)) (pins : List (Addr × Obj)) (s : Shared) (σ : L2.St) (H : Hp) (x y : V) (v u : Value) (Q : VK) (I : Inv X pins σ H s) (rx : RelV x v) (ry : RelV y u)
    (h : rLeft X.K C op sp (E σ) x y H Q) : wpAny (model X.prog X.w) X.A (binaryOp op v u) (EP X pins σ Q) X.xe s := by
  obtain ⟨a, dx, fs, rfl, ha, hy, q⟩ := h
  obtain rfl : v = Value.ref a := rx
  obtain ⟨mA, O, _⟩ := ins_get I.hok ha
  obtain ⟨od, J, _⟩ := O.look
  have run : wpAny (model X.prog X.w) X.A (call (.ref f) [.ref a, u]) (PySem.W.CmpBack (EP X pins σ Q)) X.xe s := wpAny_mono (run_fnS (vs := [.ref a, y]) (us := [.ref a, u]) F hr hb (hx σ) I (.cons rfl (.cons ry .nil)) q) (fun _ _ z => back_of z) fun _ _ z => z
  rcases hy with ⟨T2, ty, R⟩ | ty
  · obtain ⟨P, Z, hp, _⟩ := kit_of I ry ty
    obtain ⟨rc, b1, b2⟩ := T.back
    obtain ⟨fo, c1⟩ := R.io
    obtain ⟨ro, c2⟩ := R.ir
    exact bin_of1 (bin1_type I.kIn J (fun h e => by rw [← e]; exact Z.ty _ _ I.kIn hp) T.first T.own T.fn b1 b2 c1 c2 R.sub run)
  · obtain ⟨P, Z, hp, _⟩ := kit_of I ry ty
    exact bin_own I.kIn J (fun h e => by rw [← e]; exact Z.ty _ _ I.kIn hp) T.first T.own T.fn run
theorem pe_leftS {K : PySem.W.Frag} (F : FnOk X.prog X.w X.K X.mg X.base CX k f fd ps sp) (hr : Room k X.A) (hb : Binds X.K fd ps []) (T : Lty K C op f) (hx : ∀ σ, PassesAt CX X σ (E σ)) (ha : PE X ea ta) (hb2 : PE X eb tb) (hK : X.K = K := by rfl) :
    PE X (.BinOp ea op eb pos) (fun σ H Q => ta σ H fun x H1 => tb σ H1 fun y H2 => rLeft K C op sp (E σ) x y H2 Q) := by
  subst hK
  exact ⟨fun pins s σ H Q I h => wpAny_BinOp (binT ha hb2 I h fun v u s2 x y H2 I2 rx ry q => op_leftS F hr hb T hx pins s2 σ H2 x y v u Q I2 rx ry q)⟩
/-- += at a name that holds an instance -/
theorem pip_left (F : FnOk X.prog X.w X.K X.mg X.base CX k f fd ps sp) (hr : Room k X.A) (hb : Binds X.K fd ps []) (T : Lty X.K C op f) (R : Rty X.K C op "int") (hc : (PySem.W.clsIn X.K C).map (·.mro) = some [.ref C, .type "object"]) (n1 : PySem.W.findIn X.K (.ref C) (dunderI op.info.2) = some none) (n2 : PySem.W.findIn X.K (.type "object") (dunderI op.info.2) = some none)
    (hx : ∀ σ, PassesAt CX X σ E0) : InOp X op (fun x y H Q => ∃ a dx fs i, x = .ref a ∧ y = .int i ∧ H a = some (.ins C dx fs) ∧ sp [.ref a, y] H Q E0) := by
  intro pins s σ H x y v u Q I rx ry h
  obtain ⟨a, dx, fs, i, rfl, rfl, ha, q⟩ := h
  obtain rfl : v = Value.ref a := rx
  obtain ⟨mA, O, _⟩ := ins_get I.hok ha
  obtain ⟨od, J, _⟩ := O.look
  have run : wpAny (model X.prog X.w) X.A (call (.ref f) [.ref a, u]) (PySem.W.CmpBack (EP X pins σ Q)) X.xe s := wpAny_mono (run_fnS (E := fun _ => E0) (vs := [.ref a, .int i]) (us := [.ref a, u]) F hr hb (hx σ) I (.cons rfl (.cons ry .nil)) q) (fun _ _ z => back_of z) fun _ _ z => z
  obtain ⟨P, Z, hp, _⟩ := kit_of I ry (.base (.int i))
  obtain ⟨rc, b1, b2⟩ := T.back
  obtain ⟨fo, c1⟩ := R.io
  obtain ⟨ro, c2⟩ := R.ir
  exact inp_of1 I.kIn J hc n1 n2 (bin1_type I.kIn J (fun h e => by rw [← e]; exact Z.ty _ _ I.kIn hp) T.first T.own T.fn b1 b2 c1 c2 R.sub run)
def rBack (C : Addr) (sp : Sp) (E : XK) : R2 := fun x y H Q => ∃ a dx fs, y = .ref a ∧ H a = some (.ins C dx fs) ∧ ((∃ i, x = .int i) ∨ ∃ b, x = .bl b) ∧ sp [.ref a, x] H Q E
/-- int + instance -/
theorem pe_backS {fA : Addr} (F : FnOk X.prog X.w X.K X.mg X.base CX k f fd ps sp) (hr : Room k X.A) (hb : Binds X.K fd ps []) (first : PySem.W.selfFirst X.K C = true) (own : PySem.W.findIn X.K (.ref C) (PySem.dunder "add") = some (some (.ref fA))) (back : PySem.W.findIn X.K (.ref C) (dunderR "add") = some (some (.ref f))) (fn : PySem.W.isFn X.K (.ref f) = true)
    (lo1 : PySem.W.subIn X.K (.ref C) (.type "int") = some false) (lo2 : PySem.W.subIn X.K (.ref C) (.type "bool") = some false) (hx : ∀ σ, PassesAt CX X σ (E σ)) (ha : PE X ea ta) (hb2 : PE X eb tb) :
    PE X (.BinOp ea .Add eb pos) (fun σ H Q => ta σ H fun x H1 => tb σ H1 fun y H2 => rBack C sp (E σ) x y H2 Q) := by
  refine ⟨fun pins s σ H Q I h => wpAny_BinOp (binT ha hb2 I h fun v u s2 x y H2 I2 rx ry q => ?_)⟩
  obtain ⟨a, dx, fs, rfl, hH, hx2, q⟩ := q
  obtain rfl : u = Value.ref a := ry
  obtain ⟨mA, O, _⟩ := ins_get I2.hok hH
  obtain ⟨od, J, _⟩ := O.look
  have run : wpAny (model X.prog X.w) X.A (call (.ref f) [.ref a, v]) (PySem.W.CmpBack (EP X pins σ Q)) X.xe s2 := wpAny_mono (run_fnS (vs := [.ref a, x]) (us := [.ref a, v]) F hr hb (hx σ) I2 (.cons rfl (.cons rx .nil)) q) (fun _ _ z => back_of z) fun _ _ z => z
  refine add_back I2.kIn J O.1 first own back fn lo1 lo2 ?_ run
  rcases hx2 with ⟨i, rfl⟩ | ⟨b, rfl⟩
  · obtain ⟨t, rfl⟩ := rx
    exact .inl ⟨i, t, rfl⟩
  · exact .inr ⟨b, rx⟩
/-- a call that raises nothing here -/
theorem pass_no {σ : L2.St} : PassesAt (L2.CX X.prog X.w) X σ E0 := by
  intro pins H s e s2 I c
  obtain ⟨_, _, _, _, _, _, _, _, _, _, _, _, z⟩ := c
  exact z.elim
end
end Mz
set_option Elab.async false
set_option linter.all false
set_option maxRecDepth 100000
set_option maxHeartbeats 4000000
/-! what an own class says of in -/
namespace Mz
open PySem PySem.Spec PyProof.Rows L2
section
variable {X : Cx} {k : Nat} {f C : Addr} {fd : FuncData} {ps : List Str} {sp : Sp}
theorem op_inO (F : FnOk X.prog X.w X.K X.mg X.base CX0 k f fd ps sp) (hr : Room k X.A) (hb : Binds X.K fd ps []) (hs : PySem.W.findIn X.K (.ref C) "__contains__" = some (some (.ref f))) (hf : PySem.W.isFn X.K (.ref f) = true) :
    OpR X (compareOp .In) (fun x y H Q => ∃ a dx fs, y = .ref a ∧ H a = some (.ins C dx fs) ∧ sp [.ref a, x] H (fun v H2 => ∃ b : Bool, v = .bl b ∧ Q (.bl b) H2) E0) := by
  intro pins s σ H x y v u Q I rx ry h
  obtain ⟨a, dx, fs, rfl, ha, q⟩ := h
  obtain rfl : u = Value.ref a := ry
  obtain ⟨mA, O, _⟩ := ins_get I.hok ha
  obtain ⟨od, J, _⟩ := O.look
  obtain ⟨m, hF⟩ := I.fr
  refine PySem.W.in_K hF I.ok.mod.kin J hs hf (wpAny_mono (run_at (E := E0) (vs := [.ref a, x]) (us := [.ref a, v]) F hr I.env0 hb (fun _ _ z => z.elim) I (.cons rfl (.cons rx .nil)) q) (fun r s2 hv => ?_) fun _ _ z => z)
  obtain ⟨v, H2, I2, rv, b, rfl, q2⟩ := hv
  obtain rfl : r = Value.bool b := rv
  exact wpAny_truthy_bool ⟨.bl b, H2, I2, rfl, q2⟩
end
end Mz
set_option Elab.async false
set_option linter.all false
set_option maxRecDepth 100000
set_option maxHeartbeats 4000000
/-! == and != of two tuples (dict, int), == of two dicts of ints: whichever way it goes -/
namespace Mz
open PySem PySem.Spec PyProof.Rows L2
open PySem.SeqAt (EqIn)
open PySem.AutoSeq1 (wpAny_loadPart')
section
variable {prog : Program} {w : World}
theorem tup2_ne (l b : Addr) (u1 u2 w1 w2 : Value) (n n2 : Nat) (dd dd2 : Option Addr) (sl sl2 : Array (Option Value)) (e1 e2 : Bool) :
    MeetsIn prog w (Builtin.«tuple.__ne__» ⟨[.ref l, .ref b], []⟩)
      (fun A R s => s.heap.get? l = some { cls := .type "tuple", dict := dd, data := .seq #[u1, u2] n, slots := sl } ∧ s.heap.get? b = some { cls := .type "tuple", dict := dd2, data := .seq #[w1, w2] n2, slots := sl2 } ∧
        EqIn prog w A.in1 s u1 w1 e1 ∧ EqIn prog w A.in1 s u2 w2 e2 ∧ R (.ok (.ret (.bool (!(e1 && e2))))) s) :=
  .of_wp fun A R s h => by
    obtain ⟨hp, g, d, tk, os⟩ := s
    obtain ⟨hl, hb, h1, h2, h⟩ := h
    have f2 := AutoSeq1.sub_tuple_tuple
    have k1 : ∀ (E : Value → Shared → Prop) (Q : Bool → Shared → Prop), Q e1 ⟨hp, g, d, tk, os⟩ → wpAny (model prog w) A.in1 (eqBool u1 w1) Q E ⟨hp, g, d, tk, os⟩ := h1
    have k2 : ∀ (E : Value → Shared → Prop) (Q : Bool → Shared → Prop), Q e2 ⟨hp, g, d, tk, os⟩ → wpAny (model prog w) A.in1 (eqBool u2 w2) Q E ⟨hp, g, d, tk, os⟩ := h2
    cases e1 with
    | false =>
      wp_walk using wpAny_loadPart' hl, wpAny_loadPart' hb, k1 _ _
      exact ⟨_, rfl, h⟩
    | true =>
      cases e2 with
      | false =>
        wp_walk using wpAny_loadPart' hl, wpAny_loadPart' hb, k1 _ _, k2 _ _
        exact ⟨_, rfl, h⟩
      | true =>
        wp_walk using wpAny_loadPart' hl, wpAny_loadPart' hb, k1 _ _, k2 _ _
        exact ⟨_, rfl, h⟩
end
/-- the dicts hold the same -/
def eqDV (ks ls : List (Key × V)) : Bool := (ks.length == ls.length) && ks.all fun p => decide (valV ls p.1 = some p.2)
def AllI (ks : List (Key × V)) : Prop := ∀ p ∈ ks, ∃ n, p.2 = V.int n
theorem valV_mem {ks : List (Key × V)} {k : Key} {v : V} (h : valV ks k = some v) : ∃ p ∈ ks, p.1 = k ∧ p.2 = v := by
  unfold valV at h
  cases e : ks.find? fun kv => decide (kv.1 = k) with
  | none =>
    rw [e] at h
    cases h
  | some p =>
    rw [e] at h
    exact ⟨p, List.mem_of_find?_eq_some e, of_decide_eq_true (by simpa using List.find?_some e), Option.some.inj h⟩
theorem valV_self : ∀ {ks : List (Key × V)}, (ks.map (·.1)).Nodup → ∀ p ∈ ks, valV ks p.1 = some p.2
  | q :: r, nd, p, hp => by
    rw [List.map_cons, List.nodup_cons] at nd
    rcases List.mem_cons.mp hp with rfl | hp
    · exact valV_pos rfl
    · rw [valV_neg fun e => nd.1 (by rw [e]; exact List.mem_map_of_mem hp)]
      exact valV_self nd.2 p hp
theorem eqDV_self {ks : List (Key × V)} (nd : (ks.map (·.1)).Nodup) : eqDV ks ks = true := by
  unfold eqDV
  rw [beq_self_eq_true, Bool.true_and, List.all_eq_true]
  exact fun p hp => decide_eq_true (valV_self nd p hp)
section
variable {X : Cx} {pins : List (Addr × Obj)} {σ : L2.St} {H : Hp} {s : Shared}
theorem hits_ints {prog : Program} {w : World} {A : Around} {ls : List (Key × V)} {vb : List (Key × Value)} (rb : KV ls vb) (il : AllI ls) {ks : List (Key × V)} {va : List (Key × Value)} (ra : KV ks va) :
    AllI ks → PySem.W.KeqHitsIn prog w A s vb va (ks.all fun p => decide (valV ls p.1 = some p.2)) := by
  unfold KV at ra
  induction ra with
  | nil => exact fun _ => .nil
  | @cons p q ps qs h t ih =>
    intro hi
    obtain ⟨h1, h2⟩ := h
    obtain ⟨key, v⟩ := q
    have hk : p.1 = key := h1
    obtain ⟨n, en⟩ := hi p List.mem_cons_self
    have h2 : RelV p.2 v := h2
    rw [en] at h2
    obtain ⟨t1, rfl⟩ := h2
    have rr := rb.val p.1
    rw [List.all_cons]
    cases e : valV ls p.1 with
    | none =>
      rw [e] at rr
      rw [decide_eq_false (fun x => nomatch x), Bool.false_and]
      refine .miss ?_
      rw [← hk]
      cases x : valueAt vb p.1 with
      | none => rfl
      | some y =>
        rw [x] at rr
        exact absurd rr (fun z => nomatch z)
    | some u =>
      rw [e] at rr
      obtain ⟨y, hy, ry⟩ := RelO.some_of rr
      obtain ⟨m, em⟩ : ∃ m, u = .int m := by
        obtain ⟨q, hq, _, e2⟩ := valV_mem e
        obtain ⟨m, em⟩ := il q hq
        exact ⟨m, by rw [← e2, em]⟩
      subst em
      obtain ⟨t2, rfl⟩ := ry
      have hd : decide (some (V.int m) = some p.2) = (n == m) := by
        rw [en]
        by_cases x : m = n
        · rw [x]
          simp
        · rw [decide_eq_false (fun z => x (V.int.inj (Option.some.inj z)))]
          exact (beq_false_of_ne fun z => x z.symm).symm
      rw [hd]
      exact .hit (by rw [← hk]; exact hy) ((SeqAt.EqAt.int_int _ _ _ _).inModel prog w) (ih fun z hz => hi z (List.mem_cons_of_mem _ hz))
theorem dict_eqIn (I : Inv X pins σ H s) {A : Around} (hu : A.units + 1 < cLine) {a b : Addr} {ks ls : List (Key × V)} (ea : H a = some (.dK ks)) (eb : H b = some (.dK ls)) (ia : AllI ks) (ib : AllI ls) (nd : (ks.map (·.1)).Nodup) :
    EqIn X.prog X.w A s (.ref a) (.ref b) (eqDV ks ls) := by
  by_cases x : a = b
  · subst x
    rw [ea] at eb
    cases eb
    rw [eqDV_self nd]
    exact (SeqAt.EqAt.same _).inModel _ _
  · obtain ⟨_, ya, va, ra, da⟩ := (show ObjOk X.prog X.w H s.heap a (.dK ks) from I.hok a _ ea)
    obtain ⟨_, yb, vb, rb, db⟩ := (show ObjOk X.prog X.w H s.heap b (.dK ls) from I.hok b _ eb)
    refine SeqAt.EqIn.of_refs x fun E Q hq => PySem.W.keq_eqIn (knd := mixKind X.prog X.w) ya yb da db (by omega) (fun _ => hits_ints rb ib ra ia) ?_
    unfold eqDV at hq
    rw [ra.length, rb.length] at hq
    exact hq
def rEqDI : R2 := fun x y H Q => ∃ a b ks ls, x = .ref a ∧ y = .ref b ∧ H a = some (.dK ks) ∧ H b = some (.dK ls) ∧ AllI ks ∧ AllI ls ∧ Q (.bl (eqDV ks ls)) H
theorem op_eqDI (hu : X.A.units + 1 < cLine) : OpR X (compareOp .Eq) rEqDI := by
  intro pins s σ H x y v u Q I rx ry h
  obtain ⟨a, b, ks, ls, rfl, rfl, ea, eb, ia, ib, q⟩ := h
  obtain rfl : v = Value.ref a := rx
  obtain rfl : u = Value.ref b := ry
  obtain ⟨_, ya, va, ra, da⟩ := (show ObjOk X.prog X.w H s.heap a (.dK ks) from I.hok a _ ea)
  obtain ⟨_, yb, vb, rb, db⟩ := (show ObjOk X.prog X.w H s.heap b (.dK ls) from I.hok b _ eb)
  refine PySem.W.keq_eqIn (knd := mixKind X.prog X.w) ya yb da db (by omega) (fun _ => hits_ints rb ib ra ia) ⟨.bl (eqDV ks ls), H, I, ?_, q⟩
  show Value.bool _ = Value.bool _
  unfold eqDV
  rw [ra.length, rb.length]
def rTD (f : Bool → Bool) : R2 := fun x y H Q => ∃ a b d e ks ls i j, x = .ref a ∧ y = .ref b ∧ H a = some (.tup [.ref d, .int i]) ∧ H b = some (.tup [.ref e, .int j]) ∧ H d = some (.dK ks) ∧ H e = some (.dK ls) ∧ AllI ks ∧ AllI ls ∧ (ks.map (·.1)).Nodup ∧ Q (.bl (f (eqDV ks ls && decide (i = j)))) H
theorem int_deq {i j : Int} : (i == j) = decide (i = j) := rfl
theorem op_eqTD (hu : X.A.units + 64 < cLine) : OpR X (compareOp .Eq) (rTD fun b => b) := by
  intro pins s σ H x y v u Q I rx ry h
  obtain ⟨a, b, d, e, ks, ls, i, j, rfl, rfl, ha, hb, hd, he, ia, ib, nd, q⟩ := h
  obtain rfl : v = Value.ref a := rx
  obtain rfl : u = Value.ref b := ry
  obtain ⟨us, r1, p1, _⟩ := I.tuple (SqT.of ha)
  obtain ⟨ws, r2, p2, _⟩ := I.tuple (SqT.of hb)
  obtain ⟨x1, x2, rfl, e1, ⟨t1, rfl⟩⟩ := vals2 r1
  obtain ⟨y1, y2, rfl, e2, ⟨t2, rfl⟩⟩ := vals2 r2
  obtain rfl : x1 = Value.ref d := e1
  obtain rfl : y1 = Value.ref e := e2
  refine SeqAt.rcIn_tuples (e := fun n => if n = 0 then eqDV ks ls else (i == j)) p1 p2 (by omega) (fun n h1 h2 => ?_) ⟨.bl (eqDV ks ls && decide (i = j)), H, I, ?_, q⟩
  · match n, h1, h2 with
    | 0, _, _ => exact dict_eqIn I (by show X.A.units + 1 + 1 < cLine; omega) hd he ia ib nd
    | 1, _, _ => exact (SeqAt.EqAt.int_int _ _ _ _).inModel _ _
    | n + 2, h1, _ => exact absurd h1 (by simp)
  · show Value.bool _ = Value.bool _
    simp [List.range_succ]
    rfl
theorem op_neTD (hu : X.A.units + 64 < cLine) : OpR X (compareOp .NotEq) (rTD fun b => !b) := by
  intro pins s σ H x y v u Q I rx ry h
  obtain ⟨a, b, d, e, ks, ls, i, j, rfl, rfl, ha, hb, hd, he, ia, ib, nd, q⟩ := h
  obtain rfl : v = Value.ref a := rx
  obtain rfl : u = Value.ref b := ry
  obtain ⟨us, r1, p1, _⟩ := I.tuple (SqT.of ha)
  obtain ⟨ws, r2, p2, _⟩ := I.tuple (SqT.of hb)
  obtain ⟨x1, x2, rfl, e1, ⟨t1, rfl⟩⟩ := vals2 r1
  obtain ⟨y1, y2, rfl, e2, ⟨t2, rfl⟩⟩ := vals2 r2
  obtain rfl : x1 = Value.ref d := e1
  obtain rfl : y1 = Value.ref e := e2
  obtain ⟨⟨cls, dd, data, sl⟩, ho, hc, n, hdt⟩ := id p1
  obtain ⟨⟨cls2, dd2, data2, sl2⟩, ho2, hc2, n2, hdt2⟩ := id p2
  simp only at hc hdt hc2 hdt2
  subst hc hdt hc2 hdt2
  refine PySem.W.cmp_ofNotEq (wpAny_richCompare_same_room (T := "tuple") (op := .NotEq) ⟨_, ho, rfl⟩ ⟨_, ho2, rfl⟩ F.slot_tuple_ne (call_meetsIn F.slot_tuple_ne ⟨_, ho, rfl⟩ F.entry_tuple_ne (F.args_tuple_ne_2 _ _) (tup2_ne a b _ _ _ _ n n2 dd dd2 sl sl2 (eqDV ks ls) (i == j))
    ⟨ho, ho2, dict_eqIn I (by show X.A.units + 1 + 1 < cLine; omega) hd he ia ib nd, (SeqAt.EqAt.int_int _ _ _ _).inModel _ _, (show Value.bool _ ≠ Value.notImplemented ∧ _ from ⟨(fun x => nomatch x), .bl (!(eqDV ks ls && decide (i = j))), H, I, rfl, q⟩)⟩) (by omega))
end
end Mz
set_option Elab.async false
set_option linter.all false
set_option maxRecDepth 100000
set_option maxHeartbeats 4000000
/-! sets over any kind of keys that keep what a walk wants; set comprehensions and sorted of texts -/
namespace Mz
open PySem PySem.Spec PyProof.Rows L2
/-- the values of a key kind, and the key that a value has -/
structure KeyIn {P : Program} {w : World} {α : Type} [DecidableEq α] (κ : PySem.KeyKind P w α) (ok : Value → Prop) (rd : Value → α) : Prop where
  self : ∀ v, ok v → κ.is (rd v) v = true
  scan : ∀ v, ok v → v.scannable = true
section
variable {P : Program} {w : World} {α : Type} [DecidableEq α]
/-- the set at a: which keys are in it, how many -/
def SetG (κ : PySem.KeyKind P w α) (ok : Value → Prop) (rd : Value → α) (h : Heap) (a : Addr) (S : α → Bool) (n : Nat) : Prop :=
  ∃ (ob : Obj) (ents : Array (Int × Value)) (age : Nat) (tab : SetTable), h.get? a = some ob ∧ ob.ExactSet ∧ ob.data = .set ents age tab ∧ (∀ e ∈ ents.toList, ok e.2 ∧ e.1 = κ.hash (rd e.2)) ∧
    (ents.toList.map fun e => rd e.2).Nodup ∧ (∀ k, S k = true ↔ k ∈ ents.toList.map fun e => rd e.2) ∧ ents.size < scanBound ∧ tab.fits ents.size = true ∧ ents.size = n ∧ Ris tab.place.toList ∧
    (w.params.followText "set-order" = true ∨ tab.led = true)
variable {κ : PySem.KeyKind P w α} {ok : Value → Prop} {rd : Value → α}
theorem SetG.at {h h' : Heap} {a : Addr} {S : α → Bool} {n : Nat} (R : SetG κ ok rd h a S n) (keep : ∀ o, h.get? a = some o → h'.get? a = some o) : SetG κ ok rd h' a S n := by
  obtain ⟨ob, ents, age, tab, hob, more⟩ := R
  exact ⟨ob, ents, age, tab, keep ob hob, more⟩
theorem elems_in (k : KeyIn κ ok rd) {l : List (Int × Value)} (g : ∀ e ∈ l, ok e.2 ∧ e.1 = κ.hash (rd e.2)) : ElemsOf κ l :=
  fun e he => ⟨⟨rd e.2, k.self _ (g e he).1, (g e he).2⟩, k.scan _ (g e he).1⟩
theorem mem_in (ki : KeyIn κ ok rd) {l : List (Int × Value)} (g : ∀ e ∈ l, ok e.2 ∧ e.1 = κ.hash (rd e.2)) (k : α) : (k ∈ l.map fun e => rd e.2) ↔ ∃ e ∈ l, κ.is k e.2 = true := by
  constructor
  · intro h
    obtain ⟨e, he, rfl⟩ := List.mem_map.mp h
    exact ⟨e, he, ki.self _ (g e he).1⟩
  · rintro ⟨e, he, hk⟩
    exact List.mem_map.mpr ⟨e, he, κ.inj e.2 _ _ (ki.self _ (g e he).1) hk⟩
theorem SetG.setOf (ki : KeyIn κ ok rd) {h : Heap} {a : Addr} {S : α → Bool} {n : Nat} (R : SetG κ ok rd h a S n) : h.SetOf κ a S n := by
  obtain ⟨ob, ents, age, tab, h1, h2, h3, g, _, hm, h4, h5, h6, _⟩ := R
  exact ⟨ob, ents, age, tab, h1, h2, h3, elems_in ki g, fun k => (hm k).trans (mem_in ki g k), h4, h5, h6⟩
/-- a new set -/
theorem setG_fresh {h : Heap} : SetG κ ok rd (h.push { cls := .type "set", dict := none, data := .set #[] 0 (.fresh 0 0 (!w.params.followText "set-order")) }) h.objs.size (fun _ => false) 0 := by
  refine ⟨_, #[], 0, _, Heap.get?_push_size _ rfl, ⟨rfl, rfl, rfl⟩, rfl, (fun e he => absurd he (by simp)), by simp, fun k => by simp, by decide, by rfl, rfl, List.Pairwise.nil, ?_⟩
  show _ ∨ (!w.params.followText "set-order") = true
  cases w.params.followText "set-order" <;> simp
variable {A : Around} {E : Value → Shared → Prop} {s : Shared} {a : Addr} {S : α → Bool} {n : Nat}
theorem stored {h : Heap} {ob : Obj} {e1 e2 : Array (Int × Value)} {age : Nat} {t1 t2 : SetTable} (hob : h.get? a = some ob) (hd : ob.data = .set e1 age t1) : (h.update a (Obj.putSet e2 t2)).get? a = some { ob with data := .set e2 (age + 1) t2 } :=
  PpSet.storeB_at hob hd
/-- what stands behind an entry that was laid: stored, and laid anew where the table is too full -/
theorem laid_tail {say : Bool → Sem Unit} (hsay : ∀ (b : Bool) (s1 : Shared) (Q1 : Unit → Shared → Prop), Q1 () s1 → wpAny (model P w) A (say b) Q1 E s1) {ob : Obj} {old : Array (Int × Value)} {age : Nat} {told : SetTable} (hob : s.heap.get? a = some ob)
    (hex : ob.ExactSet) (hd : ob.data = .set old age told) {ents : Array (Int × Value)} {tab : SetTable} {S2 : α → Bool} (g : ∀ e ∈ ents.toList, ok e.2 ∧ e.1 = κ.hash (rd e.2)) (nd : (ents.toList.map fun e => rd e.2).Nodup)
    (hm : ∀ k, S2 k = true ↔ k ∈ ents.toList.map fun e => rd e.2) (hb : ents.size < scanBound) (hf : tab.fits ents.size = true) (hr : Ris tab.place.toList) (hl : w.params.followText "set-order" = true ∨ tab.led = true) {dummy : Bool} {R : Option Bool → Shared → Prop}
    (hR : ∀ h2, Heap.SameBut a s.heap h2 → SetG κ ok rd h2 a S2 ents.size → R (some true) { s with heap := h2 }) :
    wpAny (model P w) A (do
        storeSet a ents tab
        if (!dummy && tab.tooFull) = true then do
            say (relayAll tab ents (SetTable.grown ents.size)).2.2
            storeSet a (relayAll tab ents (SetTable.grown ents.size)).1 (relayAll tab ents (SetTable.grown ents.size)).2.1
            pure (some true)
          else pure (some true)) R E s := by
  have once := Heap.SameBut.update s.heap a (Obj.putSet ents tab)
  have put1 := stored (e2 := ents) (t2 := tab) hob hd
  refine wpAny_bind (wpAny_storeSet_of hob hd ?_ (fits_of_scanBound hb))
  by_cases full : (!dummy && tab.tooFull) = true
  · rw [if_pos full]
    have q1 := relayAll_perm tab ents (SetTable.grown ents.size)
    have q2 := relayAll_fits tab ents (SetTable.grown ents.size)
    have q3 := relayAll_ris tab ents (SetTable.grown ents.size)
    have q4 := relayAll_led tab ents (SetTable.grown ents.size)
    generalize relayAll tab ents (SetTable.grown ents.size) = T at q1 q2 q3 q4 ⊢
    have size2 : T.1.size = ents.size := by rw [← Array.length_toList, q1.length_eq, Array.length_toList]
    refine wpAny_bind (hsay _ _ _ (wpAny_bind (wpAny_storeSet_of put1 rfl (wpAny_pure (hR _ (once.trans (Heap.SameBut.update _ a _)) ?_)) (fits_of_scanBound (by rw [size2]; exact hb)))))
    refine ⟨_, T.1, _, T.2.1, stored (e2 := T.1) (t2 := T.2.1) put1 rfl, hex, rfl, fun e he => g e (q1.mem_iff.mp he), ((q1.map fun e => rd e.2).nodup_iff).mpr nd, fun k => (hm k).trans ((q1.map fun e => rd e.2).mem_iff).symm, by rw [size2]; exact hb, q2, size2, q3, ?_⟩
    rw [q4]
    exact hl
  · rw [if_neg full]
    exact wpAny_pure (hR _ once ⟨_, ents, _, tab, put1, hex, rfl, g, nd, hm, hb, hf, rfl, hr, hl⟩)
/-- an entry laid into the set -/
theorem setG_add_hashed (ki : KeyIn κ ok rd) {v : Value} (hv : ok v) {Q : Bool → Shared → Prop} (R : SetG κ ok rd s.heap a S n) (room : n + 1 < scanBound)
    (hQ : ∀ h2, Heap.SameBut a s.heap h2 → SetG κ ok rd h2 a (fun j => S j || decide (j = rd v)) (if S (rd v) = true then n else n + 1) → Q (!S (rd v)) { s with heap := h2 }) : wpAny (model P w) A (setAddHashed a v (κ.hash (rd v))) Q E s := by
  obtain ⟨ob, ents, age, tab, hob, hex, hd, g, nd, hm, hb, hf, hn, hr, hl⟩ := R
  have isv : κ.is (rd v) v = true := ki.self v hv
  have sv : v.scannable = true := ki.scan v hv
  have els : ElemsOf κ ents.toList := elems_in ki g
  unfold setAddHashed setAddHashedIn
  refine wpAny_holding (wpAny_bind (wpAny_setState_of hob hd hf ?_))
  dsimp only
  rw [byScan_of sv hb els]
  simp only [↓reduceIte]
  unfold setAddByScan
  refine wpAny_bind (wpAny_bind (wpAny_rule (wpAny_bind (wpAny_setScan_of isv hob hd hf els ?_))))
  cases hit : List.findIdx? (fun e => κ.is (rd v) e.2) ents.toList with
  | some j =>
    obtain ⟨lj, pj, _⟩ := List.findIdx?_eq_some_iff_getElem.mp hit
    have inS : S (rd v) = true := (hm _).2 ((mem_in ki g _).2 ⟨ents.toList[j], List.getElem_mem lj, pj⟩)
    have z := hQ s.heap (Heap.SameBut.refl a s.heap) ⟨ob, ents, age, tab, hob, hex, hd, g, nd, fun i => by
      rw [← hm i, Bool.or_eq_true, decide_eq_true_eq]
      exact ⟨fun q => q.elim id fun e => by rw [e]; exact inS, Or.inl⟩, hb, hf, by rw [if_pos inS]; exact hn, hr, hl⟩
    rw [inS] at z
    exact wpAny_pure (wpAny_pure z)
  | none =>
    dsimp only
    have out : rd v ∉ ents.toList.map fun e => rd e.2 := fun q => by
      obtain ⟨e, he, hk⟩ := (mem_in ki g _).1 q
      rw [List.findIdx?_eq_none_iff.mp hit e he] at hk
      exact Bool.false_ne_true hk
    have outS : S (rd v) = false := Bool.eq_false_iff.mpr fun q => out ((hm _).1 q)
    have q1 := layNew_perm tab ents (κ.hash (rd v)) v
    have q2 := layNew_fits tab ents (κ.hash (rd v)) v
    have q3 := layNew_ris tab ents (κ.hash (rd v)) v hr
    have q4 := layNew_led tab ents (κ.hash (rd v)) v
    generalize layNew tab ents (κ.hash (rd v)) v = T at q1 q2 q3 q4 ⊢
    obtain ⟨en2, tab2, dummy, gave⟩ := T
    dsimp only at q1 q2 q3 q4 ⊢
    rw [Array.toList_push] at q1
    have pc : en2.toList.Perm ((κ.hash (rd v), v) :: ents.toList) := q1.trans (List.perm_append_singleton _ _)
    have pk : (en2.toList.map fun e => rd e.2).Perm (rd v :: ents.toList.map fun e => rd e.2) := pc.map fun e => rd e.2
    have g2 : ∀ e ∈ en2.toList, ok e.2 ∧ e.1 = κ.hash (rd e.2) := fun e he => by
      rcases List.mem_cons.mp (pc.mem_iff.mp he) with rfl | q
      · exact ⟨hv, rfl⟩
      · exact g e q
    have nd2 : (en2.toList.map fun e => rd e.2).Nodup := pk.nodup_iff.mpr (List.nodup_cons.mpr ⟨out, nd⟩)
    have m2 : ∀ i, (S i || decide (i = rd v)) = true ↔ i ∈ en2.toList.map fun e => rd e.2 := fun i => by
      rw [pk.mem_iff, List.mem_cons, ← hm i, Bool.or_eq_true, decide_eq_true_eq]
      exact Or.comm
    have sz : en2.size = n + 1 := by rw [← Array.length_toList, pc.length_eq, List.length_cons, Array.length_toList, hn]
    have b2 : en2.size < scanBound := by rw [sz]; exact room
    have led2 : w.params.followText "set-order" = true ∨ tab2.led = true := by rw [q4]; exact hl
    have done : ∀ h2, Heap.SameBut a s.heap h2 → SetG κ ok rd h2 a (fun j => S j || decide (j = rd v)) en2.size → Q true { s with heap := h2 } := fun h2 sb r => by
      have z := hQ h2 sb
      rw [outS, if_neg Bool.false_ne_true, ← sz] at z
      exact z r
    have say : ∀ (b : Bool) (s1 : Shared) (Q1 : Unit → Shared → Prop), Q1 () s1 → wpAny (model P w) A (match b with | true => rule "set.scan.the-table-gave-way" | false => pure ()) Q1 E s1 := fun b s1 Q1 q => by
      cases b with
      | true => exact wpAny_rule q
      | false => exact wpAny_pure q
    refine wpAny_bind (say _ _ _ ?_)
    split
    · refine wpAny_bind ?_
      rw [hashByValue_scannable 8 sv]
      refine wpAny_pure (laid_tail ?_ hob hex hd g2 nd2 m2 b2 ?_ ?_ ?_ fun h2 sb r => ?_)
      · exact fun b s1 Q1 q => by cases b <;> first | exact wpAny_rule q | exact wpAny_pure q
      · first | exact q2 | (split <;> first | exact q2 | exact SetTable.fits_plain_off q2)
      · first | exact q3 | (split <;> exact q3)
      · first | exact led2 | (split <;> exact led2)
      · dsimp only
        exact wpAny_pure (done h2 sb r)
    · refine wpAny_bind (wpAny_pure ?_)
      simp only [↓reduceIte]
      refine laid_tail ?_ hob hex hd g2 nd2 m2 b2 q2 q3 led2 fun h2 sb r => ?_
      · exact fun b s1 Q1 q => by cases b <;> first | exact wpAny_rule q | exact wpAny_pure q
      · dsimp only
        exact wpAny_pure (done h2 sb r)
theorem setG_add (ki : KeyIn κ ok rd) {v : Value} (hv : ok v) {Q : Value → Shared → Prop} (R : SetG κ ok rd s.heap a S n) (room : n + 1 < scanBound)
    (hQ : ∀ h2, Heap.SameBut a s.heap h2 → SetG κ ok rd h2 a (fun j => S j || decide (j = rd v)) (if S (rd v) = true then n else n + 1) → Q .none { s with heap := h2, toks := s.toks + 1 }) :
    wpAny (model P w) A (call (.builtin "set.add") [.ref a, v]) Q E s := by
  refine wpAny_call_entry F.slot_set_add (R.setOf ki).typeIs F.entry_set_add ?_ (F.args_set_add_2 _ _)
  unfold Builtin.«set.add» Builtin.Frozenset.oneOther Builtin.Frozenset.addrOf
  simp only [List.isEmpty_nil, bind_assoc]
  refine wpAny_bind (wpAny_pure ?_)
  try dsimp only
  unfold setAdd
  refine wpAny_bind (wpAny_pure ?_)
  try dsimp only
  refine wpAny_bind (wpAny_holding (wpAny_bind (κ.pyHash (ki.self v hv) ?_)))
  refine setG_add_hashed ki hv (s := { s with toks := s.toks + 1 }) R room fun h2 sb r => ?_
  show wpAny _ _ (ret Value.none) _ _ _
  exact wpAny_pure ⟨_, rfl, hQ h2 sb r⟩
end
/-! ### sets of texts -/
def txtV : Value → Str
  | .str z _ => z
  | _ => Str.empty
def isTxt (v : Value) : Prop := ∃ z t, v = .str z t
theorem txt_in (P : Program) (w : World) : KeyIn (PySem.strKind P w) isTxt txtV :=
  ⟨fun v ⟨z, t, e⟩ => by rw [e]; exact PySem.strKind_is P w z t, fun v ⟨z, t, e⟩ => by rw [e]; rfl⟩
def SetS (P : Program) (w : World) (a : Addr) (S : Str → Bool) (n : Nat) : HO := .ext fun h => SetG (PySem.strKind P w) isTxt txtV h a S n
theorem setS_new {w : World} {P : Program} {H : Hp} {h : Heap} {a : Addr} {S : Str → Bool} {n : Nat} (R : SetG (PySem.strKind P w) isTxt txtV h a S n) : ObjOk P w H h a (SetS P w a S n) := by
  have ⟨ob, _, _, _, hob, _⟩ := R
  exact ⟨R, ⟨ob, hob⟩, fun h1 h2 p k => SetG.at p k⟩
theorem strs_txt : ∀ vs : List Value, (∀ v ∈ vs, isTxt v) → StrsAre vs (vs.map txtV)
  | [], _ => .nil
  | v :: r, h => by
    obtain ⟨z, t, e⟩ := h v (List.mem_cons_self ..)
    rw [e]
    exact .cons z t (strs_txt r fun u hu => h u (List.mem_cons_of_mem _ hu))
section
variable {X : Cx} {pins : List (Addr × Obj)} {σ : L2.St} {H : Hp} {s : Shared} {a : Addr} {S : Str → Bool} {n : Nat}
theorem setS_get (I : Inv X pins σ H s) (ha : H a = some (SetS X.prog X.w a S n)) : SetG (PySem.strKind X.prog X.w) isTxt txtV s.heap a S n := (I.hok a _ ha).1
theorem addS_ok {E : Value → Shared → Prop} {z : Str} {tk : Tok} {Q : Value → Shared → Prop} (I : Inv X pins σ H s) (ha : H a = some (SetS X.prog X.w a S n)) (room : n + 1 < scanBound)
    (h : ∀ s2, Inv X pins σ (upd H a (SetS X.prog X.w a (fun j => S j || decide (j = z)) (if S z = true then n else n + 1))) s2 → Q .none s2) : wpAny (model X.prog X.w) X.A (call (.builtin "set.add") [.ref a, .str z tk]) Q E s := by
  refine setG_add (txt_in X.prog X.w) ⟨z, tk, rfl⟩ (setS_get I ha) room fun h2 sb new => ?_
  have there : ∃ u, h2.get? a = some u := by
    have ⟨ob, _, _, _, hob, _⟩ := new
    exact ⟨ob, hob⟩
  exact h _ (I.write (e := a) (t' := s.toks + 1) (by rw [ha]; trivial) (.inl rfl) (fun b u hb hu => (sb.2 b hb).trans hu) there (setS_new new))
/-- sorted(a set of texts) -/
def rSortSet (P : Program) (w : World) : List V → Hp → VK → Prop := fun vs H Q => ∃ (a : Addr) (S : Str → Bool) (n : Nat), vs = [V.ref a] ∧ H a = some (SetS P w a S n) ∧ n < 64 ∧
  ∀ (ys : List Str) (p : Addr), sortedS ys = true → ys.Nodup → (∀ z, z ∈ ys ↔ S z = true) → ys.length = n → H p = none → Q (.ref p) (upd H p (.lst (ys.map V.str)))
theorem cr_sortSet (hc : X.calm = true) : CallR X (.builtin "sorted") (rSortSet X.prog X.w) := by
  intro pins s σ H vs us Q I r h
  obtain ⟨a, S, n, rfl, ha, h64, q⟩ := h
  rw [Vals.ref1 r]
  obtain ⟨ob, ents, age, tab, hob, hex, hd, g, nd, hm, hb, hf, hn, hr, hl⟩ := setS_get I ha
  refine Calls.call_function_entry kind_sorted plain_sorted entry_sorted (args_sorted1 _) ?_
  unfold Builtin.«sorted»
  refine wpAny_bind (m := checkCount "sorted" 1 1 _) (wpAny_pure ?_)
  refine wpAny_bind (collect_set (A := X.A.in1) (I.ok.hd hc) ⟨ob, hob, hex.1, hd⟩ hf hb hr hl fun s1 vals k1 big g1 o1 pm => ?_)
  have lenv : vals.length = n := by rw [pm.length_eq, List.length_map, Array.length_toList]; exact hn
  have hS : StrsAre vals (vals.map txtV) := strs_txt vals fun v hv => by
    obtain ⟨e, he, rfl⟩ := List.mem_map.mp (pm.mem_iff.mp hv)
    exact (g e he).1
  have pk : (vals.map txtV).Perm (ents.toList.map fun e => txtV e.2) := by
    have z := pm.map txtV
    rw [List.map_map] at z
    exact z
  refine wpAny_bind (wpAny_newList ?_ (by rw [lenv, sizeLine_eq]; omega))
  have hoL : (s1.heap.push (seqObj "list" vals.toArray 0)).get? s1.heap.objs.size = some (seqObj "list" vals.toArray 0) := Heap.get?_push_size _ rfl
  refine wpAny_bind (wpAny_holding (wpAny_call_entry slot_list_sort ⟨_, hoL, rfl⟩ entry_list_sort
    (list_sort_treeK strKind_oneLt hoL hS.keysOf (fun v1 v2 rest e => keyKind_strs (by rw [← e]; exact hS)) (by rw [lenv]; exact h64) fun st a1 a2 => ⟨_, rfl, ?_⟩) (args_list_sort _)))
  obtain ⟨ys, h1, h2, h3⟩ := sorted_out_str hS a1 a2
  obtain ⟨c, hc2⟩ := sortedHeap_at (vs := vals) (out := (arrOf st).map (·.2)) hoL
  have py : ys.Perm (ents.toList.map fun e => txtV e.2) := h2.trans pk
  have ly : ys.length = n := by rw [py.length_eq, List.length_map, Array.length_toList]; exact hn
  have kall : ∀ b u, s.heap.get? b = some u → (sortedHeap (s1.heap.push (seqObj "list" vals.toArray 0)) s1.heap.objs.size vals ((arrOf st).map (·.2))).get? b = some u := fun b u e => by
    have z := k1 b u e
    have lt := Heap.lt_size z
    rw [sortedHeap_old (Nat.ne_of_lt lt) (by rw [size_push']; exact Nat.lt_succ_of_lt lt)]
    exact Heap.get?_push_of_some _ z
  have hp : H s1.heap.objs.size = none := I.hok.fresh big
  have lenY : (ys.map V.str).length ≤ sizeLine := by rw [List.length_map, ly, sizeLine_eq]; omega
  generalize hs3 : ({ s1 with heap := sortedHeap (s1.heap.push (seqObj "list" vals.toArray 0)) s1.heap.objs.size vals ((arrOf st).map (·.2)) } : Shared) = s3
  have hh : s3.heap = sortedHeap (s1.heap.push (seqObj "list" vals.toArray 0)) s1.heap.objs.size vals ((arrOf st).map (·.2)) := by rw [← hs3]
  have gg : s3.gens = s.gens := by rw [← hs3]; exact g1
  have oo : s3.os = s.os := by rw [← hs3]; exact o1
  have J : Inv X pins σ (upd H s1.heap.objs.size (.lst (ys.map V.str))) { s with heap := s3.heap, gens := s3.gens, drawn := s3.drawn, toks := s3.toks } :=
    I.call (ch := []) (Un.laid (by rw [hh]; exact kall) big hp) (I.hok.laid (by rw [hh]; exact kall) big ⟨lenY, _, c, vals_of_strs h1, by rw [hh]; exact hc2⟩) (by rw [gg]; exact I.bare) (fun _ z => nomatch z)
  have es : s3 = { s with heap := s3.heap, gens := s3.gens, drawn := s3.drawn, toks := s3.toks } := by
    clear J hs3 hh gg
    cases s3
    cases s
    cases oo
    rfl
  refine wpAny_pure ⟨_, rfl, ?_⟩
  show EP X pins σ Q (.ref s1.heap.objs.size) _
  have fin : EP X pins σ Q (.ref s1.heap.objs.size) s3 := by
    rw [es]
    exact ⟨.ref _, _, J, rfl, q ys _ h3 (py.nodup_iff.mpr nd) (fun z => by rw [py.mem_iff, ← hm z]) ly hp⟩
  exact fin
/-! ### a set comprehension of texts -/
def tScS (P : Program) (w : World) (wi : TI) (g : TG) (tt : TT) (te : TE) (vs : List Nat) : TE := fun σ H Q => wi σ H fun J H1 => ∀ D, H1 D = none → ∃ W : Nat → Nat → Hp → Prop, (∃ m, W 0 m (upd H1 D (SetS P w D (fun _ => false) 0))) ∧ ∀ i m H, W i m H →
  (J.stop i H ∧ Q (.ref D) H) ∨ (J.go i H ∧ ∃ Nx : Hp → Prop, (∀ H', Nx H' → ∃ m', m' < m ∧ W (i + 1) m' H') ∧ ∀ x H', J.yld i H x H' → g x (wipe σ vs) H' fun σ2 H2 => wipe σ2 vs = wipe σ vs ∧ tt σ2 H2 fun b H3 =>
    if b = true then te σ2 H3 fun y H4 => ∃ (z : Str) (S : Str → Bool) (n : Nat), y = .str z ∧ H4 D = some (SetS P w D S n) ∧ n + 1 < scanBound ∧ Nx (upd H4 D (SetS P w D (fun j => S j || decide (j = z)) (if S z = true then n else n + 1))) else Nx H3)
theorem pe_scS {elt tg iter : Expr} {ifs : List Expr} {scope : Scope} {own : List (PySem.Str × Nat)} {pos : Pos} {wi : TI} {g : TG} {tt : TT} {te : TE} (hc : X.calm = true) (hN : X.N.Nodup) (hi : PI X tg iter wi) (ok : BlkOk X.N X.env.scope scope own)
    (hg : ∀ (s : Shared) (H : Hp) (C : Addr) (cl : List (PySem.Str × Addr)) (fp : List Addr), PG (X.blk s H scope (compEnvC scope cl C X.env) fp) tg g) (ht : ∀ (s : Shared) (H : Hp) (C : Addr) (cl : List (PySem.Str × Addr)) (fp : List Addr), PTs (X.blk s H scope (compEnvC scope cl C X.env) fp) ifs tt)
    (he : ∀ (s : Shared) (H : Hp) (C : Addr) (cl : List (PySem.Str × Addr)) (fp : List Addr), PE (X.blk s H scope (compEnvC scope cl C X.env) fp) elt te) (hs : ∀ x, foldedSetIterable iter X.env x = pure x := by intro _; rfl) :
    PE X (.SetComp elt [⟨tg, iter, ifs, 0⟩] scope pos) (tScS X.prog X.w wi g tt te (own.map (·.2))) := by
  refine ⟨fun pins s σ H Q I h => ?_⟩
  rw [PpSet.eval_SetComp]
  have closed : ∀ y ∈ scope.names, y.2 = .free → ∃ c, X.env.cells.lookup y.1 = some c := fun y hy e => (ok.free y hy e).elim (fun k => I.ok.has _ (.inl k)) fun k => I.ok.has _ (.inr k)
  refine wpAny_comprehension_free (use := none) rfl hs (closure_ok closed) ok.kind (fun y hy e => by rw [ok.uniq y hy, e]) (thn (hi.run pins s σ H _ I h) fun xv s1 hx => thn hx fun itv s2 h2 => ?_)
  obtain ⟨it, fp, tn, J, H2, e, I2, T, st2, f2, q⟩ := h2
  subst e
  refine PpSet.newSet_ok (newEnv_comp ?_)
  generalize hD : s2.heap.objs.size = D
  obtain ⟨W, ⟨m0, w0⟩, turn⟩ := q D (I2.hok.fresh (Nat.le_of_eq hD))
  generalize hs3 : ({ s2 with heap := s2.heap.push { cls := .type "set", dict := none, data := .set #[] 0 (.fresh 0 0 (!X.w.params.followText "set-order")) } } : Shared) = s3
  have h3 : s3.heap = s2.heap.push { cls := .type "set", dict := none, data := .set #[] 0 (.fresh 0 0 (!X.w.params.followText "set-order")) } := by rw [← hs3]
  generalize hH3 : upd H2 D (SetS X.prog X.w D (fun _ => false) 0) = H3 at w0
  have I3 : Inv X pins σ H3 s3 := by
    rw [← hH3, ← hs3]
    refine I2.laid (t' := s2.toks) (fun b o e => Heap.get?_push_of_some _ e) (Nat.le_of_eq hD) ?_
    rw [← hD]
    exact setS_new setG_fresh
  have f3 : ∀ b ∈ fp, FpOk X pins H3 b ∧ b < s3.heap.objs.size := fun b hb => by
    have lt : b < s2.heap.objs.size := by
      obtain ⟨o, e, _⟩ := T.obj _ _ st2 b hb
      exact Heap.lt_size e
    refine ⟨⟨?_, (f2 b hb).2⟩, by rw [h3, Heap.size_push]; exact Nat.lt_succ_of_lt lt⟩
    rw [← hH3, upd_ne (by rw [← hD]; exact Nat.ne_of_lt lt)]
    exact (f2 b hb).1
  have I4 := block_start I3 ok hN f3
  have pg := hg s3 H3 s3.heap.objs.size (cellsFrom (s3.heap.objs.size + 1) scope.names (cloFrom X.env.cells scope.names [])) fp
  have pt := ht s3 H3 s3.heap.objs.size (cellsFrom (s3.heap.objs.size + 1) scope.names (cloFrom X.env.cells scope.names [])) fp
  have pe := he s3 H3 s3.heap.objs.size (cellsFrom (s3.heap.objs.size + 1) scope.names (cloFrom X.env.cells scope.names [])) fp
  have nfp : ∀ b ∈ fp, H3 b = none := fun b hb => (f3 b hb).1.1
  show codeAny _ _ (.compStart (.SetComp elt [⟨tg, iter, ifs, 0⟩] scope pos) 0 (.ref it) (.ref D) (compEnvC scope (cellsFrom (s3.heap.objs.size + 1) scope.names (cloFrom X.env.cells scope.names [])) s3.heap.objs.size X.env))
    (compPost (model X.prog X.w) X.A X.xe none (EP X pins σ Q) (.ref D) s3.heap.objs.size) { s3 with heap := pushCells (s3.heap.push { cls := .type "dict", data := .dict #[] }) scope.names }
  generalize hce : compEnvC scope (cellsFrom (s3.heap.objs.size + 1) scope.names (cloFrom X.env.cells scope.names [])) s3.heap.objs.size X.env = ce at I4 pg pt pe ⊢
  have locE : ce.locals = s3.heap.objs.size := by
    rw [← hce]
    rfl
  generalize hs4 : ({ s3 with heap := pushCells (s3.heap.push { cls := .type "dict", data := .dict #[] }) scope.names } : Shared) = s4 at I4 ⊢
  have st4 : tn 0 s4.heap := by
    refine T.keep _ s3.heap s4.heap (T.keep _ s2.heap s3.heap st2 fun b _ o e => ?_) fun b _ o e => ?_
    · rw [h3]
      exact Heap.get?_push_of_some _ e
    · rw [← hs4]
      exact pushCells_keeps _ _ _ _ (Heap.get?_push_of_some _ e)
  have walked : ∀ {σ1 : L2.St} {H1 : Hp} {s1 : Shared}, Inv (X.blk s3 H3 scope ce fp) [] σ1 H1 s1 → (∀ b ∈ fp, H1 b = none) → ∀ b ∈ fp, FpOk (X.blk s3 H3 scope ce fp) [] H1 b := fun {σ1 H1 s1} J1 free b hb =>
    ⟨free b hb, (J1.ok.exf b hb).1, J1.ok.exfs b hb, .inl hb, fun x c e => (J1.ok.exf b hb).2 x c e, fun y hy => absurd hy (by simp)⟩
  have loop : codeAny (model X.prog X.w) X.A (.compLoop (.SetComp elt [⟨tg, iter, ifs, 0⟩] scope pos) 0 (.ref it) (.ref D) ce) (compPost (model X.prog X.w) X.A X.xe none (EP X pins σ Q) (.ref D) s3.heap.objs.size) s4 := by
    refine PpSet.compLoopS_any (fun m s5 => ∃ i H5, Inv (X.blk s3 H3 scope ce fp) [] (wipe σ (own.map (·.2))) H5 s5 ∧ tn i s5.heap ∧ (∀ b ∈ fp, H5 b = none) ∧ W i m H5) ?_ m0 ⟨0, H3, I4, st4, nfp, w0⟩
    rintro m s5 ⟨i, H5, I5, st5, n5, w5⟩
    rcases turn i m H5 w5 with ⟨stop, qd⟩ | ⟨go, Nx, less, step⟩
    · refine thnF (T.done (X.blk s3 H3 scope ce fp) rfl rfl rfl hc i [] s5 _ H5 (fun _ _ => False) I5 (walked I5 n5) st5 stop) fun r s6 ⟨er, I6⟩ => ?_
      rw [er]
      have I7 : Inv X pins σ H5 s6 := I3.call' (ch := fp) I6.os I6.base I6.hok I6.bare fun b hb => ⟨(f3 b hb).1.2.2.2.1, (f3 b hb).1.2.1, (f3 b hb).1.2.2.2.2.1, (f3 b hb).1.2.2.2.2.2⟩
      have free : H5 s3.heap.objs.size = none := by
        rw [← locE]
        exact I6.free
      obtain ⟨names, hns, _⟩ := I6.loc
      have hns : s6.heap.Ns ce.locals names := hns
      rw [locE] at hns
      obtain ⟨p0, p1, p2, p3, p4, p5⟩ := I3.fpOk (Nat.le_refl _) free
      exact ⟨names, hns, fun h9 sb => ⟨.ref D, H5, I7.turned (t' := s6.toks) (fun b o hb e => (sb.2 b hb).trans e) p0 p1 p3 p4 p5, rfl, qd⟩⟩
    · refine thnF (T.item (X.blk s3 H3 scope ce fp) rfl rfl rfl hc i [] s5 _ H5 (fun _ _ => False) I5 (walked I5 n5) st5 go) fun r s6 ⟨u, er, h6⟩ => ?_
      rw [er]
      refine thnF h6 fun _ s7 ⟨x, H7, I7, r7, y7, st7, n7⟩ => ?_
      refine thnF (pg.run _ s7 _ H7 x u _ (I7.pinned (walked I7 n7) (T.obj _ _ st7)) r7 (step x H7 y7)) fun _ s8 ⟨σ8, H8, I8, wip, q8⟩ => ?_
      refine thnF (pt.run _ s8 σ8 H8 _ I8 q8) fun b s9 ⟨H9, I9, q9⟩ => ?_
      have turned : ∀ {sE : Shared} {HE : Hp}, Inv (X.blk s3 H3 scope ce fp) ([] ++ pinsAt fp s7.heap) σ8 HE sE → Nx HE → ∃ m2, m2 < m ∧ ∃ i2 H2, Inv (X.blk s3 H3 scope ce fp) [] (wipe σ (own.map (·.2))) H2 sE ∧ tn i2 sE.heap ∧ (∀ b ∈ fp, H2 b = none) ∧ W i2 m2 H2 := fun {sE HE} JE nx => by
        obtain ⟨m2, lt, wE⟩ := less HE nx
        have stay : ∀ b ∈ fp, ∀ o, s7.heap.get? b = some o → sE.heap.get? b = some o ∧ HE b = none := fun b hb o e =>
          have z := JE.pin (b, o) (List.mem_append_right _ (List.mem_append_right _ (mem_pinsAt hb e)))
          ⟨z.1, z.2.1⟩
        refine ⟨m2, lt, i + 1, HE, (JE.unpinned (pins := [])).weak (by rw [← wip, wipe_length]) (fun j v e => ?_), T.keep _ _ _ st7 fun b hb o e => (stay b hb o e).1, fun b hb => ?_, wE⟩
        · rw [← wip] at e
          exact (wipe_some e).1
        · obtain ⟨o, e, _⟩ := T.obj _ _ st7 b hb
          exact (stay b hb o e).2
      cases b with
      | false =>
        rw [if_neg Bool.false_ne_true] at q9 ⊢
        exact turned I9 q9
      | true =>
        rw [if_pos rfl] at q9 ⊢
        refine thnF (pe.run _ s9 σ8 H9 _ I9 q9) fun yv s10 ⟨y, H10, I10, r10, z, S0, k0, ey, at10, room, nx⟩ => ?_
        subst ey
        obtain ⟨tk, rfl⟩ := r10
        exact addS_ok (X := X.blk s3 H3 scope ce fp) I10 at10 room fun s11 I11 => turned I11 nx
  exact PpSet.codeAny_compStart_set loop (T.self X.A 0 _ _ _ st4 loop)
end
/-- the reading of such a comprehension over what is walked -/
theorem scS_it {P : Program} {w : World} {J : It} {k : Nat} {G : Hp → Prop} {Y : Nat → Hp → V → Hp → Prop} (wk : L2.Walk J k G Y) {g : TG} {tt : TT} {te : TE} {vs : List Nat} {σ : L2.St} {H1 : Hp} {D : Addr} {Qd : Hp → Prop} (Pv : Nat → Hp → Prop)
    (h0 : Pv 0 (upd H1 D (SetS P w D (fun _ => false) 0))) (hG : ∀ i H, i ≤ k → Pv i H → G H)
    (hs : ∀ i x H H2, i < k → Pv i H → Y i H x H2 → g x (wipe σ vs) H2 fun σ2 H3 => wipe σ2 vs = wipe σ vs ∧ tt σ2 H3 fun b H4 =>
      if b = true then te σ2 H4 fun y H5 => ∃ (z : Str) (S : Str → Bool) (n : Nat), y = .str z ∧ H5 D = some (SetS P w D S n) ∧ n + 1 < scanBound ∧ Pv (i + 1) (upd H5 D (SetS P w D (fun j => S j || decide (j = z)) (if S z = true then n else n + 1))) else Pv (i + 1) H4)
    (hd : ∀ H, Pv k H → Qd H) : ∃ W : Nat → Nat → Hp → Prop, (∃ m, W 0 m (upd H1 D (SetS P w D (fun _ => false) 0))) ∧ ∀ i m H, W i m H →
      (J.stop i H ∧ Qd H) ∨ (J.go i H ∧ ∃ Nx : Hp → Prop, (∀ H', Nx H' → ∃ m', m' < m ∧ W (i + 1) m' H') ∧ ∀ x H', J.yld i H x H' → g x (wipe σ vs) H' fun σ2 H2 => wipe σ2 vs = wipe σ vs ∧ tt σ2 H2 fun b H3 =>
        if b = true then te σ2 H3 fun y H4 => ∃ (z : Str) (S : Str → Bool) (n : Nat), y = .str z ∧ H4 D = some (SetS P w D S n) ∧ n + 1 < scanBound ∧ Nx (upd H4 D (SetS P w D (fun j => S j || decide (j = z)) (if S z = true then n else n + 1))) else Nx H3) := by
  refine ⟨fun i m H => m + i = k ∧ Pv i H, ⟨k, by omega, h0⟩, fun i m H ⟨hm, p⟩ => ?_⟩
  have gs := hG i H (by omega) p
  rcases Nat.lt_or_ge i k with lt | ge
  · exact .inr ⟨wk.goes i H lt gs, Pv (i + 1), fun H' p' => ⟨m - 1, by omega, by omega, p'⟩, fun x H' y => hs i x H H' lt p (wk.yields i H x H' lt gs y)⟩
  · have e : i = k := by omega
    subst e
    exact .inl ⟨wk.stops H gs, hd H p⟩
end Mz
set_option Elab.async false
set_option linter.all false
set_option maxRecDepth 100000
set_option maxHeartbeats 4000000
/-! == where a side is empty, whatever the items -/
namespace Mz
open PySem PySem.Spec PyProof.Rows L2
section
variable {X : Cx}
/-- tuples, one of them empty -/
def rEqT0 (K : PySem.W.Frag) : R2 := fun x y H Q => ∃ a b xs, x = .ref a ∧ y = .ref b ∧ SqT K H a xs ∧ SqT K H b [] ∧ Q (.bl xs.isEmpty) H
theorem op_eqT0 (hu : X.A.units + 64 < cLine) : OpR X (compareOp .Eq) (rEqT0 X.K) := by
  intro pins s σ H x y v u Q I rx ry h
  obtain ⟨a, b, xs, rfl, rfl, ha, hb, q⟩ := h
  obtain rfl : v = Value.ref a := rx
  obtain rfl : u = Value.ref b := ry
  obtain ⟨us, r1, p1, _⟩ := I.tuple ha
  obtain ⟨ws, r2, p2, _⟩ := I.tuple hb
  cases r2
  refine SeqAt.eq_tupleAt (e := fun _ => true) p1 p2 (by omega) (fun j h1 h2 => absurd h2 (by simp)) ⟨.bl xs.isEmpty, H, I, ?_, q⟩
  show Value.bool _ = Value.bool _
  cases r1 <;> rfl
theorem isl {h : Heap} {a : Addr} {its : Array Value} (p : PlainL h a its) : h.IsList a its := by
  obtain ⟨o, n, h1, h2, _, h3⟩ := p
  exact ⟨o, h1, h2, n, h3⟩
/-- lists, one of them empty -/
def rEqL0 (K : PySem.W.Frag) : R2 := fun x y H Q => ∃ a b xs, x = .ref a ∧ y = .ref b ∧ SqL K H a xs ∧ SqL K H b [] ∧ Q (.bl xs.isEmpty) H
theorem op_eqL0 (hu : X.A.units + 64 < cLine) : OpR X (compareOp .Eq) (rEqL0 X.K) := by
  intro pins s σ H x y v u Q I rx ry h
  obtain ⟨a, b, xs, rfl, rfl, ha, hb, q⟩ := h
  obtain rfl : v = Value.ref a := rx
  obtain rfl : u = Value.ref b := ry
  obtain ⟨us, r1, p1, _⟩ := I.list ha
  obtain ⟨ws, r2, p2, _⟩ := I.list hb
  cases r2
  cases r1 with
  | nil => exact SeqAt.eq_listAt (e := fun _ => true) (isl p1) (isl p2) rfl (by omega) (fun j h1 h2 => absurd h2 (by simp)) ⟨.bl true, H, I, rfl, q⟩
  | cons r1 t => exact SeqAt.eq_list_lengthsAt (isl p1) (isl p2) (by simp) (by omega) ⟨.bl false, H, I, rfl, q⟩
end
end Mz
set_option Elab.async false
set_option linter.all false
set_option maxRecDepth 100000
set_option maxHeartbeats 4000000
/-! classes made by a positional promise of their __init__ (a star parameter): C(), C(*xs); len of an own instance -/
namespace Mz
open PySem PySem.Spec PyProof.Rows L2
section
variable {X : Cx} {CX : CXT} {k : Nat} {f C : Addr} {fd : FuncData} {ps : List Str} {sp : Sp} {E : XK} {x : Str} {e : Expr} {te : TE} {p sp_ pos : Pos}
theorem pe_makeR0 (M : Mk X.K C f) (F : FnR X.prog X.w X.K X.mg X.base CX k f sp) (hr : Room (k + 1) X.A) (hg : Gl X x) (hm : X.mg x = some (.ref C)) (hx : Passes CX X E) (hdb : (x == ("__debug__" : Str)) = false := by decide) : PE X (.Call (.Name x p) [] [] pos) (StX.tMakeR C sp E tNil) := by
  refine ⟨fun pins s σ H Q I h => wpAny_Call_Name_kw (ld_glob I hg hm ?_ hdb)⟩
  exact PySem.W.callWith_K0 I.kIn M.kp (StX.run_makeR (us := []) M F hr hx I .nil h)
theorem pe_makeRS (M : Mk X.K C f) (F : FnR X.prog X.w X.K X.mg X.base CX k f sp) (hr : Room (k + 1) X.A) (hg : Gl X x) (hm : X.mg x = some (.ref C)) (hx : Passes CX X E) (he : PE X e te) (hdb : (x == ("__debug__" : Str)) = false := by decide)
    (hst : starEach [.Starred e sp_] X.env = [(true, eval e X.env)] := by rfl) :
    PE X (.Call (.Name x p) [.Starred e sp_] [] pos) (fun σ H Q => te σ H fun y H1 => ∃ a xs, y = V.ref a ∧ (SqT X.K H1 a xs ∨ SqL X.K H1 a xs) ∧ StX.tMakeR C sp E (fun _ H2 R => R xs H2) σ H1 Q) := by
  refine ⟨fun pins s σ H Q I h => wpAny_Call_Name_kw (ld_glob I hg hm ?_ hdb)⟩
  refine PySem.W.callWith_S (h₀ := X.base) I.ok.mod.kin M.kp (thn (he.run pins s σ H _ I h) fun v s1 ⟨y, H1, I1, ry, a, xs, ey, hxs, q⟩ => ?_) hst
  subst ey
  obtain rfl : v = Value.ref a := ry
  exact StX.star_any I1 hxs fun us s2 I2 rv => ⟨I2.kIn, StX.run_makeR M F hr hx I2 rv q⟩
/-- len(o), o an instance with an own __len__ -/
def rLenO (C : Addr) (sp : Sp) : List V → Hp → VK → Prop := fun xs H Q => ∃ a dx fs, xs = [.ref a] ∧ H a = some (.ins C dx fs) ∧ sp [.ref a] H (fun v H2 => ∃ n : Nat, v = .int n ∧ n ≤ sizeLine ∧ Q (.int n) H2) E0
theorem call_lenO (F : FnOk X.prog X.w X.K X.mg X.base CX0 k f fd ps sp) (hr : Room (k + 1) X.A) (hb : Binds X.K fd ps []) (hs : PySem.W.findIn X.K (.ref C) "__len__" = some (some (.ref f))) (hf : PySem.W.isFn X.K (.ref f) = true) : CallR X (.builtin "len") (rLenO C sp) := by
  intro pins s σ H xs us Q I r h
  obtain ⟨a, dx, fs, rfl, ha, q⟩ := h
  rw [Vals.ref1 r]
  obtain ⟨mA, O, _⟩ := ins_get I.hok ha
  obtain ⟨od, J, _⟩ := O.look
  obtain ⟨m, hF⟩ := I.fr
  refine PySem.W.len_K hF I.ok.mod.kin J hs hf (wpAny_mono (run_at (E := E0) (vs := [.ref a]) (us := [.ref a]) F hr.in1 I.env0.in1 hb (fun _ _ z => z.elim) I (.cons rfl .nil) q) (fun r s2 hv => ?_) fun _ _ z => z)
  obtain ⟨v, H2, I2, rv, n, rfl, hn, q2⟩ := hv
  obtain ⟨t, rfl⟩ := rv
  have big : (sizeLine : Int) < 2 ^ 63 := by rw [sizeLine_eq]; decide
  exact ⟨⟨by omega, by omega⟩, ⟨.int n, H2, I2.tok _, ⟨_, rfl⟩, q2⟩⟩
end
end Mz
set_option Elab.async false
set_option linter.all false
set_option maxRecDepth 100000
set_option maxHeartbeats 4000000
namespace Mz
open PySem L2
/-! the text by places -/
def top (i : Nat) : Stmt := PySem.Challenge.pw_mapsizes_k09_facts_refused.main.body.getD i (.Pass ⟨0, 0, 0, 0⟩)
abbrev sMapError : Stmt := top 2
abbrev sStateError : Stmt := top 3
abbrev sInvInt : Stmt := top 4
abbrev sInvPlace : Stmt := top 6
abbrev sInvFact : Stmt := top 7
abbrev sInvFacts : Stmt := top 8
abbrev sInvSet : Stmt := top 9
abbrev sWhole : Stmt := top 17
abbrev sIsInt : Stmt := top 18
abbrev sIsFrom : Stmt := top 19
abbrev sIsName : Stmt := top 20
abbrev sIsPlace : Stmt := top 21
abbrev sUnkOf : Stmt := top 22
abbrev sLeast : Stmt := top 23
abbrev sParts : Stmt := top 24
abbrev sPlace : Stmt := top 25
abbrev sHasSizes : Stmt := top 29
abbrev sAreSizes : Stmt := top 30
abbrev sSetting : Stmt := top 31
abbrev sIsFact : Stmt := top 34
abbrev sPlacedRow : Stmt := top 35
abbrev sPlacesOf : Stmt := top 36
abbrev sKeeps : Stmt := top 37
abbrev sFacts : Stmt := top 38
abbrev sCell : Stmt := top 40
abbrev sBox : Stmt := top 41
abbrev sTake : Stmt := top 42
abbrev sGood9 : Stmt := top 43
abbrev sOdd9 : Stmt := top 44
abbrev sLRoots : Stmt := top 45
abbrev sCalled : Stmt := top 46
abbrev sMade9 : Stmt := top 47
abbrev sAsked9 : Stmt := top 48
abbrev sThings : Stmt := top 49
abbrev sLaw : Stmt := top 50
end Mz
set_option Elab.async false
set_option linter.all false
set_option maxRecDepth 100000
set_option maxHeartbeats 4000000
/-! the draws: a cell of the script, its box, a digit out of the box -/
namespace Mz
open PySem PySem.Spec PyProof.Rows L2
/-- all that was tracked, but what stands at b, stands as it stood -/
def Kp (b : Addr) (H H' : Hp) : Prop := ∀ p o, p ≠ b → H p = some o → H' p = some o
theorem Kp.refl {b : Addr} {H : Hp} : Kp b H H := fun _ _ _ e => e
theorem Kp.trans {b : Addr} {H H1 H2 : Hp} (x : Kp b H H1) (y : Kp b H1 H2) : Kp b H H2 := fun p o n e => y p o n (x p o n e)
theorem Kp.fresh {b p : Addr} {H : Hp} {o : HO} (h : H p = none) : Kp b H (upd H p o) := fun q u _ e => by
  rw [upd_ne (ne_of_none e h)]
  exact e
theorem Kp.here {b : Addr} {H : Hp} {o : HO} : Kp b H (upd H b o) := fun q u n e => by
  rw [upd_ne n]
  exact e
/-- a box: what is left of the cell, its seed, how many digits were mixed (at most n) -/
def Bx (H : Hp) (b : Addr) (n : Nat) : Prop := ∃ x y z : Int, H b = some (.lst [.int x, .int y, .int z]) ∧ 0 ≤ x ∧ 0 ≤ y ∧ y < 2147483563 ∧ 0 ≤ z ∧ z ≤ (n : Int)
theorem Bx.upd {H : Hp} {b p : Addr} {n : Nat} {o : HO} (h : Bx H b n) (hp : H p = none) : Bx (upd H p o) b n := by
  obtain ⟨x, y, z, e, r⟩ := h
  exact ⟨x, y, z, by rw [upd_ne (ne_of_none e hp)]; exact e, r⟩
theorem Bx.more {H : Hp} {b : Addr} {n m : Nat} (h : Bx H b n) (le : n ≤ m) : Bx H b m := by
  obtain ⟨x, y, z, e, h1, h2, h3, h4, h5⟩ := h
  exact ⟨x, y, z, e, h1, h2, h3, h4, by omega⟩
def spCell (K : PySem.W.Frag) : Sp := fun vs H Q _ => ∃ (a : Addr) (ns : List Int) (k : Nat), vs = [.ref a, .int k] ∧ SqL K H a (ns.map V.int) ∧ k < 1000 ∧ ∀ i : Int, Q (.int i) H
def spBox : Sp := fun vs H Q _ => ∃ i : Int, vs = [.int i] ∧ ∀ (b : Addr) (H' : Hp), H b = none → Bx H' b 0 → Kp b H H' → Q (.ref b) H'
def spTake : Sp := fun vs H Q _ => ∃ (b : Addr) (n : Nat) (m : Int), vs = [.ref b, .int m] ∧ Bx H b n ∧ n ≤ 1000000 ∧ 0 < m ∧ m < 2 ^ 64 ∧
  ∀ (r : Int) (H' : Hp), 0 ≤ r → r < m → Bx H' b (n + 1) → Kp b H H' → Q (.int r) H'
/-- the built-ins that the draws call -/
structure Blt (mg : Str → Option Value) : Prop where
  len : mg "len" = none
  max : mg "max" = none
  min : mg "min" = none
  int : mg "int" = none
  range : mg "range" = none
section
variable {P : Program} {w : World} {K : PySem.W.Frag} {mg : Str → Option Value} {base : Heap}
theorem scCell : FnScope ["_law_script", "_law_k"] ["_law_script", "_law_k"] (defScope sCell) := ⟨rfl, rfl, rfl, by decide +kernel, rfl, by decide +kernel, by decide +kernel⟩
theorem ok_cell {f : Addr} {fd : FuncData} (F : Fun K "_law_cell" "_law_cell" sCell f fd) (B : Blt mg) : FnOk P w K mg base CX0 1 f fd ["_law_script", "_law_k"] (spCell K) := by
  refine F.ok scCell (fun vs H Q E h => ?_) (fun cdv A outer s H vs Q E hr h => ?_)
  · obtain ⟨a, ns, k, rfl, _⟩ := h
    rfl
  · obtain ⟨a, ns, k, rfl, hS, hk, q⟩ := h
    refine ⟨_, pss_one (ps_ret (pe_ifExp (pt_cmpR op_lt (pv 1) (pe_callB call_len_seq (by rfl) B.len PySem.boot_len (pa_cons (pv 0) pa_nil)) (nomark _))
      (pe_ix ix_list (pv 0) (pv 1) (fun _ _ => rfl)) (pe_op op_add (pe_op op_mul pe_int (pv 1)) pe_int))), ?_⟩
    refine ⟨_, rfl, _, rfl, a, _, rfl, .inl hS, _, _, rfl, rfl, _, rfl, ?_⟩
    refine ite2 (fun hc => ?_) (fun _ => ?_)
    · have hlt : k < ns.length := by
        have z := of_decide_eq_true hc
        rw [List.length_map] at z
        omega
      exact ⟨_, rfl, _, rfl, a, _, _, _, rfl, rfl, hS, atI_nat (v := V.int (ns[k])) (by rw [List.getElem?_map, List.getElem?_eq_getElem hlt]; rfl), q _⟩
    · exact ⟨_, rfl, _, _, rfl, rfl, .inl ⟨by decide, by decide⟩, _, _, rfl, rfl, q _⟩
theorem scBox : FnScope ["_law_cell_here"] ["_law_cell_here"] (defScope sBox) := ⟨rfl, rfl, rfl, by decide +kernel, rfl, by decide +kernel, by decide +kernel⟩
theorem ok_box {f : Addr} {fd : FuncData} (F : Fun K "_law_box" "_law_box" sBox f fd) (B : Blt mg) : FnOk P w K mg base CX0 1 f fd ["_law_cell_here"] spBox := by
  refine F.ok scBox (fun vs H Q E h => ?_) (fun cdv A outer s H vs Q E hr h => ?_)
  · obtain ⟨i, rfl, _⟩ := h
    rfl
  · obtain ⟨i, rfl, q⟩ := h
    refine ⟨_, pss_one (ps_ret (pe_lst (pa_cons (pe_callB (call_max2 rfl) (by rfl) B.max (by decide +kernel) (pa_cons pe_int (pa_cons (pe_op op_sub (pv 0) (pe_op op_pow pe_int pe_int)) pa_nil)))
      (pa_cons (pe_op op_mod (pe_callTy call_int1 (by rfl) B.int (by decide +kernel) (pa_cons (pv 0) pa_nil)) pe_int) (pa_cons pe_int pa_nil))))), ?_⟩
    refine ⟨_, rfl, _, _, rfl, rfl, ⟨by decide, by decide, by decide⟩, _, _, rfl, rfl, _, _, rfl, ?_⟩
    refine ⟨_, rfl, .inl ⟨_, rfl, _, _, rfl, rfl, (by show (0 : Int) < 2147483563; decide), ?_⟩⟩
    refine ⟨(by show 3 ≤ sizeLine; decide), fun p np => q p _ np ⟨_, _, _, upd_same, ?_, ?_, ?_, by decide, by decide⟩ (Kp.fresh np)⟩
    · split <;> omega
    · exact Int.emod_nonneg _ (by decide)
    · exact Int.emod_lt_of_pos _ (by decide)
theorem scTake : FnScope ["_law_box_here", "_law_many", "_law_digit", "_law_mixed"] ["_law_box_here", "_law_many"] (defScope sTake) := ⟨rfl, rfl, rfl, by decide +kernel, rfl, by decide +kernel, by decide +kernel⟩
theorem fmod_low {i j : Int} (h : 0 < j) : 0 ≤ i.fmod j := Int.fmod_nonneg_of_pos i h
theorem fmod_high {i j : Int} (h : 0 < j) : i.fmod j < j := Int.fmod_lt_of_pos i h
theorem small_log {m : Int} (h0 : 0 < m) (h : m < 2 ^ 64) : m.natAbs.log2 < 9000 := by
  have h1 : m.natAbs < 2 ^ 64 := by omega
  exact Nat.lt_of_lt_of_le (PySem.Flt.log2_lt_of (by decide) h1) (by decide)
theorem ok_take {f : Addr} {fd : FuncData} (F : Fun K "_law_take" "_law_take" sTake f fd) (B : Blt mg) : FnOk P w K mg base CX0 1 f fd ["_law_box_here", "_law_many"] spTake := by
  refine F.ok scTake (fun vs H Q E h => ?_) (fun cdv A outer s H vs Q E hr h => ?_)
  · obtain ⟨b, n, m, rfl, _⟩ := h
    rfl
  · obtain ⟨b, n, m, rfl, ⟨x, y, z, hb, x0, y0, y1, z0, z1⟩, hn, m0, m1, q⟩ := h
    have nd := scTake.nd
    refine ⟨_, pss_cons (ps_if (pt_cmpR op_gt (pe_ix ix_list (pv 0) pe_int (fun _ _ => rfl)) pe_int (nomark _))
        (pss_cons (ps_set (i := 2) nd rfl (Or.inl rfl) (pe_op op_modN (pe_callTy call_int1 (by rfl) B.int (by decide +kernel) (pa_cons (pe_ix ix_list (pv 0) pe_int (fun _ _ => rfl)) pa_nil)) (pv 1)))
        (pss_cons (ps_asg (pe_op op_fdivW (pe_ix ix_list (pv 0) pe_int (fun _ _ => rfl)) (pv 1)) (pg_sub (pv 0) pe_int set_list))
        (pss_one (ps_ret (pv 2))))) pss_nil)
      (pss_cons (ps_asg (pe_op op_add (pe_ix ix_list (pv 0) pe_int (fun _ _ => rfl)) pe_int) (pg_sub (pv 0) pe_int set_list))
      (pss_cons (ps_set (i := 3) nd rfl (Or.inl rfl) (pe_op op_mod (pe_op op_pow (pe_callTy call_int1 (by rfl) B.int (by decide +kernel) (pa_cons (pe_op op_add (pe_op op_add (pe_ix ix_list (pv 0) pe_int (fun _ _ => rfl)) (pe_op op_mul pe_int (pe_ix ix_list (pv 0) pe_int (fun _ _ => rfl)))) pe_int) pa_nil)) pe_int) pe_int))
      (pss_cons (ps_set (i := 3) nd rfl (Or.inl rfl) (pe_op op_mod (pe_op op_pow (pe_callTy call_int1 (by rfl) B.int (by decide +kernel) (pa_cons (pe_op op_add (pv 3) (pe_op op_mul pe_int (pe_ix ix_list (pv 0) pe_int (fun _ _ => rfl)))) pa_nil)) pe_int) pe_int))
      (pss_one (ps_ret (pe_op op_modN (pe_op op_fdiv (pv 3) pe_int) (pv 1))))))), ?_⟩
    have a0 : ∀ {u v t : V}, atI [u, v, t] (0 : Int) = some u := rfl
    refine ⟨_, rfl, b, _, _, _, rfl, rfl, SqL.of hb, a0, _, _, rfl, rfl, _, rfl, ?_⟩
    refine ite2 (fun hc => ?_) (fun _ => ?_)
    · refine ⟨_, rfl, b, _, _, _, rfl, rfl, SqL.of hb, a0, .inl ⟨_, rfl, _, rfl, _, _, rfl, rfl, by omega, ?_⟩⟩
      refine ⟨_, rfl, b, _, _, _, rfl, rfl, SqL.of hb, a0, _, rfl, _, _, rfl, rfl, ⟨m0, small_log m0 m1⟩, ?_⟩
      refine ⟨_, rfl, b, _, _, _, rfl, rfl, hb, rfl, ?_⟩
      refine ⟨_, rfl, q _ _ (fmod_low m0) (fmod_high m0) ⟨_, y, z, upd_same, Int.ediv_nonneg x0 (by omega), y0, y1, z0, by omega⟩ Kp.here⟩
    · refine ⟨_, rfl, b, _, _, _, rfl, rfl, SqL.of hb, rfl, _, _, rfl, rfl, _, rfl, b, _, _, _, rfl, rfl, hb, rfl, ?_⟩
      have hb1 : upd H b (.lst [.int x, .int y, .int (z + 1)]) b = some (.lst [.int x, .int y, .int (z + 1)]) := upd_same
      refine ⟨_, rfl, b, _, _, _, rfl, rfl, SqL.of hb1, rfl, ?_⟩
      refine ⟨_, rfl, b, _, _, _, rfl, rfl, SqL.of hb1, rfl, ?_⟩
      refine ⟨_, _, rfl, rfl, .inl ⟨by decide, by decide⟩, _, _, rfl, rfl, _, _, rfl, rfl, .inl ⟨_, rfl, _, _, rfl, rfl, ⟨by decide, by decide, by omega⟩, ?_⟩⟩
      refine ⟨_, _, rfl, rfl, (by show (0 : Int) < 2147483647; decide), ?_⟩
      refine ⟨_, rfl, _, rfl, b, _, _, _, rfl, rfl, SqL.of hb1, rfl, ?_⟩
      have l1 := Int.emod_nonneg ((y + 7433 * (z + 1) + 251) ^ (5 : Int).toNat) (b := 2147483647) (by decide)
      have h1 := Int.emod_lt_of_pos ((y + 7433 * (z + 1) + 251) ^ (5 : Int).toNat) (b := 2147483647) (by decide)
      refine ⟨_, _, rfl, rfl, .inl ⟨by decide, by decide⟩, _, _, rfl, rfl, .inl ⟨_, rfl, _, _, rfl, rfl, ⟨by decide, by decide, by omega⟩, ?_⟩⟩
      refine ⟨_, _, rfl, rfl, (by show (0 : Int) < 2147483587; decide), ?_⟩
      refine ⟨_, rfl, _, _, rfl, rfl, ⟨by decide, by decide⟩, _, rfl, _, _, rfl, rfl, by omega, ?_⟩
      exact q _ _ (fmod_low m0) (fmod_high m0) ⟨x, y, z + 1, upd_same, x0, y0, y1, by omega, by omega⟩ Kp.here
end
end Mz
set_option Elab.async false
set_option linter.all false
set_option maxRecDepth 100000
set_option maxHeartbeats 4000000
/-! the program's own defs: integers, names, marks -/
namespace Mz
open PySem PySem.Spec PyProof.Rows L2
/-- any value, by what isinstance says of it -/
inductive Kd (K : PySem.W.Frag) (H : Hp) : V → Prop
  | int (i : Int) : Kd K H (.int i)
  | bl (b : Bool) : Kd K H (.bl b)
  | str (z : Str) (h : z.length ≤ 1000) (ok : PyData.strOk z = true) : Kd K H (.str z)
  | non : Kd K H .non
  | oth (a : Addr) (t : Value) (ty : TyX K H (.ref a) t) (ki : PySem.W.kitOne K t (.type "int") = some false) (ks : PySem.W.kitOne K t (.type "str") = some false) : Kd K H (.ref a)
def wholeV : V → Bool
  | .int _ => true
  | _ => false
def inB (lo hi : Int) : V → Bool
  | .int i => decide (lo ≤ i) && decide (i ≤ hi)
  | _ => false
abbrev abc : Str := "abcdefghijklmnopqrstuvwxyz"
/-- a name, as the program says it -/
def nameS (z : Str) : Bool := (decide (1 ≤ (z.length : Int)) && decide ((z.length : Int) ≤ 6)) && z.cps.toList.all fun c => decide (c ∈ abc.cps.toList)
def nameV : V → Bool
  | .str z => nameS z
  | _ => false
def noMarks : List V := [.str "old", .str "zero", .str "end", .str "fails", .str "more", .str "done", .str "none"]
def markV : V → Bool
  | .str z => nameS z && !inV (.str z) noMarks
  | _ => false
def spWhole (K : PySem.W.Frag) : Sp := fun vs H Q _ => ∃ v, vs = [v] ∧ Kd K H v ∧ Q (.bl (wholeV v)) H
def spIsInt (K : PySem.W.Frag) : Sp := fun vs H Q _ => ∃ v lo hi, vs = [v, .int lo, .int hi] ∧ Kd K H v ∧ Q (.bl (inB lo hi v)) H
/-- the list of the letters' answers is left behind -/
def spIsName (K : PySem.W.Frag) : Sp := fun vs H Q _ => ∃ v, vs = [v] ∧ Kd K H v ∧ ∀ H', Same H H' → Q (.bl (nameV v)) H'
def spIsMark (K : PySem.W.Frag) : Sp := fun vs H Q _ => ∃ v, vs = [v] ∧ Kd K H v ∧ ∀ H', Same H H' → Q (.bl (markV v)) H'
structure Blp (mg : Str → Option Value) : Prop where
  isi : mg "isinstance" = none
  bool : mg "bool" = none
  str : mg "str" = none
  all : mg "all" = none
section
variable {P : Program} {w : World} {K : PySem.W.Frag} {mg : Str → Option Value} {base : Heap}
theorem scWhole : FnScope ["value"] ["value"] (defScope sWhole) := ⟨rfl, rfl, rfl, by decide +kernel, rfl, by decide +kernel, by decide +kernel⟩
theorem ok_whole {f : Addr} {fd : FuncData} (F : Fun K "_is_whole" "_is_whole" sWhole f fd) (B : Blt mg) (D : Blp mg) : FnOk P w K mg base CX0 1 f fd ["value"] (spWhole K) := by
  refine F.ok scWhole (fun vs H Q E h => ?_) (fun cdv A outer s H vs Q E hr h => ?_)
  · obtain ⟨v, rfl, _⟩ := h
    rfl
  · obtain ⟨v, rfl, hk, q⟩ := h
    refine ⟨_, pss_one (ps_ret (pe_and (pe_callB call_isi (by rfl) D.isi (by decide +kernel) (pa_cons (pv 0) (pa_cons (pe_bltn (v := .ty "int") (by rfl) B.int (by decide +kernel) rfl) pa_nil)))
      (pe_one (pe_not (pe_callB call_isi (by rfl) D.isi (by decide +kernel) (pa_cons (pv 0) (pa_cons (pe_bltn (v := .ty "bool") (by rfl) D.bool (by decide +kernel) rfl) pa_nil))))))), ?_⟩
    refine ⟨_, rfl, ?_⟩
    cases hk with
    | int i => exact ⟨_, _, _, _, true, rfl, .ty _, .base (.int i), kit_ty (by decide +kernel), true, rfl, iteT ⟨_, rfl, _, _, _, _, false, rfl, .ty _, .base (.int i), kit_ty (by decide +kernel), false, rfl, q⟩⟩
    | bl b => exact ⟨_, _, _, _, true, rfl, .ty _, .base (.bl b), kit_ty (by decide +kernel), true, rfl, iteT ⟨_, rfl, _, _, _, _, true, rfl, .ty _, .base (.bl b), kit_ty (by decide +kernel), true, rfl, q⟩⟩
    | str z _ _ => exact ⟨_, _, _, _, false, rfl, .ty _, .base (.str z), kit_ty (by decide +kernel), false, rfl, iteF q⟩
    | non => exact ⟨_, _, _, _, false, rfl, .ty _, .base .non, kit_ty (by decide +kernel), false, rfl, iteF q⟩
    | oth a t ty ki ks => exact ⟨_, _, _, _, false, rfl, .ty _, ty, ki, false, rfl, iteF q⟩
theorem scIsInt : FnScope ["value", "low", "high"] ["value", "low", "high"] (defScope sIsInt) := ⟨rfl, rfl, rfl, by decide +kernel, rfl, by decide +kernel, by decide +kernel⟩
theorem ok_isInt {f f1 : Addr} {fd fd1 : FuncData} (F : Fun K "is_integer" "is_integer" sIsInt f fd) (G : FnOk P w K mg base CX0 1 f1 fd1 ["value"] (spWhole K)) (m1 : mg "_is_whole" = some (.ref f1)) (k1 : PySem.W.keepIn K (.ref f1) = true) (b1 : Binds K fd1 ["value"] []) :
    FnOk P w K mg base CX0 2 f fd ["value", "low", "high"] (spIsInt K) := by
  refine F.ok scIsInt (fun vs H Q E h => ?_) (fun cdv A outer s H vs Q E hr h => ?_)
  · obtain ⟨v, lo, hi, rfl, _⟩ := h
    rfl
  · obtain ⟨v, lo, hi, rfl, hk, q⟩ := h
    refine ⟨_, pss_one (ps_ret (pe_and (pe_call G hr (by rfl) m1 k1 b1 .nil pass0 (pa_cons (pv 0) pa_nil)) (pe_one (pe_chain op_le op_le (pv 1) (pv 0) (pv 2))))), ?_⟩
    refine ⟨_, rfl, v, rfl, hk, _, rfl, ?_⟩
    cases hk with
    | int i =>
      refine iteT ⟨_, rfl, _, rfl, _, _, rfl, rfl, _, rfl, ite2 (fun hc => ?_) (fun hc => ?_)⟩
      · refine ⟨_, rfl, _, _, rfl, rfl, ?_⟩
        have e : inB lo hi (.int i) = decide (i ≤ hi) := by
          show (decide (lo ≤ i) && decide (i ≤ hi)) = _
          rw [hc, Bool.true_and]
        rw [e] at q
        exact q
      · have e : inB lo hi (.int i) = false := by
          show (decide (lo ≤ i) && decide (i ≤ hi)) = _
          rw [Bool.eq_false_iff.mpr hc, Bool.false_and]
        rw [e] at q
        exact q
    | bl b => exact iteF q
    | str z _ _ => exact iteF q
    | non => exact iteF q
    | oth a t ty ki ks => exact iteF q
theorem scIsName : FnScope ["value", "letter"] ["value"] (defScope sIsName) := ⟨rfl, rfl, rfl, by decide +kernel, rfl, by decide +kernel, by decide +kernel⟩
theorem ok_isName {f : Addr} {fd : FuncData} {t1 t2 : Tok} (F : Fun K "is_name" "is_name" sIsName f fd) (B : Blt mg) (D : Blp mg) (mL : mg "_LONGEST_NAME" = some (.int 6 t1)) (mA : mg "_LETTERS" = some (.str abc t2)) : FnOk P w K mg base CX0 1 f fd ["value"] (spIsName K) := by
  refine F.ok scIsName (fun vs H Q E h => ?_) (fun cdv A outer s H vs Q E hr h => ?_)
  · obtain ⟨v, rfl, _⟩ := h
    rfl
  · obtain ⟨v, rfl, hk, q⟩ := h
    have nd := scIsName.nd
    refine ⟨_, pss_cons (ps_if (PW.pt (pw_or (pt_not (pt_val (pe_callB call_isi (by rfl) D.isi (by decide +kernel) (pa_cons (pv 0) (pa_cons (pe_bltn (v := .ty "str") (by rfl) D.str (by decide +kernel) rfl) pa_nil)))))
        (pw_or1 (pt_not (pt_chain op_le op_le pe_int (pe_callB call_len_str (by rfl) B.len PySem.boot_len (pa_cons (pv 0) pa_nil)) (pe_glob (v := .int 6) rfl mL ⟨_, rfl⟩)))))) (pss_one (ps_ret pe_bl)) pss_nil)
      (pss_one (ps_ret (pe_callB (cr_all rfl) (by rfl) D.all (by decide +kernel) (pa_cons (pe_lc (own := [("letter", 1)]) (g := gName 1) (tt := tYes) rfl nd (pi_str (pv 0)) (blkOk_by (N := ["value", "letter"]) (sc := defScope sIsName) (by decide +kernel))
        (fun _ _ _ _ _ => pg_name (i := 1) nd rfl (Or.inl rfl)) (fun _ _ _ _ _ => pts_nil) (fun _ _ _ _ _ => pe_cmpR op_in_sign (pv 1) (pe_glob (v := .str abc) rfl mA ⟨_, rfl⟩) (by rfl))) pa_nil)))), ?_⟩
    refine ⟨_, rfl, ?_⟩
    have no : ∀ {v : V}, nameV v = false → (∀ H', Same H H' → Q (.bl (nameV v)) H') → Q (.bl false) H := fun e q => by
      rw [← e]
      exact q _ fun _ _ z => z
    cases hk with
    | int i => exact ⟨_, _, _, _, false, rfl, .ty _, .base (.int i), kit_ty (by decide +kernel), false, rfl, iteT (iteT (no rfl q))⟩
    | bl b => exact ⟨_, _, _, _, false, rfl, .ty _, .base (.bl b), kit_ty (by decide +kernel), false, rfl, iteT (iteT (no rfl q))⟩
    | non => exact ⟨_, _, _, _, false, rfl, .ty _, .base .non, kit_ty (by decide +kernel), false, rfl, iteT (iteT (no rfl q))⟩
    | oth a t ty ki ks => exact ⟨_, _, _, _, false, rfl, .ty _, ty, ks, false, rfl, iteT (iteT (no rfl q))⟩
    | str z hz ok =>
      refine ⟨_, _, _, _, true, rfl, .ty _, .base (.str z), kit_ty (by decide +kernel), true, rfl, iteF ?_⟩
      have zl : z.length ≤ sizeLine := Nat.le_trans hz (by decide)
      refine ⟨_, rfl, _, rfl, zl, _, _, rfl, rfl, _, rfl, ite2 (fun h1 => ?_) (fun h1 => ?_)⟩
      · refine ⟨_, _, rfl, rfl, _, rfl, ?_⟩
        cases h6 : decide ((z.length : Int) ≤ 6) with
        | false =>
          refine iteT ?_
          have e : nameV (.str z) = false := by
            show ((decide (1 ≤ (z.length : Int)) && decide ((z.length : Int) ≤ 6)) && z.cps.toList.all fun c => decide (c ∈ abc.cps.toList)) = false
            rw [h6, Bool.and_false, Bool.false_and]
          exact no e q
        | true =>
          refine iteF ?_
          refine ⟨_, rfl, z, rfl, fun p np => lc_it walk_str (fun i H' => H' = upd H p (.lst ((z.cps.toList.take i).map fun c => V.bl (decide (c ∈ abc.cps.toList))))) rfl (fun _ _ _ _ => trivial) ?_ ?_⟩
          · rintro i x H0 H' hi rfl ⟨rfl, c, hc, rfl⟩
            refine ⟨rfl, ?_⟩
            unfold tYes
            refine iteT ⟨_, rfl, c, abc, rfl, rfl, _, upd_same, ?_, ?_⟩
            · rw [List.length_map, List.length_take]
              exact Nat.lt_of_le_of_lt (Nat.min_le_left _ _) (Nat.lt_of_lt_of_le hi zl)
            · rw [upd_upd]
              have hc2 : z.cps.toList[i]? = some c := by
                rw [Array.getElem?_toList]
                exact hc
              rw [List.take_succ, hc2, List.map_append]
              rfl
          · rintro H' rfl
            have sz : z.cps.toList.take z.cps.size = z.cps.toList := by
              rw [← Array.length_toList, List.take_length]
            refine ⟨p, (z.cps.toList.take z.cps.size).map fun c => decide (c ∈ abc.cps.toList), rfl, SqL.of (by rw [List.map_map]; exact upd_same), ?_⟩
            have e : nameV (.str z) = ((z.cps.toList.take z.cps.size).map fun c => decide (c ∈ abc.cps.toList)).all id := by
              show ((decide (1 ≤ (z.length : Int)) && decide ((z.length : Int) ≤ 6)) && z.cps.toList.all fun c => decide (c ∈ abc.cps.toList)) = _
              rw [h1, h6, sz, List.all_map]
              rfl
            rw [← e]
            refine q _ fun b o z => ?_
            rw [upd_ne (ne_of_none z np)]
            exact z
      · have e : nameV (.str z) = false := by
          show ((decide (1 ≤ (z.length : Int)) && decide ((z.length : Int) ≤ 6)) && z.cps.toList.all fun c => decide (c ∈ abc.cps.toList)) = false
          rw [Bool.eq_false_iff.mpr h1, Bool.false_and, Bool.false_and]
        exact ⟨_, rfl, iteT (no e q)⟩
end
end Mz
set_option Elab.async false
set_option linter.all false
set_option maxRecDepth 100000
set_option maxHeartbeats 4000000
namespace Mz
open PySem PySem.Spec PyProof.Rows L2
def lowS (z : Str) : Int := if z = "" then 0 else -3
def spLeast : Sp := fun vs H Q _ => ∃ z : Str, vs = [.str z] ∧ Q (.int (lowS z)) H
/-- a place's fields -/
def plF (z : Str) (k : Int) : List (Str × V) := putF "_shift" (.int k) (putF "_base" (.str z) [])
/-- a place that can be made: no error -/
def spInit (C : Addr) : Sp := fun vs H Q _ => ∃ (p dx : Addr) (z : Str) (k : Int), vs = [.ref p, .str z, .int k] ∧ H p = some (.ins C dx []) ∧ z.length ≤ 1000 ∧ PyData.strOk z = true ∧ (z = "" ∨ nameS z = true) ∧ lowS z ≤ k ∧ k ≤ 3 ∧
  ∀ H', (∀ q o, q ≠ p → H q = some o → H' q = some o) → H' p = some (.ins C dx (plF z k)) → Q .non H'
structure Cpl (K : PySem.W.Frag) (mg : Str → Option Value) (C : Addr) : Prop where
  cl : Cls K C
  nB : NoAttr K C "_base"
  nS : NoAttr K C "_shift"
  mgC : mg "Place" = some (.ref C)
section
variable {P : Program} {w : World} {K : PySem.W.Frag} {mg : Str → Option Value} {base : Heap}
theorem scLeast : FnScope ["base"] ["base"] (defScope sLeast) := ⟨rfl, rfl, rfl, by decide +kernel, rfl, by decide +kernel, by decide +kernel⟩
theorem ok_least {f : Addr} {fd : FuncData} {t : Tok} (F : Fun K "_least_shift" "_least_shift" sLeast f fd) (mM : mg "_MOST" = some (.int 3 t)) : FnOk P w K mg base CX0 1 f fd ["base"] spLeast := by
  refine F.ok scLeast (fun vs H Q E h => ?_) (fun cdv A outer s H vs Q E hr h => ?_)
  · obtain ⟨z, rfl, _⟩ := h
    rfl
  · obtain ⟨z, rfl, q⟩ := h
    refine ⟨_, pss_one (ps_ret (pe_ifExp (pt_cmpR op_eq (pv 0) pe_str (nomark _)) pe_int (pe_un un_neg (pe_glob (v := .int 3) rfl mM ⟨_, rfl⟩)))), ?_⟩
    refine ⟨_, rfl, rfl, _, rfl, ite2 (fun hc => ?_) (fun hc => ?_)⟩
    · have e : lowS z = 0 := if_pos (V.str.inj (of_decide_eq_true hc))
      rw [e] at q
      exact q
    · have e : lowS z = -3 := if_neg fun x => hc (decide_eq_true (by rw [x]))
      rw [e] at q
      exact ⟨_, rfl, q⟩
theorem scInit : FnScope ["self", "base", "shift"] ["self", "base", "shift"] (defScope (inClass sPlace 0)) := ⟨rfl, rfl, rfl, by decide +kernel, rfl, by decide +kernel, by decide +kernel⟩
theorem ok_init {f f1 f2 f3 C : Addr} {fd fd1 fd2 fd3 : FuncData} {t : Tok} {dvs : List V} {kws : List (Str × V)} {pa : Arguments} (F : FunD K "__init__" "Place.__init__" pa (defBody (inClass sPlace 0)) (defScope (inClass sPlace 0)) dvs kws f fd) (T : Cpl K mg C)
    (G1 : FnOk P w K mg base CX0 1 f1 fd1 ["value"] (spIsName K)) (m1 : mg "is_name" = some (.ref f1)) (k1 : PySem.W.keepIn K (.ref f1) = true) (b1 : Binds K fd1 ["value"] [])
    (G2 : FnOk P w K mg base CX0 2 f2 fd2 ["value", "low", "high"] (spIsInt K)) (m2 : mg "is_integer" = some (.ref f2)) (k2 : PySem.W.keepIn K (.ref f2) = true) (b2 : Binds K fd2 ["value", "low", "high"] [])
    (G3 : FnOk P w K mg base CX0 1 f3 fd3 ["base"] spLeast) (m3 : mg "_least_shift" = some (.ref f3)) (k3 : PySem.W.keepIn K (.ref f3) = true) (b3 : Binds K fd3 ["base"] [])
    (mM : mg "_MOST" = some (.int 3 t)) : FnOk P w K mg base CX0 3 f fd ["self", "base", "shift"] (spInit C) := by
  refine F.ok scInit (fun vs H Q E h => ?_) (fun cdv A outer s H vs Q E hr h => ?_)
  · obtain ⟨p, dx, z, k, rfl, _⟩ := h
    rfl
  · obtain ⟨p, dx, z, k, rfl, hp, hz, ok, hn, h1, h2, q⟩ := h
    refine ⟨_, PSs.nox (pss_cons (ps_if (PW.pt (pw_and (pt_cmpR op_ne (pv 1) pe_str (nomark _)) (pw_and1 (pt_not (pt_val (pe_call G1 (hr.mono (by decide)) (by rfl) m1 k1 b1 .nil pass0 (pa_cons (pv 1) pa_nil))))))) (pss_one ps_never) pss_nil)
      (pss_cons (ps_if (pt_not (pt_val (pe_call G2 hr (by rfl) m2 k2 b2 .nil pass0 (pa_cons (pv 2) (pa_cons (pe_call G3 (hr.mono (by decide)) (by rfl) m3 k3 b3 .nil pass0 (pa_cons (pv 1) pa_nil)) (pa_cons (pe_glob (v := .int 3) rfl mM ⟨_, rfl⟩) pa_nil)))))) (pss_one ps_never) pss_nil)
      (pss_cons (ps_fld (pv 0) (pv 1) rfl) (pss_one (ps_fld (pv 0) (pv 2) rfl))))), ?_⟩
    generalize hT : tSeq (tIfS (tNot _) _ _) (tSeq (sFld _ _ _ _) (sFld _ _ _ _)) = T2
    have rest : ∀ H1, Same H H1 → T2 { nx := fun _ H' => Q .non H', rt := Q } (start ["self", "base", "shift"] [V.ref p, V.str z, V.int k]) H1 := by
      intro H1 sm
      rw [← hT]
      have hp1 := sm _ _ hp
      refine ⟨_, rfl, _, rfl, z, rfl, .int k, lowS z, 3, rfl, Kd.int k, _, rfl, ?_⟩
      have e : inB (lowS z) 3 (.int k) = true := by
        show (decide (lowS z ≤ k) && decide (k ≤ 3)) = true
        rw [decide_eq_true h1, decide_eq_true h2]
        rfl
      rw [e]
      refine iteF ⟨_, rfl, _, rfl, p, C, dx, [], rfl, hp1, T.cl, T.nB, (by show 0 < 1000; decide), _, rfl, _, rfl, p, C, dx, _, rfl, upd_same, T.cl, T.nS, (by show 1 < 1000; decide), ?_⟩
      refine q _ (fun r o n e => ?_) upd_same
      rw [upd_ne n, upd_ne n]
      exact sm _ _ e
    have kd : Kd K H (.str z) := .str z hz ok
    by_cases hz0 : z = ""
    · subst hz0
      exact ⟨_, rfl, rfl, _, rfl, iteF (iteF (rest H (Same.refl H)))⟩
    · have hnm : nameS z = true := hn.resolve_left hz0
      have e : decide (V.str z = V.str "") = false := decide_eq_false fun x => hz0 (V.str.inj x)
      refine ⟨_, rfl, rfl, _, rfl, ?_⟩
      rw [e]
      refine iteT ⟨_, rfl, .str z, rfl, kd, fun H1 sm => ⟨_, rfl, ?_⟩⟩
      have e2 : nameV (.str z) = true := hnm
      rw [e2]
      exact iteF (rest H1 sm)
end
end Mz
set_option Elab.async false
set_option linter.all false
set_option maxRecDepth 100000
set_option maxHeartbeats 4000000
namespace Mz
open PySem PySem.Spec PyProof.Rows L2
theorem plF_base {z : Str} {k : Int} : (plF z k).lookup ("_base" : Str) = some (.str z) := by
  unfold plF
  rw [lookup_putF, if_neg (by decide +kernel), lookup_putF, if_pos rfl]
theorem plF_shift {z : Str} {k : Int} : (plF z k).lookup ("_shift" : Str) = some (.int k) := by
  unfold plF
  rw [lookup_putF, if_pos rfl]
/-- a place stands at a -/
def Pl (C : Addr) (H : Hp) (a : Addr) (z : Str) (k : Int) : Prop := ∃ dx, H a = some (.ins C dx (plF z k))
/-- a base and a shift that go together -/
def Good (z : Str) (k : Int) : Prop := z.length ≤ 1000 ∧ PyData.strOk z = true ∧ (z = "" ∨ nameS z = true) ∧ lowS z ≤ k ∧ k ≤ 3
theorem Good.lo {z : Str} {k : Int} (g : Good z k) : -3 ≤ k := by
  have h := g.2.2.2.1
  unfold lowS at h
  split at h <;> omega
theorem Good.hi {z : Str} {k : Int} (g : Good z k) : k ≤ 3 := g.2.2.2.2
theorem int_small {k : Int} (h0 : -3 ≤ k) (h1 : k ≤ 3) : k.natAbs.log2 < 1920 := by
  have h : k.natAbs < 2 ^ 3 := by omega
  exact Nat.lt_trans (PySem.Flt.log2_lt_of (by decide) h) (by decide)
/-- str of a place -/
def strP (z : Str) (k : Int) : Str := if z = "" then Str.ofString (toString k) else if k = 0 then z else "" ++ z ++ signS k
def spBase (C : Addr) : Sp := fun vs H Q _ => ∃ a z k, vs = [.ref a] ∧ Pl C H a z k ∧ Q (.str z) H
def spShift (C : Addr) : Sp := fun vs H Q _ => ∃ a z k, vs = [.ref a] ∧ Pl C H a z k ∧ Q (.int k) H
def spStr (C : Addr) : Sp := fun vs H Q _ => ∃ a z k, vs = [.ref a] ∧ Pl C H a z k ∧ Good z k ∧ Q (.str (strP z k)) H
/-- a value that is no place -/
def Oty (K : PySem.W.Frag) (C : Addr) (H : Hp) (y : V) : Prop := ∃ t, TyX K H y t ∧ PySem.W.kitOne K t (.ref C) = some false
def spEq (K : PySem.W.Frag) (C : Addr) : Sp := fun vs H Q _ => ∃ a z k, Pl C H a z k ∧ ((∃ b y i, vs = [.ref a, .ref b] ∧ Pl C H b y i ∧ Q (.bl (decide (z = y) && decide (k = i))) H) ∨ (∃ y, vs = [.ref a, y] ∧ Oty K C H y ∧ Q (.bl false) H))
def spAdd (C : Addr) : Sp := fun vs H Q _ => ∃ a z k i, vs = [.ref a, .int i] ∧ Pl C H a z k ∧ Good z k ∧ Good z (k + i) ∧ ∀ p H', H p = none → Same H H' → Pl C H' p z (k + i) → Q (.ref p) H'
theorem strlen_sign {k : Int} : (signS k).length = 2 := by
  unfold signS
  repeat' split
  all_goals decide +kernel
section
variable {P : Program} {w : World} {K : PySem.W.Frag} {mg : Str → Option Value} {base : Heap}
theorem scBase : FnScope ["self"] ["self"] (defScope (inClass sPlace 2)) := ⟨rfl, rfl, rfl, by decide +kernel, rfl, by decide +kernel, by decide +kernel⟩
theorem ok_base {f C : Addr} {fd : FuncData} (F : Fun K "base" "Place.base" (inClass sPlace 2) f fd) (T : Cpl K mg C) : FnOk P w K mg base CX0 1 f fd ["self"] (spBase C) := by
  refine F.ok scBase (fun vs H Q E h => ?_) (fun cdv A outer s H vs Q E hr h => ?_)
  · obtain ⟨a, z, k, rfl, _⟩ := h
    rfl
  · obtain ⟨a, z, k, rfl, ⟨dx, ha⟩, q⟩ := h
    exact ⟨_, pss_one (ps_ret (pe_fld (pv 0) rfl)), _, rfl, a, C, dx, _, _, rfl, ha, T.cl, T.nB, plF_base, q⟩
theorem scShift : FnScope ["self"] ["self"] (defScope (inClass sPlace 3)) := ⟨rfl, rfl, rfl, by decide +kernel, rfl, by decide +kernel, by decide +kernel⟩
theorem ok_shift {f C : Addr} {fd : FuncData} (F : Fun K "shift" "Place.shift" (inClass sPlace 3) f fd) (T : Cpl K mg C) : FnOk P w K mg base CX0 1 f fd ["self"] (spShift C) := by
  refine F.ok scShift (fun vs H Q E h => ?_) (fun cdv A outer s H vs Q E hr h => ?_)
  · obtain ⟨a, z, k, rfl, _⟩ := h
    rfl
  · obtain ⟨a, z, k, rfl, ⟨dx, ha⟩, q⟩ := h
    exact ⟨_, pss_one (ps_ret (pe_fld (pv 0) rfl)), _, rfl, a, C, dx, _, _, rfl, ha, T.cl, T.nS, plF_shift, q⟩
theorem scStr : FnScope ["self"] ["self"] (defScope (inClass sPlace 4)) := ⟨rfl, rfl, rfl, by decide +kernel, rfl, by decide +kernel, by decide +kernel⟩
theorem ok_str {f C : Addr} {fd : FuncData} (F : Fun K "__str__" "Place.__str__" (inClass sPlace 4) f fd) (T : Cpl K mg C) (D : Blp mg) : FnOk P w K mg base CX0 1 f fd ["self"] (spStr C) := by
  refine F.ok scStr (fun vs H Q E h => ?_) (fun cdv A outer s H vs Q E hr h => ?_)
  · obtain ⟨a, z, k, rfl, _⟩ := h
    rfl
  · obtain ⟨a, z, k, rfl, ⟨dx, ha⟩, g, q⟩ := h
    refine ⟨_, pss_cons (ps_if (pt_cmpR op_eq (pe_fld (pv 0) rfl) pe_str (nomark _)) (pss_one (ps_ret (pe_callTy call_str_int (by rfl) D.str (by decide +kernel) (pa_cons (pe_fld (pv 0) rfl) pa_nil)))) pss_nil)
      (pss_cons (ps_if (pt_cmpR op_eq (pe_fld (pv 0) rfl) pe_int (nomark _)) (pss_one (ps_ret (pe_joined1 (pe_fmt (pe_fld (pv 0) rfl))))) pss_nil)
      (pss_one (ps_ret (pe_joined (.cons (pe_fmt (pe_fld (pv 0) rfl)) (.cons (pe_fmtP (pe_fld (pv 0) rfl)) .nil)))))), ?_⟩
    have zl : z.length ≤ 1000 := g.1
    refine ⟨_, rfl, a, C, dx, _, _, rfl, ha, T.cl, T.nB, plF_base, rfl, _, rfl, ite2 (fun h1 => ?_) (fun h1 => ?_)⟩
    · have e : strP z k = Str.ofString (toString k) := if_pos (V.str.inj (of_decide_eq_true h1))
      rw [e] at q
      exact ⟨_, rfl, a, C, dx, _, _, rfl, ha, T.cl, T.nS, plF_shift, _, rfl, int_small g.lo g.hi, q⟩
    · have n1 : ¬ z = "" := fun x => h1 (decide_eq_true (by rw [x]))
      refine ⟨_, rfl, a, C, dx, _, _, rfl, ha, T.cl, T.nS, plF_shift, rfl, _, rfl, ite2 (fun h2 => ?_) (fun h2 => ?_)⟩
      · have e : strP z k = z := by
          unfold strP
          rw [if_neg n1, if_pos (V.int.inj (of_decide_eq_true h2))]
        rw [e] at q
        exact ⟨_, rfl, a, C, dx, _, _, rfl, ha, T.cl, T.nB, plF_base, .inl ⟨z, rfl, Nat.le_trans zl (by decide), q⟩⟩
      · have n2 : ¬ k = 0 := fun x => h2 (decide_eq_true (by rw [x]))
        have e : strP z k = "" ++ z ++ signS k := by
          unfold strP
          rw [if_neg n1, if_neg n2]
        rw [e] at q
        refine ⟨_, rfl, a, C, dx, _, _, rfl, ha, T.cl, T.nB, plF_base, .inl ⟨z, rfl, Nat.le_trans zl (by decide), z, rfl, ?_, ?_⟩⟩
        · rw [strLen_append]
          exact Nat.le_trans (Nat.add_le_add (show ("" : Str).length ≤ 0 by decide +kernel) zl) (by decide)
        · refine ⟨_, rfl, a, C, dx, _, _, rfl, ha, T.cl, T.nS, plF_shift, k, rfl, g.lo, g.hi, n2, signS k, rfl, ?_, q⟩
          rw [strLen_append, strLen_append, strlen_sign]
          exact Nat.le_trans (Nat.add_le_add_right (Nat.add_le_add (show ("" : Str).length ≤ 0 by decide +kernel) zl) 2) (by decide)
end
end Mz
set_option Elab.async false
set_option linter.all false
set_option maxRecDepth 100000
set_option maxHeartbeats 4000000
namespace Mz
open PySem PySem.Spec PyProof.Rows L2
section
variable {P : Program} {w : World} {K : PySem.W.Frag} {mg : Str → Option Value} {base : Heap}
/-- isinstance of a place and of no place -/
structure Pty (K : PySem.W.Frag) (C : Addr) : Prop where
  cl : Cls K C
  ha : PySem.W.findIn K (.ref C) "__class__" = some (some (.builtin "object.__class__"))
  hn : PySem.W.specialIn K (.builtin "object.__class__") "__get__" = some (some (.builtin "getset_descriptor.__get__"))
  htk : PySem.W.takesIn K (.builtin "object.__class__") = some true
  hm : PySem.W.mroIn K C (.type "object") = some true
theorem Pl.ty {C : Addr} {H : Hp} {a : Addr} {z : Str} {k : Int} (T : Pty K C) (h : Pl C H a z k) : TyX K H (.ref a) (.ref C) := by
  obtain ⟨dx, ha⟩ := h
  exact .base (.ins ha T.cl T.ha T.hn T.htk T.hm)
theorem kit_self {C : Addr} : PySem.W.kitOne K (.ref C) (.ref C) = some true := by
  unfold PySem.W.kitOne
  rw [if_pos (by simp)]
theorem scEq : FnScope ["self", "other"] ["self", "other"] (defScope (inClass sPlace 6)) := ⟨rfl, rfl, rfl, by decide +kernel, rfl, by decide +kernel, by decide +kernel⟩
theorem ok_eq {f C : Addr} {fd : FuncData} (F : Fun K "__eq__" "Place.__eq__" (inClass sPlace 6) f fd) (T : Cpl K mg C) (Y : Pty K C) (D : Blp mg) : FnOk P w K mg base CX0 1 f fd ["self", "other"] (spEq K C) := by
  refine F.ok scEq (fun vs H Q E h => ?_) (fun cdv A outer s H vs Q E hr h => ?_)
  · obtain ⟨a, z, k, _, ⟨b, y, i, rfl, _⟩ | ⟨y, rfl, _⟩⟩ := h
    · rfl
    · rfl
  · obtain ⟨a, z, k, pa, h⟩ := h
    refine ⟨_, pss_one (ps_ret (pe_and (pe_callB call_isi (by rfl) D.isi (by decide +kernel) (pa_cons (pv 1) (pa_cons (pe_glob (v := .ref C) rfl T.mgC rfl) pa_nil)))
      (pe_and (pe_cmpR op_eq (pe_fld (pv 0) rfl) (pe_fld (pv 1) rfl) (nomark _)) (pe_one (pe_cmpR op_eq (pe_fld (pv 0) rfl) (pe_fld (pv 1) rfl) (nomark _)))))), ?_⟩
    obtain ⟨dx, ha⟩ := id pa
    rcases h with ⟨b, y, i, rfl, pb, q⟩ | ⟨y, rfl, ⟨t, ty, kt⟩, q⟩
    · obtain ⟨dy, hb⟩ := id pb
      refine ⟨_, rfl, .ref b, .ref C, .ref C, .ref C, true, rfl, .own C, pb.ty Y, kit_self, true, rfl, iteT ?_⟩
      refine ⟨_, rfl, a, C, dx, _, _, rfl, ha, T.cl, T.nB, plF_base, _, rfl, b, C, dy, _, _, rfl, hb, T.cl, T.nB, plF_base, rfl, _, rfl, ite2 (fun h1 => ?_) (fun h1 => ?_)⟩
      · refine ⟨_, rfl, a, C, dx, _, _, rfl, ha, T.cl, T.nS, plF_shift, _, rfl, b, C, dy, _, _, rfl, hb, T.cl, T.nS, plF_shift, rfl, ?_⟩
        have e1 : z = y := V.str.inj (of_decide_eq_true h1)
        have e2 : decide (V.int k = V.int i) = decide (k = i) := decide_eq_decide.mpr ⟨fun x => V.int.inj x, fun x => by rw [x]⟩
        rw [decide_eq_true e1, Bool.true_and] at q
        rw [e2]
        exact q
      · have e1 : ¬ z = y := fun x => h1 (decide_eq_true (by rw [x]))
        rw [decide_eq_false e1, Bool.false_and] at q
        exact q
    · exact ⟨_, rfl, y, .ref C, t, .ref C, false, rfl, .own C, ty, kt, false, rfl, iteF q⟩
theorem scAdd : FnScope ["self", "other"] ["self", "other"] (defScope (inClass sPlace 7)) := ⟨rfl, rfl, rfl, by decide +kernel, rfl, by decide +kernel, by decide +kernel⟩
theorem ok_add {f f2 f3 fI C : Addr} {fd fd2 fd3 fdI : FuncData} {t : Tok} {g : List Value → List Value → List Value} (F : Fun K "__add__" "Place.__add__" (inClass sPlace 7) f fd) (T : Cpl K mg C)
    (G2 : FnOk P w K mg base CX0 2 f2 fd2 ["value", "low", "high"] (spIsInt K)) (m2 : mg "is_integer" = some (.ref f2)) (k2 : PySem.W.keepIn K (.ref f2) = true) (b2 : Binds K fd2 ["value", "low", "high"] [])
    (G3 : FnOk P w K mg base CX0 1 f3 fd3 ["base"] spLeast) (m3 : mg "_least_shift" = some (.ref f3)) (k3 : PySem.W.keepIn K (.ref f3) = true) (b3 : Binds K fd3 ["base"] [])
    (mM : mg "_MOST" = some (.int 3 t)) (M : Mk K C fI) (GI : FnOk P w K mg base CX0 3 fI fdI ["self", "base", "shift"] (spInit C)) (kI : KBn K fdI ["self", "base", "shift"] 2 ["shift"] g (fun vs zs => vs ++ zs)) :
    FnOk P w K mg base CX0 5 f fd ["self", "other"] (spAdd C) := by
  refine F.ok scAdd (fun vs H Q E h => ?_) (fun cdv A outer s H vs Q E hr h => ?_)
  · obtain ⟨a, z, k, i, rfl, _⟩ := h
    rfl
  · obtain ⟨a, z, k, i, rfl, ⟨dx, ha⟩, g1, g2, q⟩ := h
    refine ⟨_, PSs.nox (pss_cons (ps_if (pt_not (pt_val (pe_call G2 (hr.mono (by decide)) (by rfl) m2 k2 b2 .nil pass0 (pa_cons (pv 1) (pa_cons (pe_op op_sub (pe_call G3 (hr.mono (by decide)) (by rfl) m3 k3 b3 .nil pass0 (pa_cons (pe_fld (pv 0) rfl) pa_nil)) (pe_fld (pv 0) rfl))
        (pa_cons (pe_op op_sub (pe_glob (v := .int 3) rfl mM ⟨_, rfl⟩) (pe_fld (pv 0) rfl)) pa_nil)))))) (pss_one ps_never) pss_nil)
      (pss_one (ps_ret (pe_makeK M GI hr (by rfl) T.mgC kI pass0 (pa_cons (pe_fld (pv 0) rfl) pa_nil) (pk_cons (pe_op op_add (pe_fld (pv 0) rfl) (pv 1)) pk_nil))))), ?_⟩
    refine ⟨_, rfl, _, rfl, a, C, dx, _, _, rfl, ha, T.cl, T.nB, plF_base, z, rfl, _, rfl, a, C, dx, _, _, rfl, ha, T.cl, T.nS, plF_shift, _, _, rfl, rfl, ?_⟩
    refine ⟨_, rfl, a, C, dx, _, _, rfl, ha, T.cl, T.nS, plF_shift, _, _, rfl, rfl, .int i, _, _, rfl, .int i, _, rfl, ?_⟩
    have e : inB (lowS z - k) (3 - k) (.int i) = true := by
      have h1 := g2.2.2.2.1
      have h2 := g2.2.2.2.2
      show (decide (lowS z - k ≤ i) && decide (i ≤ 3 - k)) = true
      rw [decide_eq_true (by omega), decide_eq_true (by omega)]
      rfl
    rw [e]
    refine iteF ⟨_, rfl, a, C, dx, _, _, rfl, ha, T.cl, T.nB, plF_base, _, rfl, a, C, dx, _, _, rfl, ha, T.cl, T.nS, plF_shift, _, rfl, _, _, rfl, rfl, rfl, rfl, fun p dp np ndp nn => ?_⟩
    refine ⟨p, dp, z, k + i, rfl, upd_same, g2.1, g2.2.1, g2.2.2.1, g2.2.2.2.1, g2.2.2.2.2, fun H' u t' => ⟨rfl, q p H' np (fun r o hro => u r o (ne_of_none hro np) ?_) ⟨dp, t'⟩⟩⟩
    rw [upd_ne (ne_of_none hro np), upd_ne (ne_of_none hro ndp)]
    exact hro
end
end Mz
set_option Elab.async false
set_option linter.all false
set_option maxRecDepth 100000
set_option maxHeartbeats 4000000
namespace Mz
open PySem PySem.Spec PyProof.Rows L2
theorem sign_ok {z : Str} {c : Nat} (ok : PyData.strOk z = true) (h : c ∈ z.cps.toList) : PyData.strOk ⟨#[c]⟩ = true := by
  have h1 : c < 0x110000 := by
    unfold PyData.strOk at ok
    rw [Array.all_eq_true_iff_forall_mem] at ok
    exact of_decide_eq_true (ok c (Array.mem_toList_iff.mp h))
  unfold PyData.strOk
  simp only [Array.all_eq_true_iff_forall_mem]
  intro x hx
  have e : x = c := by simpa using hx
  rw [e]
  exact decide_eq_true h1
/-! texts of a bounded length, of signs that are some -/
def Sm (n : Nat) (z : Str) : Prop := z.length ≤ n ∧ PyData.strOk z = true
theorem strOk_iff {z : Str} : PyData.strOk z = true ↔ ∀ c ∈ z.cps.toList, c < 0x110000 := by
  unfold PyData.strOk
  rw [Array.all_eq_true_iff_forall_mem]
  exact ⟨fun h c hc => of_decide_eq_true (h c (Array.mem_toList_iff.mp hc)), fun h c hc => decide_eq_true (h c (Array.mem_toList_iff.mpr hc))⟩
theorem Sm.mono {n m : Nat} {z : Str} (h : Sm n z) (le : n ≤ m) : Sm m z := ⟨Nat.le_trans h.1 le, h.2⟩
theorem Sm.app {n m : Nat} {y z : Str} (hy : Sm n y) (hz : Sm m z) : Sm (n + m) (y ++ z) := by
  refine ⟨by rw [strLen_append]; exact Nat.add_le_add hy.1 hz.1, strOk_iff.mpr fun c hc => ?_⟩
  have hc2 : c ∈ (y.cps ++ z.cps).toList := hc
  rw [Array.toList_append] at hc2
  rcases List.mem_append.mp hc2 with e | e
  · exact strOk_iff.mp hy.2 c e
  · exact strOk_iff.mp hz.2 c e
theorem Sm.cut {n : Nat} {z : Str} (h : Sm n z) (lo hi : Option Int) : Sm n (cutS z lo hi) := by
  unfold cutS
  refine ⟨?_, strOk_iff.mpr fun c hc => ?_⟩
  · show ((z.cps.toList.drop _).take _).toArray.size ≤ n
    rw [List.size_toArray, List.length_take, List.length_drop]
    have e : z.cps.toList.length = z.length := rfl
    have := h.1
    omega
  · exact strOk_iff.mp h.2 c (List.mem_of_mem_drop (List.mem_of_mem_take hc))
theorem sm_sign {z : Str} {c : Nat} (ok : PyData.strOk z = true) (h : c ∈ z.cps.toList) : Sm 1 ⟨#[c]⟩ := ⟨Nat.le_refl _, sign_ok ok h⟩
theorem join_ok : ∀ l : List Str, (∀ y ∈ l, PyData.strOk y = true) → PyData.strOk (Str.join "" l) = true
  | [], _ => by decide +kernel
  | [x], h => h x List.mem_cons_self
  | x :: y :: r, h => by
    have h1 := h x List.mem_cons_self
    have h2 := join_ok (y :: r) fun z hz => h z (List.mem_cons_of_mem _ hz)
    show PyData.strOk (x ++ "" ++ Str.join "" (y :: r)) = true
    exact (Sm.app (Sm.app ⟨Nat.le_refl _, h1⟩ ⟨Nat.le_refl _, by decide +kernel⟩) ⟨Nat.le_refl _, h2⟩).2
theorem sum_ones : ∀ l : List Str, (∀ y ∈ l, Sm 1 y) → (l.map (·.length)).sum ≤ l.length
  | [], _ => Nat.le_refl _
  | x :: r, h => by
    have h1 := (h x List.mem_cons_self).1
    have h2 := sum_ones r fun z hz => h z (List.mem_cons_of_mem _ hz)
    rw [List.map_cons, List.sum_cons, List.length_cons]
    omega
theorem sm_join {l : List Str} (h : ∀ y ∈ l, Sm 1 y) : Sm l.length (Txt.join "" l) := by
  unfold Txt.join
  rw [StrLaws.glued_eq_join]
  refine ⟨?_, join_ok l fun y hy => (h y hy).2⟩
  have e := StrLaws.join_length_le "" l
  have e2 := sum_ones l h
  have e3 : l.length * ("" : Str).length = 0 := by
    rw [show ("" : Str).length = 0 by decide +kernel, Nat.mul_zero]
  omega
theorem atI_in {a : Type} {l : List a} {i : Int} (h0 : 0 ≤ i) (h1 : i < (l.length : Int)) : ∃ c, atI l i = some c ∧ c ∈ l := by
  obtain ⟨k, rfl⟩ := Int.eq_ofNat_of_zero_le h0
  have hk : k < l.length := by omega
  exact ⟨l[k], atI_nat (List.getElem?_eq_getElem hk), List.getElem_mem hk⟩
theorem str_empty {z : Str} (h : z.length = 0) : z = "" := by
  obtain ⟨l⟩ := z
  have e : l = #[] := Array.eq_empty_of_size_eq_zero h
  rw [e]
  rfl
theorem same_nw {H : Hp} {p : Addr} {o : HO} (h : H p = none) : Same H (upd H p o) := fun q u e => by
  rw [upd_ne (ne_of_none e h)]
  exact e
end Mz
set_option Elab.async false
set_option linter.all false
set_option maxRecDepth 100000
set_option maxHeartbeats 4000000
namespace Mz
open PySem PySem.Spec PyProof.Rows L2
def numS (z : Str) : Option Int := if z = "0" then some 0 else if z = "1" then some 1 else if z = "2" then some 2 else if z = "3" then some 3 else none
def shS (z : Str) : Option Int := if z = "-3" then some (-3) else if z = "-2" then some (-2) else if z = "-1" then some (-1) else if z = "+1" then some 1 else if z = "+2" then some 2 else if z = "+3" then some 3 else none
def headS (z : Str) : Str := cutS z none (some (-2))
def tailS (z : Str) : Str := cutS z (some (-2)) none
/-- what the program reads out of a text -/
def partsS (z : Str) : Option (Str × Int) :=
  match numS z with
  | some n => some ("", n)
  | none => if nameS z = true then some (z, 0) else if nameS (headS z) = true then (match shS (tailS z) with | some k => some (headS z, k) | none => none) else none
/-- a written dict from texts to ints -/
def Tab (K : PySem.W.Frag) (w : World) (d : Addr) (f : Str → Option Int) : Prop := ∃ es n, KDict K w d es n ∧ ∀ z : Str, ∃ r, PySem.W.nsIn K d z = some r ∧ ((f z = none ∧ r = none) ∨ ∃ i t, f z = some i ∧ r = some (.int i t))
def spParts : Sp := fun vs H Q _ => ∃ z : Str, vs = [.str z] ∧ Sm 1000 z ∧ (partsS z = none → ∀ H', Same H H' → Q .non H') ∧ ∀ y k, partsS z = some (y, k) → ∀ p H', Same H H' → H p = none → H' p = some (.tup [.str y, .int k]) → Q (.ref p) H'
section
variable {P : Program} {w : World} {K : PySem.W.Frag} {mg : Str → Option Value} {base : Heap}
theorem scParts : FnScope ["text"] ["text"] (defScope sParts) := ⟨rfl, rfl, rfl, by decide +kernel, rfl, by decide +kernel, by decide +kernel⟩
theorem ok_parts {f f1 dN dS : Addr} {fd fd1 : FuncData} (F : Fun K "_parts_of_text" "_parts_of_text" sParts f fd) (G : FnOk P w K mg base CX0 1 f1 fd1 ["value"] (spIsName K)) (m1 : mg "is_name" = some (.ref f1)) (k1 : PySem.W.keepIn K (.ref f1) = true) (b1 : Binds K fd1 ["value"] [])
    (mN : mg "_NUMBERS" = some (.ref dN)) (mS : mg "_SHIFTS" = some (.ref dS)) (tN : Tab K w dN numS) (tS : Tab K w dS shS) : FnOk P w K mg base CX0 2 f fd ["text"] spParts := by
  refine F.ok scParts (fun vs H Q E h => ?_) (fun cdv A outer s H vs Q E hr h => ?_)
  · obtain ⟨z, rfl, _⟩ := h
    rfl
  · obtain ⟨z, rfl, hz, qn, qs⟩ := h
    obtain ⟨esN, nN, DN, lN⟩ := tN
    obtain ⟨esS, nS, DS, lS⟩ := tS
    have zl : z.length ≤ sizeLine := Nat.le_trans hz.1 (by decide)
    refine ⟨_, pss_cons (ps_if (pt_cmpR (op_in_kd DN) (pv 0) (pe_glob (v := .ref dN) rfl mN rfl) (by rfl)) (pss_one (ps_ret (pe_tup (pa_cons pe_str (pa_cons (pe_ix ix_kdict (pe_glob (v := .ref dN) rfl mN rfl) (pv 0) (fun _ _ => rfl)) pa_nil))))) pss_nil)
      (pss_cons (ps_if (pt_val (pe_call G hr (by rfl) m1 k1 b1 .nil pass0 (pa_cons (pv 0) pa_nil))) (pss_one (ps_ret (pe_tup (pa_cons (pv 0) (pa_cons pe_int pa_nil))))) pss_nil)
      (pss_cons (ps_if (PW.pt (pw_and (pt_val (pe_call G hr (by rfl) m1 k1 b1 .nil pass0 (pa_cons (pe_slice sl_str (pv 0) po_none (po_some (pe_un un_neg pe_int))) pa_nil))) (pw_and1 (pt_cmpR (op_in_kd DS) (pe_slice sl_str (pv 0) (po_some (pe_un un_neg pe_int)) po_none) (pe_glob (v := .ref dS) rfl mS rfl) (by rfl)))))
          (pss_one (ps_ret (pe_tup (pa_cons (pe_slice sl_str (pv 0) po_none (po_some (pe_un un_neg pe_int))) (pa_cons (pe_ix ix_kdict (pe_glob (v := .ref dS) rfl mS rfl) (pe_slice sl_str (pv 0) (po_some (pe_un un_neg pe_int)) po_none) (fun _ _ => rfl)) pa_nil))))) pss_nil)
      (pss_one (ps_ret pe_non)))), ?_⟩
    have kd : ∀ {H' : Hp} {y : Str}, Sm 1000 y → Kd K H' (.str y) := fun h => .str _ h.1 h.2
    obtain ⟨r, er, hr1⟩ := lN z
    refine ⟨_, rfl, z, r, rfl, rfl, er, _, rfl, ?_⟩
    rcases hr1 with ⟨e, rfl⟩ | ⟨i, t, e, rfl⟩
    · refine iteF ?_
      refine ⟨_, rfl, .str z, rfl, kd hz, fun H1 s1 => ⟨_, rfl, ite2 (fun hn => ?_) (fun hn => ?_)⟩⟩
      · have ep : partsS z = some (z, 0) := by
          unfold partsS
          rw [e]
          exact if_pos hn
        exact ⟨_, rfl, (by show 2 ≤ sizeLine; decide), fun p np => qs z 0 ep p _ (s1.trans (same_nw np)) (s1.free np) upd_same⟩
      · have nn : ¬ nameS z = true := hn
        have sh := hz.cut none (some (-2))
        have st := hz.cut (some (-2)) none
        refine ⟨_, rfl, _, rfl, _, rfl, z, rfl, zl, .str (headS z), rfl, kd sh, fun H2 s2 => ⟨_, rfl, ite2 (fun hh => ?_) (fun hh => ?_)⟩⟩
        · have nh : nameS (headS z) = true := hh
          obtain ⟨r, er, hr2⟩ := lS (tailS z)
          refine ⟨_, rfl, _, rfl, _, rfl, z, rfl, zl, tailS z, r, rfl, rfl, er, _, rfl, ?_⟩
          rcases hr2 with ⟨e2, rfl⟩ | ⟨i, t, e2, rfl⟩
          · refine iteF (qn ?_ H2 (s1.trans s2))
            unfold partsS
            rw [e]
            show (if nameS z = true then _ else _) = _
            rw [if_neg nn, if_pos nh, e2]
          · have ep : partsS z = some (headS z, i) := by
              unfold partsS
              rw [e]
              show (if nameS z = true then _ else _) = _
              rw [if_neg nn, if_pos nh, e2]
            refine iteT ⟨_, rfl, _, rfl, _, rfl, z, rfl, zl, ?_⟩
            refine ⟨_, rfl, _, rfl, _, rfl, z, rfl, zl, dS, tailS z, .int i, rfl, rfl, ⟨_, _, _, DS.at_, DS.lit, er, ⟨t, rfl⟩⟩, (by show 2 ≤ sizeLine; decide), fun p np => ?_⟩
            exact qs _ _ ep p _ ((s1.trans s2).trans (same_nw np)) ((s1.trans s2).free np) upd_same
        · refine qn ?_ H2 (s1.trans s2)
          unfold partsS
          rw [e]
          show (if nameS z = true then _ else _) = _
          rw [if_neg nn]
          exact if_neg hh
    · have ep : partsS z = some (("" : Str), i) := by
        unfold partsS
        rw [e]
      refine iteT ⟨_, rfl, dN, z, .int i, rfl, rfl, ⟨_, _, _, DN.at_, DN.lit, er, ⟨t, rfl⟩⟩, (by show 2 ≤ sizeLine; decide), fun p np => ?_⟩
      exact qs _ _ ep p _ (same_nw np) np upd_same
end
end Mz
set_option Elab.async false
set_option linter.all false
set_option maxRecDepth 100000
set_option maxHeartbeats 4000000
namespace Mz
open PySem PySem.Spec PyProof.Rows L2
/-- the types of int, bool, str, None are no places -/
structure Npl (K : PySem.W.Frag) (C : Addr) : Prop where
  int : PySem.W.kitOne K (.type "int") (.ref C) = some false
  bool : PySem.W.kitOne K (.type "bool") (.ref C) = some false
  str : PySem.W.kitOne K (.type "str") (.ref C) = some false
  non : PySem.W.kitOne K (.type "NoneType") (.ref C) = some false
/-- a value that is no place -/
def NoPl (K : PySem.W.Frag) (C : Addr) (H : Hp) (v : V) : Prop := Kd K H v ∧ Oty K C H v
/-- what a value that is no place reads as -/
def ofV : V → Option (Str × Int)
  | .int i => if 0 ≤ i ∧ i ≤ 3 then some ("", i) else none
  | .str z => partsS z
  | _ => none
/-- the exception's class, as the written part has it -/
structure Xcl (K : PySem.W.Frag) (mg : Str → Option Value) (x : Str) (C : Addr) (f : Str) : Prop where
  ox : OexC K C
  no : PySem.W.findIn K (.ref C) f = some none
  m : mg x = some (.ref C)
  xf : XfC K C
def spOf (K : PySem.W.Frag) (C cX : Addr) : Sp := fun vs H Q E => ∃ v, vs = [.ref C, v] ∧
  ((∃ a z k, v = .ref a ∧ Pl C H a z k ∧ Q v H) ∨
    (NoPl K C H v ∧ (∀ z k, ofV v = some (z, k) → ∀ p H', H p = none → Same H H' → Pl C H' p z k → Good z k → Q (.ref p) H') ∧
      (ofV v = none → ∀ d H', H d = none → Same H H' → H' d = some (.xd [("value", v)]) → E (.ref cX) (some d) H')))
theorem good_num {i : Int} (h0 : 0 ≤ i) (h1 : i ≤ 3) : Good "" i := ⟨by decide +kernel, by decide +kernel, .inl rfl, h0, h1⟩
theorem low_name {z : Str} (h : nameS z = true) : lowS z = -3 := if_neg fun e => by
  rw [e] at h
  exact absurd h (by decide +kernel)
theorem good_name {z : Str} {k : Int} (hz : Sm 1000 z) (h : nameS z = true) (h0 : -3 ≤ k) (h1 : k ≤ 3) : Good z k := ⟨hz.1, hz.2, .inr h, by rw [low_name h]; exact h0, h1⟩
theorem numS_rng {z : Str} {n : Int} (h : numS z = some n) : 0 ≤ n ∧ n ≤ 3 := by
  unfold numS at h
  repeat' split at h
  all_goals first | (cases h; omega) | cases h
theorem shS_rng {z : Str} {n : Int} (h : shS z = some n) : -3 ≤ n ∧ n ≤ 3 := by
  unfold shS at h
  repeat' split at h
  all_goals first | (cases h; omega) | cases h
theorem parts_good {z y : Str} {k : Int} (hz : Sm 1000 z) (h : partsS z = some (y, k)) : Good y k := by
  unfold partsS at h
  cases e : numS z with
  | some n =>
    rw [e] at h
    cases h
    exact good_num (numS_rng e).1 (numS_rng e).2
  | none =>
    rw [e] at h
    dsimp only at h
    by_cases hn : nameS z = true
    · rw [if_pos hn] at h
      cases h
      exact good_name hz hn (by decide) (by decide)
    · rw [if_neg hn] at h
      by_cases hh : nameS (headS z) = true
      · rw [if_pos hh] at h
        cases e2 : shS (tailS z) with
        | none =>
          rw [e2] at h
          cases h
        | some i =>
          rw [e2] at h
          cases h
          exact good_name (hz.cut _ _) hh (shS_rng e2).1 (shS_rng e2).2
      · rw [if_neg hh] at h
        cases h
section
variable {P : Program} {w : World} {K : PySem.W.Frag} {mg : Str → Option Value} {base : Heap}
theorem scXinit : FnScope ["self", "value"] ["self", "value"] (defScope (inClass sInvPlace 0)) := ⟨rfl, rfl, rfl, by decide +kernel, rfl, by decide +kernel, by decide +kernel⟩
theorem ok_xinit {f C cM : Addr} {fd : FuncData} (F : Fun K "__init__" "InvalidPlace.__init__" (inClass sInvPlace 0) f fd) (T : Xcl K mg "InvalidPlace" C "value") (mM : mg "MapError" = some (.ref cM)) (rd : ClX.CRead K cM (.type "type"))
    (fc : PySem.W.findCls K (.ref cM) (.type "type") "__init__" = some (.val (.builtin "ValueError.__init__"))) : FnOk P w K mg base CX0 1 f fd ["self", "value"] (spX1 K C "value") := by
  refine F.ok scXinit (fun vs H Q E h => ?_) (fun cdv A outer s H vs Q E hr h => ?_)
  · obtain ⟨a, v, rfl, _⟩ := h
    rfl
  · obtain ⟨a, v, rfl, ha, q⟩ := h
    refine ⟨_, pss_cons (ps_expr (pe_meinit (by rfl) mM rd fc (pa_cons (pv 0) (pa_cons pe_str pa_nil)))) (pss_one (ps_ost (pv 0) (pv 1))), ?_⟩
    refine ⟨_, rfl, a, C, _, rfl, (by show 1 ≤ 1000; decide), T.ox, ha, ?_⟩
    exact ⟨_, rfl, _, rfl, a, C, rfl, T.ox, T.no, .inl ⟨ha, fun dx n1 n2 => q dx n1 n2⟩⟩
theorem scOf : FnScope ["cls", "value", "parts", "base", "shift"] ["cls", "value"] (defScope (inClass sPlace 1)) := ⟨rfl, rfl, rfl, by decide +kernel, rfl, by decide +kernel, by decide +kernel⟩
theorem ok_of {f f2 fp fI C cX fX : Addr} {fd fd2 fdp fdI fdX : FuncData} {t : Tok} {g1 g2 : List Value → List Value → List Value} (F : Fun K "of" "Place.of" (inClass sPlace 1) f fd) (T : Cpl K mg C) (Y : Pty K C) (N : Npl K C) (B : Blt mg) (D : Blp mg)
    (G2 : FnOk P w K mg base CX0 2 f2 fd2 ["value", "low", "high"] (spIsInt K)) (m2 : mg "is_integer" = some (.ref f2)) (k2 : PySem.W.keepIn K (.ref f2) = true) (b2 : Binds K fd2 ["value", "low", "high"] [])
    (Gp : FnOk P w K mg base CX0 2 fp fdp ["text"] spParts) (mp : mg "_parts_of_text" = some (.ref fp)) (kp : PySem.W.keepIn K (.ref fp) = true) (bp : Binds K fdp ["text"] [])
    (mM : mg "_MOST" = some (.int 3 t)) (M : Mk K C fI) (GI : FnOk P w K mg base CX0 3 fI fdI ["self", "base", "shift"] (spInit C)) (kI1 : KBn K fdI ["self", "base", "shift"] 1 ["shift"] g1 (fun vs zs => vs ++ [.str ""] ++ zs)) (kI2 : KBn K fdI ["self", "base", "shift"] 2 ["shift"] g2 (fun vs zs => vs ++ zs))
    (TX : Xcl K mg "InvalidPlace" cX "value") (GX : FnOk P w K mg base CX0 1 fX fdX ["self", "value"] (spX1 K cX "value")) (iX : PySem.W.findIn K (.ref cX) "__init__" = some (some (.ref fX))) (tX : PySem.W.typeIn K (.ref fX) = some (.type "function")) (bX : Binds K fdX ["self", "value"] []) :
    FnOk P w K mg base (L2.CX P w) 5 f fd ["cls", "value"] (spOf K C cX) := by
  refine F.okX scOf (fun vs H Q E h => ?_) (fun cdv A outer s H vs Q E hr h => ?_)
  · obtain ⟨v, rfl, _⟩ := h
    rfl
  · obtain ⟨v, rfl, h⟩ := h
    have nd := scOf.nd
    have hr2 : Room 2 _ := hr.mono (by decide)
    refine ⟨_, pss_cons (ps_if (pt_val (pe_callB call_isi (by rfl) D.isi (by decide +kernel) (pa_cons (pv 1) (pa_cons (pe_glob (v := .ref C) rfl T.mgC rfl) pa_nil)))) (pss_one (ps_ret (pv 1))) pss_nil)
      (pss_cons (ps_if (pt_val (pe_call G2 hr2 (by rfl) m2 k2 b2 .nil pass0 (pa_cons (pv 1) (pa_cons pe_int (pa_cons (pe_glob (v := .int 3) rfl mM ⟨_, rfl⟩) pa_nil))))) (pss_one (ps_ret (pe_makeL0 (i := 0) rfl (.inl rfl) M GI hr kI1 pass0 (pk_cons (pv 1) pk_nil)))) pss_nil)
      (pss_cons (ps_set (i := 2) nd rfl (Or.inl rfl) (pe_ifExp (pt_val (pe_callB call_isi (by rfl) D.isi (by decide +kernel) (pa_cons (pv 1) (pa_cons (pe_bltn (v := .ty "str") (by rfl) D.str (by decide +kernel) rfl) pa_nil))))
        (pe_call Gp hr2 (by rfl) mp kp bp .nil pass0 (pa_cons (pv 1) pa_nil)) pe_non))
      (pss_cons (ps_if (pt_cmpR op_isN (pv 2) pe_non (nomark _)) (pss_one (ps_raise rfl (takes_of rfl rfl rfl rfl) (pmk_oex TX.ox iX tX GX (hr.mono (by decide)) bX .nil pass0 (by rfl) TX.m (pa_cons (pv 1) pa_nil)))) pss_nil)
      (pss_cons (ps_asg (pv 2) (pg_tup (by rfl) (pgs_cons (pg_name (i := 3) nd rfl (.inl rfl)) (pgs_cons (pg_name (i := 4) nd rfl (.inl rfl)) pgs_nil))))
      (pss_one (ps_ret (pe_makeL (i := 0) rfl (.inl rfl) M GI hr kI2 pass0 (pa_cons (pv 3) pa_nil) (pk_cons (pv 4) pk_nil)))))))), ?_⟩
    generalize hT4 : tSeq (tIfS (tTest _) (fun _ _ _ => _) _) _ = T4
    have made : ∀ (H1 : Hp), Same H H1 → ∀ y k, Good y k → (∀ p H', H p = none → Same H H' → Pl C H' p y k → Q (.ref p) H') → ∀ x dx, H1 x = none → H1 dx = none → dx ≠ x →
        spInit C [.ref x, .str y, .int k] (upd (upd H1 dx (.own x)) x (.ins C dx [])) (fun v H2 => v = .non ∧ Q (.ref x) H2) E0 := by
      intro H1 s1 y k g qq x dx nx ndx nn
      refine ⟨x, dx, y, k, rfl, upd_same, g.1, g.2.1, g.2.2.1, g.2.2.2.1, g.2.2.2.2, fun H' u t' => ⟨rfl, qq x H' (s1.free nx) (fun r o hro => u r o (ne_of_none (s1 _ _ hro) nx) ?_) ⟨dx, t'⟩⟩⟩
      rw [upd_ne (ne_of_none (s1 _ _ hro) nx), upd_ne (ne_of_none (s1 _ _ hro) ndx)]
      exact s1 _ _ hro
    have rest0 : ∀ H1, Same H H1 → (∀ d H', H d = none → Same H H' → H' d = some (.xd [("value", v)]) → E (.ref cX) (some d) H') → T4 { nx := fun _ H' => Q .non H', rt := Q } [some (.ref C), some v, some .non, none, none] H1 := by
      intro H1 s1 qE
      rw [← hT4]
      refine ⟨_, rfl, rfl, _, rfl, ite2 (fun _ => ?_) (fun x => (x (decide_eq_true rfl)).elim)⟩
      refine ⟨_, rfl, (by show 1 ≤ 1000; decide), fun a na => ⟨a, v, rfl, upd_same, fun dx n1 n2 => ⟨rfl, dx, [("value", v)], upd_same, ?_, ?_, ?_⟩⟩⟩
      · rw [upd_ne n2, upd_same]
      · rw [upd_ne n2] at n1
        exact n1
      · have n3 : H1 dx = none := by
          rw [upd_ne n2] at n1
          exact n1
        refine qE dx _ (s1.free n3) (fun b o hb => ?_) upd_same
        have x1 : b ≠ dx := ne_of_none (s1 _ _ hb) n3
        have x2 : b ≠ a := ne_of_none (s1 _ _ hb) na
        rw [upd_ne x1, del_ne x2, upd_ne x2, upd_ne x1, upd_ne x2]
        exact s1 _ _ hb
    have rest1 : ∀ H1 p y k, Same H H1 → H1 p = some (.tup [.str y, .int k]) → Good y k → (∀ p H', H p = none → Same H H' → Pl C H' p y k → Q (.ref p) H') → T4 { nx := fun _ H' => Q .non H', rt := Q } [some (.ref C), some v, some (.ref p), none, none] H1 := by
      intro H1 p y k s1 hp g qq
      rw [← hT4]
      refine ⟨_, rfl, rfl, _, rfl, ite2 (fun x => ?_) (fun _ => ?_)⟩
      · cases of_decide_eq_true x
      · refine ⟨_, rfl, p, _, rfl, SqT.of hp, rfl, ?_⟩
        exact ⟨_, _, rfl, _, _, rfl, rfl, rfl, _, rfl, _, rfl, rfl, rfl, made H1 s1 y k g qq⟩
    clear hT4
    refine ⟨_, rfl, ?_⟩
    rcases h with ⟨a, z, k, rfl, pa, q⟩ | ⟨⟨hk, t0, ty0, kt0⟩, qs, qE⟩
    · exact ⟨.ref a, .ref C, .ref C, .ref C, true, rfl, .own C, pa.ty Y, kit_self, true, rfl, iteT ⟨_, rfl, q⟩⟩
    · refine ⟨v, .ref C, t0, .ref C, false, rfl, .own C, ty0, kt0, false, rfl, iteF ?_⟩
      refine ⟨_, rfl, v, 0, 3, rfl, hk, _, rfl, ?_⟩
      cases hk with
      | int i =>
        refine ite2 (fun hc => ?_) (fun hc => ?_)
        · have hc2 : (decide (0 ≤ i) && decide (i ≤ 3)) = true := hc
          obtain ⟨h1, h2⟩ := Bool.and_eq_true_iff.mp hc2
          have h1 := of_decide_eq_true h1
          have h2 := of_decide_eq_true h2
          have e : ofV (.int i) = some (("" : Str), i) := if_pos ⟨h1, h2⟩
          exact ⟨rfl, _, rfl, rfl, rfl, made H (Same.refl H) "" i (good_num h1 h2) fun p H' n1 n2 n3 => qs "" i e p H' n1 n2 n3 (good_num h1 h2)⟩
        · have e : ofV (.int i) = none := if_neg fun x => hc (by
            show (decide (0 ≤ i) && decide (i ≤ 3)) = true
            rw [decide_eq_true x.1, decide_eq_true x.2]
            rfl)
          exact ⟨_, rfl, _, _, _, _, false, rfl, .ty _, .base (.int i), kit_ty (by decide +kernel), false, rfl, iteF (rest0 H (Same.refl H) (qE e))⟩
      | bl b => exact iteF ⟨_, rfl, _, _, _, _, false, rfl, .ty _, .base (.bl b), kit_ty (by decide +kernel), false, rfl, iteF (rest0 H (Same.refl H) (qE rfl))⟩
      | non => exact iteF ⟨_, rfl, _, _, _, _, false, rfl, .ty _, .base .non, kit_ty (by decide +kernel), false, rfl, iteF (rest0 H (Same.refl H) (qE rfl))⟩
      | oth a t ty ki ks => exact iteF ⟨_, rfl, _, _, _, _, false, rfl, .ty _, ty, ks, false, rfl, iteF (rest0 H (Same.refl H) (qE rfl))⟩
      | str z hz ok =>
        refine iteF ⟨_, rfl, _, _, _, _, true, rfl, .ty _, .base (.str z), kit_ty (by decide +kernel), true, rfl, iteT ⟨_, rfl, z, rfl, ⟨hz, ok⟩, fun e H1 s1 => rest0 H1 s1 (qE e), fun y k e p H1 s1 np hp => ?_⟩⟩
        have g := parts_good ⟨hz, ok⟩ e
        exact rest1 H1 p y k s1 hp g fun p H' n1 n2 n3 => qs y k e p H' n1 n2 n3 g
end
end Mz
set_option Elab.async false
set_option linter.all false
set_option maxRecDepth 100000
set_option maxHeartbeats 4000000
namespace Mz
open PySem PySem.Spec PyProof.Rows L2
/-! letters, by order and by the alphabet -/
def loC (c : Nat) : Bool := !decide ((⟨#[c]⟩ : Str).cps.toList < ("a" : Str).cps.toList)
def hiC (c : Nat) : Bool := !decide (("z" : Str).cps.toList < (⟨#[c]⟩ : Str).cps.toList)
theorem abc_range : abc.cps.toList = List.range' 97 26 := by decide +kernel
theorem one_lt (a b : Nat) : ([a] : List Nat) < [b] ↔ a < b := by
  rw [List.cons_lt_cons_iff]
  simp
theorem letter_eq (c : Nat) : (loC c && hiC c) = decide (c ∈ abc.cps.toList) := by
  have e1 : loC c = decide (97 ≤ c) := by
    unfold loC
    rw [show ("a" : Str).cps.toList = [97] by decide +kernel]
    show (!decide (([c] : List Nat) < [97])) = _
    rw [decide_eq_decide.mpr (one_lt c 97)]
    by_cases h : c < 97
    · rw [decide_eq_true h, decide_eq_false (by omega)]; rfl
    · rw [decide_eq_false h, decide_eq_true (by omega)]; rfl
  have e2 : hiC c = decide (c ≤ 122) := by
    unfold hiC
    rw [show ("z" : Str).cps.toList = [122] by decide +kernel]
    show (!decide (([122] : List Nat) < [c])) = _
    rw [decide_eq_decide.mpr (one_lt 122 c)]
    by_cases h : 122 < c
    · rw [decide_eq_true h, decide_eq_false (by omega)]; rfl
    · rw [decide_eq_false h, decide_eq_true (by omega)]; rfl
  rw [e1, e2, abc_range, ← Bool.decide_and]
  refine decide_eq_decide.mpr ?_
  rw [List.mem_range'_1]
  omega
theorem dp_strs {K : PySem.W.Frag} {H : Hp} : ∀ l : List Str, DpAll K H (l.map V.str) (l.map PyData.str)
  | [] => .nil
  | z :: l => .cons (.str z) (dp_strs l)
theorem strs_lay : ∀ l : List Str, (∀ z ∈ l, PyData.strOk z = true) → PyData.canLayAll0 (l.map PyData.str) = true ∧ PyData.depthAll (l.map PyData.str) = 0
  | [], _ => ⟨rfl, rfl⟩
  | z :: l, ok => by
    obtain ⟨h1, h2⟩ := strs_lay l fun y hy => ok y (List.mem_cons_of_mem _ hy)
    have h3 := ok z List.mem_cons_self
    rw [List.map_cons]
    refine ⟨?_, ?_⟩
    · simp [PyData.canLayAll0, PyData.canLay0, h1, h3]
    · simp [PyData.depthAll, PyData.depth, h2]
theorem shaped_strs (l : List Str) (ok : ∀ z ∈ l, PyData.strOk z = true) : SeqAt.shaped (.list (l.map PyData.str)) = true := by
  obtain ⟨h1, h2⟩ := strs_lay l ok
  unfold SeqAt.shaped
  simp [PyData.canLay0, PyData.depth, h1, h2]
theorem eqv_nil {xs : List PyData} : PyData.eqv (.list xs) (.list []) = xs.isEmpty := by
  cases xs <;> rfl
end Mz
set_option Elab.async false
set_option linter.all false
set_option maxRecDepth 100000
set_option maxHeartbeats 4000000
/-! a class called in a try: what is raised is wished for at the caller's slots -/
namespace Mz
open PySem PySem.Spec PyProof.Rows L2
section
variable {X : Cx} {CX : CXT} {k n : Nat} {f C : Addr} {fd : FuncData} {ps ks : List Str} {sp : Sp} {x : Str} {p pos : Pos} {e : Expr} {es : List Expr} {kws : List Keyword} {t tk : TA} {g : List Value → List Value → List Value} {gV : List V → List V → List V}
theorem run_makeKS {E : XK} {pins : List (Addr × Obj)} {σ : L2.St} {H : Hp} {s : Shared} {Q : VK} {us ws : List Value} {vs zs : List V} (M : Mk X.K C f) (F : FnOk X.prog X.w X.K X.mg X.base CX k f fd ps sp) (hr : Room (k + 1) X.A) (hb : KBn X.K fd ps (n + 1) ks g gV) (hx : PassesAt CX X σ E)
    (I : Inv X pins σ H s) (r : Vals vs us) (rz : Vals zs ws) (l1 : vs.length = n) (l2 : zs.length = ks.length)
    (h : ∀ x dx, H x = none → H dx = none → dx ≠ x → sp (gV (.ref x :: vs) zs) (upd (upd H dx (.own x)) x (.ins C dx [])) (fun v H2 => v = .non ∧ Q (.ref x) H2) E) :
    wpAny (model X.prog X.w) X.A (call (.ref C) us (ks.zip ws)) (EP X pins σ Q) X.xe s := by
  have hq := h (s.heap.objs.size + 1) s.heap.objs.size (I.hok.fresh (Nat.le_succ _)) (I.hok.fresh (Nat.le_refl _)) (Nat.ne_of_lt (Nat.lt_succ_self _))
  have I2 := Inv.made (C := C) I
  have r1 : Vals (V.ref (s.heap.objs.size + 1) :: vs) (Value.ref (s.heap.objs.size + 1) :: us) := .cons rfl r
  have r2 := hb.rel r1 rz
  have n1 : (Value.ref (s.heap.objs.size + 1) :: us).length = n + 1 := by
    rw [List.length_cons, ← r.length, l1]
  refine wpAny_call (make_map (f := f) I.kIn M.makes M.init (beq_iff_eq.mp M.fn) (codeAny_mono (F.run _ X.stack _ _ ⟨Value.ref (s.heap.objs.size + 1) :: us, ks.zip ws⟩ (g (Value.ref (s.heap.objs.size + 1) :: us) ws) _ _ E (hr.make C us (ks.zip ws))
    (I2.env0.make C us (ks.zip ws)) (hb.to _ (Value.ref (s.heap.objs.size + 1) :: us) ws I2.kIn n1 (rz.length.symm.trans l2)) r2 hq) fun r s' hq' => ?_))
  cases r with
  | error e => exact hx pins _ _ e s' I2 hq'
  | ok fl =>
    cases fl with
    | ret u =>
      obtain ⟨v, H', I3, rv, ev, q3⟩ := I2.after hq'
      subst ev
      exact ⟨rv, ⟨V.ref (s.heap.objs.size + 1), H', I3, rfl, q3⟩⟩
    | next => exact False.elim hq'
    | brk => exact False.elim hq'
    | cont => exact False.elim hq'
/-- C(e, .., k = v, ..) -/
theorem pe_makeKS {ES : L2.St → XK} (M : Mk X.K C f) (F : FnOk X.prog X.w X.K X.mg X.base CX k f fd ps sp) (hr : Room (k + 1) X.A) (hg : Gl X x) (hm : X.mg x = some (.ref C)) (hb : KBn X.K fd ps (n + 1) ks g gV) (hx : ∀ σ, PassesAt CX X σ (ES σ)) (ha : PA X (e :: es) t) (hkw : PK X kws tk)
    (hall : (backToKw pos (keywordEach kws X.env)).all (·.1.isSome) = true := by rfl) (hks : (backToKw pos (keywordEach kws X.env)).filterMap (·.1) = ks := by rfl) (hdb : (x == ("__debug__" : Str)) = false := by decide)
    (he : starEach (e :: es) X.env = (false, eval e X.env) :: starEach es X.env := by rfl) (hpl : ((backTo pos (starEach (e :: es) X.env)).any (·.1) || (backToKw pos (keywordEach kws X.env)).any (·.1.isNone)) = false := by rfl) :
    PE X (.Call (.Name x p) (e :: es) kws pos) (fun σ H Q => tMakeK C n ks.length sp gV (ES σ) t tk σ H Q) := by
  refine ⟨fun pins s σ H Q I h => ?_⟩
  refine wpAny_Call_Name_kw (ld_glob I hg hm ?_ hdb)
  refine PySem.W.callWith_KW (h₀ := X.base) I.ok.mod.kin M.kp hall (thn (ha.run pos pins s σ H _ I h) fun us s1 ⟨vs, H1, I1, r, q⟩ => ?_) hpl he
  refine thn (hkw.run pos pins s1 σ H1 _ I1 q) fun ws s2 ⟨zs, H2, I2, rz, l1, l2, q2⟩ => ⟨I2.kIn, ?_⟩
  rw [hks]
  exact run_makeKS M F hr hb (hx σ) I2 r rz l1 l2 q2
/-- f"{x}", x an instance with an own __str__ -/
theorem pe_fmtO {j : Nat} {te : TE} (he : PE X e te) (F : FnOk X.prog X.w X.K X.mg X.base CX0 j f fd ["self"] sp) (hr : Room (j + 2) X.A) (hb : Binds X.K fd ["self"] []) (hs : PySem.W.findIn X.K (.ref C) "__str__" = some (some (.ref f))) (hf : PySem.W.isFn X.K (.ref f) = true)
    (hfm : PySem.W.findIn X.K (.ref C) "__format__" = some (some (.builtin "object.__format__"))) (hm : PySem.W.mroIn X.K C (.type "object") = some true) :
    PE X (.FormattedValue e (-1) none pos) (fun σ H Q => te σ H fun x H1 => ∃ a dx fs, x = .ref a ∧ H1 a = some (.ins C dx fs) ∧ sp [.ref a] H1 (fun v H2 => ∃ z : Str, v = .str z ∧ z.length ≤ sizeLine ∧ Q (.str z) H2) E0) := by
  refine ⟨fun pins s σ H Q I h => ?_⟩
  refine wpAny_FormattedValue_plain (thn (he.run pins s σ H _ I h) fun v s1 hv => ?_)
  obtain ⟨x, H1, I1, r1, a, dx, fs, rfl, ha, q⟩ := hv
  obtain rfl : v = Value.ref a := r1
  obtain ⟨mA, O, _⟩ := ins_get I1.hok ha
  obtain ⟨od, J, _⟩ := O.look
  refine PySem.W.kfo_fieldS hr.in1.units0 I1.kIn J hfm hm hs hf ?_
  refine wpAny_mono (run_at (E := E0) (E2 := X.xe) (vs := [.ref a]) (us := [.ref a]) (F.mono (Nat.le_refl _)) (hr.in1.mono (Nat.le_succ _)) (I1.tok _).env0.in1 hb (fun _ _ z => z.elim) (I1.tok _) (.cons rfl .nil) q) (fun u s2 hv => ?_) fun _ _ z => z
  obtain ⟨w, H2, I2, rv, z, rfl, _, q2⟩ := hv
  obtain ⟨tk, rfl⟩ := rv
  exact ⟨.str z, H2, I2, ⟨tk, rfl⟩, q2⟩
end
end Mz
set_option Elab.async false
set_option linter.all false
set_option maxRecDepth 100000
set_option maxHeartbeats 4000000
namespace Mz
open PySem PySem.Spec PyProof.Rows L2
theorem pos_len {z : Str} (h : ¬ z = "") : 0 < z.length := Nat.pos_of_ne_zero fun x => h (str_empty x)
theorem int_fits {i : Int} (h0 : 0 ≤ i) (h1 : i < 12) : i.natAbs.log2 < 1920 := by
  have h : i.natAbs < 2 ^ 4 := by omega
  exact Nat.lt_trans (PySem.Flt.log2_lt_of (by decide) h) (by decide)
theorem sm_str12 {i : Int} (h0 : 0 ≤ i) (h1 : i < 12) : Sm 100 (Str.ofString (toString i)) := by
  obtain ⟨k, rfl⟩ := Int.eq_ofNat_of_zero_le h0
  have hk : k < 12 := by omega
  have all : ∀ k : Fin 12, Sm 100 (Str.ofString (toString ((k.val : Nat) : Int))) := by
    unfold Sm
    decide +kernel
  exact all ⟨k, hk⟩
/-- repr of data or of a text with a dict -/
def rReprU (K : PySem.W.Frag) : List V → Hp → VK → Prop := fun xs H Q => rReprD K xs H Q ∨ rRepr2 xs H Q
theorem call_reprU {X : Cx} (g0 : X.A.guards = some []) (hu : X.A.units + 64 < cLine) : CallR X (.builtin "repr") (rReprU X.K) := by
  intro pins s σ H xs us Q I r h
  rcases h with h | h
  · exact call_reprD g0 hu pins s σ H xs us Q I r h
  · exact call_repr2 g0 hu pins s σ H xs us Q I r h
theorem list2_len (a b : Str) : (listText [a, b]).length = a.length + b.length + 4 := by
  show ((("[" ++ ((if 0 > 0 then ", " else "" : String) : Str) ++ a) ++ ((if 1 > 0 then ", " else "" : String) : Str) ++ b) ++ "]" : Str).length = _
  rw [if_neg (by decide), if_pos (by decide)]
  simp only [strLen_append]
  have e1 : (("[" : String) : Str).length = 1 := by decide +kernel
  have e2 : (("" : String) : Str).length = 0 := by decide +kernel
  have e3 : ((", " : String) : Str).length = 2 := by decide +kernel
  have e4 : (("]" : String) : Str).length = 1 := by decide +kernel
  rw [e1, e2, e3, e4]
  omega
theorem list3_len (a b c : Str) : (listText [a, b, c]).length = a.length + b.length + c.length + 6 := by
  show (((("[" ++ ((if 0 > 0 then ", " else "" : String) : Str) ++ a) ++ ((if 1 > 0 then ", " else "" : String) : Str) ++ b) ++ ((if 2 > 0 then ", " else "" : String) : Str) ++ c) ++ "]" : Str).length = _
  rw [if_neg (by decide), if_pos (by decide), if_pos (by decide)]
  simp only [strLen_append]
  have e1 : (("[" : String) : Str).length = 1 := by decide +kernel
  have e2 : (("" : String) : Str).length = 0 := by decide +kernel
  have e3 : ((", " : String) : Str).length = 2 := by decide +kernel
  have e4 : (("]" : String) : Str).length = 1 := by decide +kernel
  rw [e1, e2, e3, e4]
  omega
theorem repr_len {z : Str} {n : Nat} (h : Sm n z) : (reprText z).length ≤ 10 * n + 2 := by
  have h1 := StrLaws.reprText_len z fun c hc => Nat.lt_trans (strOk_iff.mp h.2 c hc) (by decide)
  have h2 := h.1
  omega
theorem kshift_text {k : Int} (h0 : -3 ≤ k) (h1 : k ≤ 3) : (Str.ofString (toString k)).length ≤ 10 := by
  have all : ∀ i : Fin 7, (Str.ofString (toString (((i.val : Nat) : Int) - 3))).length ≤ 10 := by decide +kernel
  obtain ⟨i, hi⟩ := Int.eq_ofNat_of_zero_le (show 0 ≤ k + 3 by omega)
  have e : k = ((i : Nat) : Int) - 3 := by omega
  rw [e]
  exact all ⟨i, by omega⟩
section
variable {P : Program} {w : World} {K : PySem.W.Frag} {mg : Str → Option Value} {base : Heap}
/-- _law_take of the text -/
structure Tk (P : Program) (w : World) (K : PySem.W.Frag) (mg : Str → Option Value) (base : Heap) (f : Addr) (fd : FuncData) : Prop where
  ok : FnOk P w K mg base CX0 1 f fd ["_law_box_here", "_law_many"] spTake
  m : mg "_law_take" = some (.ref f)
  k : PySem.W.keepIn K (.ref f) = true
  b : Binds K fd ["_law_box_here", "_law_many"] []
end
theorem Bx.same {H H' : Hp} {b : Addr} {n : Nat} (s : Same H H') (h : Bx H b n) : Bx H' b n := by
  obtain ⟨x, y, z, e, r⟩ := h
  exact ⟨x, y, z, s _ _ e, r⟩
theorem Kp.same {H H' : Hp} {b : Addr} (s : Same H H') : Kp b H H' := fun p o _ e => s p o e
theorem ty_at {K : PySem.W.Frag} {H H' : Hp} {v : V} {t : Value} (s : ∀ a, v = .ref a → ∀ o, H a = some o → H' a = some o) (h : TyX K H v t) : TyX K H' v t := by
  cases h with
  | base b =>
    cases b with
    | non => exact .base .non
    | bl x => exact .base (.bl x)
    | int i => exact .base (.int i)
    | str x => exact .base (.str x)
    | flt x => exact .base (.flt x)
    | lst e => exact .base (.lst (s _ rfl _ e))
    | frz e => exact .base (.frz (s _ rfl _ e))
    | tup e => exact .base (.tup (s _ rfl _ e))
    | dK e => exact .base (.dK (s _ rfl _ e))
    | dT e => exact .base (.dT (s _ rfl _ e))
    | ins e cl ha hn htk hm => exact .base (.ins (s _ rfl _ e) cl ha hn htk hm)
  | byt b => exact .byt b
  | set e => exact .set (s _ rfl _ e)
  | kList e c => exact .kList e c
  | kTuple e c => exact .kTuple e c
  | kDict e c => exact .kDict e c
  | fTuple e => exact .fTuple (s _ rfl _ e)
  | fDict e => exact .fDict (s _ rfl _ e)
theorem Kd.at {K : PySem.W.Frag} {H H' : Hp} {v : V} (s : ∀ a, v = .ref a → ∀ o, H a = some o → H' a = some o) (h : Kd K H v) : Kd K H' v := by
  cases h with
  | int i => exact .int i
  | bl b => exact .bl b
  | str z h ok => exact .str z h ok
  | non => exact .non
  | oth a t ty ki ks => exact .oth a t (ty_at s ty) ki ks
/-- data that holds no object, or a list or tuple of such -/
inductive Flt : V → PyData → Prop
  | non : Flt .non .none
  | bl (b : Bool) : Flt (.bl b) (.bool b)
  | int (i : Int) : Flt (.int i) (.int i)
  | str (x : Str) : Flt (.str x) (.str x)
inductive FltAll : List V → List PyData → Prop
  | nil : FltAll [] []
  | cons {v : V} {d : PyData} {vs : List V} {ds : List PyData} : Flt v d → FltAll vs ds → FltAll (v :: vs) (d :: ds)
inductive Fl (H : Hp) : V → PyData → Prop
  | flat {v : V} {d : PyData} (h : Flt v d) : Fl H v d
  | lst {a : Addr} {xs : List V} {ds : List PyData} (h : H a = some (.lst xs)) (f : FltAll xs ds) : Fl H (.ref a) (.list ds)
  | tup {a : Addr} {xs : List V} {ds : List PyData} (h : H a = some (.tup xs)) (f : FltAll xs ds) : Fl H (.ref a) (.tuple ds)
theorem Flt.dp {K : PySem.W.Frag} {H : Hp} {v : V} {d : PyData} (h : Flt v d) : Dp K H v d := by
  cases h with
  | non => exact .non
  | bl b => exact .bl b
  | int i => exact .int i
  | str x => exact .str x
theorem FltAll.dp {K : PySem.W.Frag} {H : Hp} : ∀ {vs : List V} {ds : List PyData}, FltAll vs ds → DpAll K H vs ds
  | _, _, .nil => .nil
  | _, _, .cons h r => .cons h.dp r.dp
theorem Fl.dp {K : PySem.W.Frag} {H : Hp} {v : V} {d : PyData} (h : Fl H v d) : Dp K H v d := by
  cases h with
  | flat h => exact h.dp
  | lst h f => exact .lst (SqL.of h) f.dp
  | tup h f => exact .tup (SqT.of h) f.dp
theorem Fl.at {H H' : Hp} {v : V} {d : PyData} (s : ∀ a, v = .ref a → ∀ o, H a = some o → H' a = some o) (h : Fl H v d) : Fl H' v d := by
  cases h with
  | flat h => exact .flat h
  | lst h f => exact .lst (s _ rfl _ h) f
  | tup h f => exact .tup (s _ rfl _ h) f
/-- what can be shown -/
def Fit (d : PyData) : Prop := PyData.showable d = true ∧ PyData.hasDict d = false ∧ PyData.depth d < 50 ∧ (PyData.shown d).length ≤ 2000
/-- data that is no text -/
def Fb (K : PySem.W.Frag) (H : Hp) (v : V) : Prop := (∃ d, Fl H v d ∧ Fit d ∧ SeqAt.shaped d = true ∧ PyData.eqv d (.str "") = false) ∧ Kd K H v ∧ ∀ z, v ≠ .str z
/-- a base -/
def Bs (K : PySem.W.Frag) (C : Addr) (H : Hp) (v : V) : Prop := (∃ z, v = .str z ∧ Sm 100 z) ∨ Fb K H v ∨ ∃ a, v = .ref a ∧ Pl C H a "n" 0
/-- a shift -/
def Sv (K : PySem.W.Frag) (H : Hp) (v : V) : Prop := (∃ d, Fl H v d ∧ Fit d) ∧ Kd K H v
section
variable {K : PySem.W.Frag} {C : Addr} {H H' : Hp} {v : V}
theorem Fb.at (s : ∀ a, v = .ref a → ∀ o, H a = some o → H' a = some o) (h : Fb K H v) : Fb K H' v := by
  obtain ⟨⟨d, h1, h2⟩, h3, h4⟩ := h
  exact ⟨⟨d, h1.at s, h2⟩, h3.at s, h4⟩
theorem Bs.at (s : ∀ a, v = .ref a → ∀ o, H a = some o → H' a = some o) (h : Bs K C H v) : Bs K C H' v := by
  rcases h with h | h | ⟨a, rfl, dx, ha⟩
  · exact .inl h
  · exact .inr (.inl (h.at s))
  · exact .inr (.inr ⟨a, rfl, dx, s a rfl _ ha⟩)
theorem Sv.at (s : ∀ a, v = .ref a → ∀ o, H a = some o → H' a = some o) (h : Sv K H v) : Sv K H' v := by
  obtain ⟨⟨d, h1, h2⟩, h3⟩ := h
  exact ⟨⟨d, h1.at s, h2⟩, h3.at s⟩
theorem Bs.same (s : Same H H') (h : Bs K C H v) : Bs K C H' v := h.at fun a _ o e => s a o e
theorem Sv.same (s : Same H H') (h : Sv K H v) : Sv K H' v := h.at fun a _ o e => s a o e
theorem Bs.kp {b : Addr} (s : Kp b H H') (n : ∀ a, v = .ref a → a ≠ b) (h : Bs K C H v) : Bs K C H' v := h.at fun a e o ho => s a o (n a e) ho
theorem str_ext {a b : Str} (h : a.cps.toList = b.cps.toList) : a = b := by
  obtain ⟨x⟩ := a
  obtain ⟨y⟩ := b
  have e : x = y := Array.toList_inj.mp h
  rw [e]
theorem app_list (a b : Str) : (a ++ b).cps.toList = a.cps.toList ++ b.cps.toList := by
  show (a.cps ++ b.cps).toList = _
  rw [Array.toList_append]
theorem nil_list : ("" : Str).cps.toList = [] := by decide +kernel

def baseOk : V → Bool
  | .str z => decide (z = "") || nameS z
  | _ => false
end
/-- a value held against "" -/
def rNeU (K : PySem.W.Frag) (C : Addr) (sp : Sp) : R2 := fun x y H Q => rNe x y H Q ∨ rNeD K x y H Q ∨ ∃ a dx fs, x = .ref a ∧ H a = some (.ins C dx fs) ∧ Oth K C H y ∧ sp [.ref a, y] H (fun v H2 => ∃ b : Bool, v = .bl b ∧ Q (.bl (!b)) H2) E0
theorem op_neU {X : Cx} {k : Nat} {f C : Addr} {fd : FuncData} {ps : List Str} {sp : Sp} (F : FnOk X.prog X.w X.K X.mg X.base CX0 k f fd ps sp) (hr : Room (k + 1) X.A) (hb : Binds X.K fd ps []) (hs : PySem.W.findIn X.K (.ref C) "__eq__" = some (some (.ref f))) (hf : PySem.W.isFn X.K (.ref f) = true)
    (hn : PySem.W.findIn X.K (.ref C) "__ne__" = some (some (.builtin "object.__ne__"))) (hm : PySem.W.mroIn X.K C (.type "object") = some true) : OpR X (compareOp .NotEq) (rNeU X.K C sp) := by
  intro pins s σ H x y v u Q I rx ry h
  rcases h with h | h | h
  · exact op_ne pins s σ H x y v u Q I rx ry h
  · exact op_neD hr.units pins s σ H x y v u Q I rx ry h
  · exact op_neO F hr hb hs hf hn hm pins s σ H x y v u Q I rx ry h
section
variable {K : PySem.W.Frag} {C : Addr} {H : Hp} {v : V} {Q : VK}
theorem shaped_empty : SeqAt.shaped (.str "") = true := by decide +kernel
/-- what is no text is unlike "" -/
theorem Bs.ne (Y : Pty K C) (N : Npl K C) (h : Bs K C H v) : (∃ z, v = .str z ∧ Sm 100 z) ∨ ((∀ z, v ≠ .str z) ∧ ∀ Q : VK, Q (.bl true) H → rNeU K C (spEq K C) v (.str "") H Q) := by
  rcases h with h | ⟨⟨d, h1, h2, h3, h4⟩, h5, h6⟩ | ⟨a, rfl, pa⟩
  · exact .inl h
  · refine .inr ⟨h6, fun Q q => .inr (.inl ⟨d, .str "", h1.dp, .str "", h3, shaped_empty, ?_⟩)⟩
    rw [h4]
    exact q
  · obtain ⟨dx, ha⟩ := id pa
    exact .inr ⟨fun z e => (nomatch e), fun Q q => .inr (.inr ⟨a, dx, _, rfl, ha, ⟨_, .base (.str ""), by simp [PySem.W.notFirst]; rfl⟩, a, "n", 0, pa, .inr ⟨_, rfl, ⟨_, .base (.str ""), N.str⟩, false, rfl, q⟩⟩)⟩
theorem Bs.kd (Y : Pty K C) (ki : PySem.W.kitOne K (.ref C) (.type "int") = some false) (ks : PySem.W.kitOne K (.ref C) (.type "str") = some false) (h : Bs K C H v) : Kd K H v := by
  rcases h with ⟨z, rfl, h⟩ | ⟨_, h, _⟩ | ⟨a, rfl, pa⟩
  · exact .str z (Nat.le_trans h.1 (by decide)) h.2
  · exact h
  · exact .oth a _ (pa.ty Y) ki ks
end
end Mz
set_option Elab.async false
set_option linter.all false
set_option maxRecDepth 100000
set_option maxHeartbeats 4000000
namespace Mz
open PySem PySem.Spec PyProof.Rows L2
/-- Place.of, as the text has it -/
structure OfM (P : Program) (w : World) (K : PySem.W.Frag) (mg : Str → Option Value) (base : Heap) (C cX po f : Addr) (fd : FuncData) : Prop where
  ok : FnOk P w K mg base (L2.CX P w) 5 f fd ["cls", "value"] (spOf K C cX)
  rd : ClX.CRead K C (.type "type")
  met : ClX.CMet K C (.type "type") "of" po f
  b : Binds K fd ["cls", "value"] []
section
variable {P : Program} {w : World} {K : PySem.W.Frag} {mg : Str → Option Value} {base : Heap}
theorem scXinitI : FnScope ["self", "value"] ["self", "value"] (defScope (inClass sInvInt 0)) := ⟨rfl, rfl, rfl, by decide +kernel, rfl, by decide +kernel, by decide +kernel⟩
theorem ok_xinitI {f C cM : Addr} {fd : FuncData} (F : Fun K "__init__" "InvalidInteger.__init__" (inClass sInvInt 0) f fd) (T : Xcl K mg "InvalidInteger" C "value") (mM : mg "MapError" = some (.ref cM)) (rd : ClX.CRead K cM (.type "type"))
    (fc : PySem.W.findCls K (.ref cM) (.type "type") "__init__" = some (.val (.builtin "ValueError.__init__"))) : FnOk P w K mg base CX0 1 f fd ["self", "value"] (spX1 K C "value") := by
  refine F.ok scXinitI (fun vs H Q E h => ?_) (fun cdv A outer s H vs Q E hr h => ?_)
  · obtain ⟨a, v, rfl, _⟩ := h
    rfl
  · obtain ⟨a, v, rfl, ha, q⟩ := h
    refine ⟨_, pss_cons (ps_expr (pe_meinit (by rfl) mM rd fc (pa_cons (pv 0) (pa_cons pe_str pa_nil)))) (pss_one (ps_ost (pv 0) (pv 1))), ?_⟩
    refine ⟨_, rfl, a, C, _, rfl, (by show 1 ≤ 1000; decide), T.ox, ha, ?_⟩
    exact ⟨_, rfl, _, rfl, a, C, rfl, T.ox, T.no, .inl ⟨ha, fun dx n1 n2 => q dx n1 n2⟩⟩
theorem scXinitS : FnScope ["self", "value"] ["self", "value"] (defScope (inClass sInvSet 0)) := ⟨rfl, rfl, rfl, by decide +kernel, rfl, by decide +kernel, by decide +kernel⟩
theorem ok_xinitS {f C cM : Addr} {fd : FuncData} (F : Fun K "__init__" "InvalidSetting.__init__" (inClass sInvSet 0) f fd) (T : Xcl K mg "InvalidSetting" C "value") (mM : mg "MapError" = some (.ref cM)) (rd : ClX.CRead K cM (.type "type"))
    (fc : PySem.W.findCls K (.ref cM) (.type "type") "__init__" = some (.val (.builtin "ValueError.__init__"))) : FnOk P w K mg base CX0 1 f fd ["self", "value"] (spX1 K C "value") := by
  refine F.ok scXinitS (fun vs H Q E h => ?_) (fun cdv A outer s H vs Q E hr h => ?_)
  · obtain ⟨a, v, rfl, _⟩ := h
    rfl
  · obtain ⟨a, v, rfl, ha, q⟩ := h
    refine ⟨_, pss_cons (ps_expr (pe_meinit (by rfl) mM rd fc (pa_cons (pv 0) (pa_cons pe_str pa_nil)))) (pss_one (ps_ost (pv 0) (pv 1))), ?_⟩
    refine ⟨_, rfl, a, C, _, rfl, (by show 1 ≤ 1000; decide), T.ox, ha, ?_⟩
    exact ⟨_, rfl, _, rfl, a, C, rfl, T.ox, T.no, .inl ⟨ha, fun dx n1 n2 => q dx n1 n2⟩⟩
/-- an exception of one field made -/
theorem mko_x1 {K : PySem.W.Frag} {cE : Addr} {i : Nat} {u : V} {σ : L2.St} {H1 : Hp} {E : XK} (hi : σ[i]? = some (some u)) (q : ∀ d H', H1 d = none → Same H1 H' → H' d = some (.xd [("value", u)]) → E (.ref cE) (some d) H') : tMkO cE (spX1 K cE "value") [] (tCons (tVar i) tNil) σ H1 E := by
  refine ⟨_, hi, (by show 1 ≤ 1000; decide), fun a na => ⟨a, u, rfl, upd_same, fun dx n1 n2 => ⟨rfl, dx, [("value", u)], upd_same, ?_, ?_, ?_⟩⟩⟩
  · rw [upd_ne n2, upd_same]
  · rw [upd_ne n2] at n1
    exact n1
  · have n3 : H1 dx = none := by
      rw [upd_ne n2] at n1
      exact n1
    refine q dx _ n3 (fun b o hb => ?_) upd_same
    have x1 : b ≠ dx := ne_of_none hb n3
    have x2 : b ≠ a := ne_of_none hb na
    rw [upd_ne x1, del_ne x2, upd_ne x2, upd_ne x1, upd_ne x2]
    exact hb
end
/-! settings -/
/-- an integer from lo on -/
def fromB (lo : Int) : V → Bool
  | .int i => decide (lo ≤ i)
  | _ => false
def spIsFrom (K : PySem.W.Frag) : Sp := fun vs H Q _ => ∃ v lo, vs = [v, .int lo] ∧ Kd K H v ∧ Q (.bl (fromB lo v)) H
/-- a key and a value of a dict that is given -/
def KvOk (K : PySem.W.Frag) (H : Hp) (kv : Key × V) : Prop := (∀ z, kv.1 = .inr z → Sm 1000 z) ∧ Kd K H kv.2
def kvB (kv : Key × V) : Bool := nameV (kV kv.1) && fromB 0 kv.2
/-- sizes -/
def sizesB (kvs : List (Key × V)) : Bool := decide (kvs.length ≤ 2) && kvs.all kvB
/-- what is given as sizes: a dict or none -/
def Gv (K : PySem.W.Frag) (H : Hp) (v : V) (r : Option (Addr × List (Key × V))) : Prop := (r = none ∧ ∃ t, TyX K H v t ∧ PySem.W.kitOne K t (.type "dict") = some false) ∨ ∃ a kvs, r = some (a, kvs) ∧ v = .ref a ∧ H a = some (.dK kvs) ∧ ∀ kv ∈ kvs, KvOk K H kv ∧ kv.2 ≠ .ref a
def givenB : Option (Addr × List (Key × V)) → Bool
  | none => false
  | some r => sizesB r.2
def spAre (K : PySem.W.Frag) : Sp := fun vs H Q _ => ∃ v r, vs = [v] ∧ Gv K H v r ∧ ∀ H', Same H H' → Q (.bl (givenB r)) H'
def stF (d : Addr) (pg : Int) : List (Str × V) := putF "_page" (.int pg) (putF "_sizes" (.ref d) [])
theorem stF_sizes {d : Addr} {pg : Int} : (stF d pg).lookup ("_sizes" : Str) = some (.ref d) := by
  unfold stF
  rw [lookup_putF, if_neg (by decide +kernel), lookup_putF, if_pos rfl]
theorem stF_page {d : Addr} {pg : Int} : (stF d pg).lookup ("_page" : Str) = some (.int pg) := by
  unfold stF
  rw [lookup_putF, if_pos rfl]
/-- a setting -/
def Stg (S : Addr) (H : Hp) (s : Addr) (kvs : List (Key × V)) (pg : Int) : Prop := ∃ dx d, H s = some (.ins S dx (stF d pg)) ∧ H d = some (.dK kvs)
structure Scl (K : PySem.W.Frag) (mg : Str → Option Value) (S : Addr) : Prop where
  cl : Cls K S
  nZ : NoAttr K S "_sizes"
  nP : NoAttr K S "_page"
  mgS : mg "Setting" = some (.ref S)
theorem Stg.same {S s : Addr} {H H' : Hp} {kvs : List (Key × V)} {pg : Int} (m : Same H H') (h : Stg S H s kvs pg) : Stg S H' s kvs pg := by
  obtain ⟨dx, d, h1, h2⟩ := h
  exact ⟨dx, d, m _ _ h1, m _ _ h2⟩
/-- a setting just made: its dict is new -/
def StgN (S : Addr) (H0 H : Hp) (s : Addr) (kvs : List (Key × V)) (pg : Int) : Prop := ∃ dx d, H s = some (.ins S dx (stF d pg)) ∧ H d = some (.dK kvs) ∧ H0 d = none
theorem StgN.stg {S s : Addr} {H0 H : Hp} {kvs : List (Key × V)} {pg : Int} (h : StgN S H0 H s kvs pg) : Stg S H s kvs pg := by
  obtain ⟨dx, d, h1, h2, _⟩ := h
  exact ⟨dx, d, h1, h2⟩
def spInitS (K : PySem.W.Frag) (S cS cI : Addr) : Sp := fun vs H Q E => ∃ p dx v m r, vs = [.ref p, v, m] ∧ H p = some (.ins S dx []) ∧ Gv K H v r ∧ Kd K H m ∧
  ((givenB r = true ∧ ∃ pg, m = .int pg ∧ 1 ≤ pg ∧ ∀ H', (∀ q o, q ≠ p → H q = some o → H' q = some o) → (∀ a kvs, r = some (a, kvs) → StgN S H H' p kvs pg) → Q .non H') ∨
    (givenB r = false ∧ ∀ d H', H d = none → Same H H' → H' d = some (.xd [("value", v)]) → E (.ref cS) (some d) H') ∨
    (givenB r = true ∧ fromB 1 m = false ∧ ∀ d H', H d = none → Same H H' → H' d = some (.xd [("value", m)]) → E (.ref cI) (some d) H'))
/-- the value of a place -/
def wtK (kvs : List (Key × V)) (z : Str) (k : Int) : Option Int := if z = "" then some k else match valV kvs (.inr z) with
  | some (.int n) => some (n + k)
  | _ => none
/-- what a value stands for, as a place: its value at a setting -/
def PlV (K : PySem.W.Frag) (C : Addr) (H : Hp) (kvs : List (Key × V)) (v : V) (wt : Option Int) : Prop :=
  (∃ a z k, v = .ref a ∧ Pl C H a z k ∧ wt = wtK kvs z k) ∨ (NoPl K C H v ∧ wt = (ofV v).bind fun x => wtK kvs x.1 x.2)
def KInt (kvs : List (Key × V)) : Prop := ∀ z v, valV kvs (.inr z) = some v → ∃ n, v = .int n
def spGetS (K : PySem.W.Frag) (S C cX : Addr) : Sp := fun vs H Q E => ∃ s v kvs pg wt, vs = [.ref s, v] ∧ Stg S H s kvs pg ∧ KInt kvs ∧ PlV K C H kvs v wt ∧ (∀ n, wt = some n → ∀ H', Same H H' → Q (.int n) H') ∧
  (wt = none → ∀ d H', H d = none → Same H H' → H' d = some (.xd [("value", v)]) → E (.ref cX) (some d) H')
def spSameS (K : PySem.W.Frag) (S C cX : Addr) : Sp := fun vs H Q E => ∃ s v u kvs pg wv wu, vs = [.ref s, v, u] ∧ Stg S H s kvs pg ∧ KInt kvs ∧ 0 < pg ∧ pg.natAbs.log2 < 9000 ∧ PlV K C H kvs v wv ∧ PlV K C H kvs u wu ∧
  (∀ n m, wv = some n → wu = some m → ∀ H', Same H H' → Q (.bl (decide (n / pg = m / pg))) H') ∧
  (wv = none → ∀ d H', H d = none → Same H H' → H' d = some (.xd [("value", v)]) → E (.ref cX) (some d) H') ∧
  (∀ n, wv = some n → wu = none → ∀ d H', H d = none → Same H H' → H' d = some (.xd [("value", u)]) → E (.ref cX) (some d) H')
section
variable {P : Program} {w : World} {K : PySem.W.Frag} {mg : Str → Option Value} {base : Heap}
theorem scIsFrom : FnScope ["value", "low"] ["value", "low"] (defScope sIsFrom) := ⟨rfl, rfl, rfl, by decide +kernel, rfl, by decide +kernel, by decide +kernel⟩
theorem ok_isFrom {f f1 : Addr} {fd fd1 : FuncData} (F : Fun K "is_integer_from" "is_integer_from" sIsFrom f fd) (G : FnOk P w K mg base CX0 1 f1 fd1 ["value"] (spWhole K)) (m1 : mg "_is_whole" = some (.ref f1)) (k1 : PySem.W.keepIn K (.ref f1) = true) (b1 : Binds K fd1 ["value"] []) :
    FnOk P w K mg base CX0 2 f fd ["value", "low"] (spIsFrom K) := by
  refine F.ok scIsFrom (fun vs H Q E h => ?_) (fun cdv A outer s H vs Q E hr h => ?_)
  · obtain ⟨v, lo, rfl, _⟩ := h
    rfl
  · obtain ⟨v, lo, rfl, hk, q⟩ := h
    refine ⟨_, pss_one (ps_ret (pe_and (pe_call G hr (by rfl) m1 k1 b1 .nil pass0 (pa_cons (pv 0) pa_nil)) (pe_one (pe_cmpR op_le (pv 1) (pv 0) (nomark _))))), ?_⟩
    refine ⟨_, rfl, v, rfl, hk, _, rfl, ?_⟩
    cases hk with
    | int i => exact iteT ⟨_, rfl, _, rfl, _, _, rfl, rfl, q⟩
    | bl b => exact iteF q
    | str z _ _ => exact iteF q
    | non => exact iteF q
    | oth a t ty ki ks => exact iteF q
theorem scAre : FnScope ["value", "name", "size"] ["value"] (defScope sAreSizes) := ⟨rfl, rfl, rfl, by decide +kernel, rfl, by decide +kernel, by decide +kernel⟩
theorem ok_are {f f1 f2 : Addr} {fd fd1 fd2 : FuncData} {t : Tok} (F : Fun K "_are_sizes" "_are_sizes" sAreSizes f fd) (B : Blt mg) (D : Blp mg) (mDct : mg "dict" = none) (mU : mg "MOST_UNKNOWNS" = some (.int 2 t))
    (G1 : FnOk P w K mg base CX0 1 f1 fd1 ["value"] (spIsName K)) (m1 : mg "is_name" = some (.ref f1)) (k1 : PySem.W.keepIn K (.ref f1) = true) (b1 : Binds K fd1 ["value"] [])
    (G2 : FnOk P w K mg base CX0 2 f2 fd2 ["value", "low"] (spIsFrom K)) (m2 : mg "is_integer_from" = some (.ref f2)) (k2 : PySem.W.keepIn K (.ref f2) = true) (b2 : Binds K fd2 ["value", "low"] []) :
    FnOk P w K mg base CX0 3 f fd ["value"] (spAre K) := by
  refine F.ok scAre (fun vs H Q E h => ?_) (fun cdv A outer s H vs Q E hr h => ?_)
  · obtain ⟨v, r, rfl, _⟩ := h
    rfl
  · obtain ⟨v, r, rfl, hv, q⟩ := h
    have nd := scAre.nd
    have hr1 : Room 1 _ := hr.mono (by decide)
    refine ⟨_, pss_cons (ps_if (PW.pt (pw_or (pt_not (pt_val (pe_callB call_isi (by rfl) D.isi (by decide +kernel) (pa_cons (pv 0) (pa_cons (pe_bltn (v := .ty "dict") (by rfl) mDct (by decide +kernel) rfl) pa_nil)))))
        (pw_or1 (pt_cmpR op_gt (pe_callB call_lenD (by rfl) B.len PySem.boot_len (pa_cons (pv 0) pa_nil)) (pe_glob (v := .int 2) rfl mU ⟨_, rfl⟩) (nomark _))))) (pss_one (ps_ret pe_bl)) pss_nil)
      (pss_one (ps_ret (pe_callB (cr_all rfl) (by rfl) D.all (by decide +kernel) (pa_cons (pe_lock (pe_lc (own := [("name", 1), ("size", 2)]) (g := gTup K 2 (gCons (gName 1) (gCons (gName 2) gNil))) (tt := tYes) rfl nd (pi_items (pv 0)) (blkOk_by (N := ["value", "name", "size"]) (sc := defScope sAreSizes) (by decide +kernel))
        (fun _ _ _ _ _ => pg_tup (by rfl) (pgs_cons (pg_name (i := 1) nd rfl (Or.inl rfl)) (pgs_cons (pg_name (i := 2) nd rfl (Or.inl rfl)) pgs_nil))) (fun _ _ _ _ _ => pts_nil)
        (fun _ _ _ _ _ => pe_and (pe_call G1 hr1 (by rfl) m1 k1 b1 .nil pass0 (pa_cons (pv 1) pa_nil)) (pe_one (pe_call G2 hr (by rfl) m2 k2 b2 .nil pass0 (pa_cons (pv 2) (pa_cons pe_int pa_nil))))))) pa_nil)))), ?_⟩
    refine ⟨_, rfl, ?_⟩
    rcases hv with ⟨rfl, t0, ty, kt⟩ | ⟨a, kvs, rfl, rfl, ha, hall⟩
    · exact ⟨_, _, _, _, false, rfl, .ty _, ty, kt, false, rfl, iteT (iteT (q H (Same.refl H)))⟩
    · refine ⟨_, _, _, _, true, rfl, .ty _, .base (.dK ha), kit_ty (by decide +kernel), true, rfl, iteF ?_⟩
      refine ⟨_, rfl, a, kvs, rfl, ha, _, _, rfl, rfl, _, rfl, ite2 (fun hc => ?_) (fun hc => ?_)⟩
      · have h2 : (2 : Int) < (kvs.length : Int) := of_decide_eq_true hc
        have e : givenB (some (a, kvs)) = false := by
          show (decide (kvs.length ≤ 2) && _) = false
          rw [decide_eq_false (by omega), Bool.false_and]
        rw [e] at q
        exact q H (Same.refl H)
      · have h2 : ¬ (2 : Int) < (kvs.length : Int) := fun x => hc (decide_eq_true x)
        refine ⟨a, .dK kvs, ha, trivial, fun od => ⟨_, rfl, a, od, kvs, rfl, upd_same, fun D nD => ?_⟩⟩
        have la : upd H a (.frz od (.dK kvs)) a = some (.frz od (.dK kvs)) := upd_same
        have lo : ∀ r o, r ≠ a → H r = some o → upd H a (.frz od (.dK kvs)) r = some o := fun r o n e => by
          rw [upd_ne n]
          exact e
        have nDH : H D = none := by
          cases e : H D with
          | none => rfl
          | some o =>
            by_cases x : D = a
            · subst x
              rw [la] at nD
              cases nD
            · rw [lo D o x e] at nD
              cases nD
        generalize upd H a (.frz od (.dK kvs)) = Hl at la lo nD
        have aD : a ≠ D := fun x => by
          rw [← x, la] at nD
          cases nD
        refine lc_it (walk_items (kvs := kvs)) (fun i H' => Kp D Hl H' ∧ H' D = some (.lst (((kvs.take i).map kvB).map V.bl))) ⟨Kp.fresh nD, upd_same⟩ (fun i H' _ h => h.1 _ _ aD la) ?_ ?_
        · rintro i x H0 H' hi ⟨kp, hD⟩ ⟨T, x1, y1, rfl, nT, rfl, e1, e2⟩
          have hkv : kvs[i]? = some kvs[i] := List.getElem?_eq_getElem hi
          have e1 : (kvs[i]?).map (fun kv => kV kv.1) = some x1 := e1
          have e2 : (kvs[i]?).map Prod.snd = some y1 := e2
          rw [hkv] at e1 e2
          cases e1
          cases e2
          obtain ⟨⟨hk1, hk2⟩, hka⟩ := hall _ (List.getElem_mem hi)
          have TD : T ≠ D := fun x => by
            rw [x, hD] at nT
            cases nT
          have sT : Same H0 (upd H0 T (.tup [kV kvs[i].1, kvs[i].2])) := same_nw nT
          have tT : upd H0 T (.tup [kV kvs[i].1, kvs[i].2]) T = some (.tup [kV kvs[i].1, kvs[i].2]) := upd_same
          generalize upd H0 T (.tup [kV kvs[i].1, kvs[i].2]) = H1 at sT tT
          have kd1 : Kd K H1 (kV kvs[i].1) := by
            cases e : kvs[i].1 with
            | inl n => exact .int n
            | inr z =>
              have h := hk1 z e
              exact .str z h.1 h.2
          refine ⟨T, _, rfl, SqT.of tT, rfl, _, _, rfl, _, _, rfl, rfl, ?_⟩
          refine ⟨rfl, ?_⟩
          unfold tYes
          have fin : ∀ (b : Bool) (H2 : Hp), b = kvB kvs[i] → Same H1 H2 → ∃ acc, H2 D = some (.lst acc) ∧ acc.length < sizeLine ∧ (Kp D Hl (upd H2 D (.lst (acc ++ [V.bl b]))) ∧ upd H2 D (.lst (acc ++ [V.bl b])) D = some (.lst (((kvs.take (i + 1)).map kvB).map V.bl))) := by
            intro b H2 eb s2
            refine ⟨_, s2 _ _ (sT _ _ hD), ?_, ?_, ?_⟩
            · rw [List.length_map, List.length_map, List.length_take]
              have h3 : 10 ≤ sizeLine := by decide
              omega
            · intro r o n e
              rw [upd_ne n]
              exact s2 _ _ (sT _ _ (kp r o n e))
            · rw [upd_same, List.take_succ, hkv, List.map_append, List.map_append, eb]
              rfl
          refine iteT ⟨_, rfl, kV kvs[i].1, rfl, kd1, fun H2 s2 => ⟨_, rfl, ?_⟩⟩
          cases hn : nameV (kV kvs[i].1) with
          | false => exact iteF (fin false H2 (by show _ = (_ && _); rw [hn]; rfl) s2)
          | true =>
            have kd2 : Kd K H2 kvs[i].2 := hk2.at fun r e o ho => by
              have n : r ≠ a := fun x => hka (by rw [e, x])
              exact s2 _ _ (sT _ _ (kp r o (fun z => by rw [z, nDH] at ho; cases ho) (lo r o n ho)))
            exact iteT ⟨_, rfl, kvs[i].2, 0, rfl, kd2, fin _ H2 (by show _ = (_ && _); rw [hn]; rfl) s2⟩
        · rintro H' ⟨kp, hD⟩
          rw [List.take_length] at hD
          refine ⟨kp _ _ aD la, D, kvs.map kvB, rfl, SqL.of (by rw [upd_ne aD.symm]; exact hD), ?_⟩
          have e : givenB (some (a, kvs)) = (kvs.map kvB).all id := by
            show (decide (kvs.length ≤ 2) && kvs.all kvB) = _
            rw [decide_eq_true (by omega), List.all_map]
            rfl
          rw [← e]
          refine q _ fun r o ho => ?_
          by_cases x : r = a
          · subst x
            rw [ha] at ho
            cases ho
            exact upd_same
          · rw [upd_ne x]
            exact kp r o (fun z => by rw [z, nDH] at ho; cases ho) (lo r o x ho)
end
end Mz
set_option Elab.async false
set_option linter.all false
set_option maxRecDepth 100000
set_option maxHeartbeats 4000000
namespace Mz
open PySem PySem.Spec PyProof.Rows L2
theorem Oty.same {K : PySem.W.Frag} {C : Addr} {H H' : Hp} {v : V} (s : Same H H') (h : Oty K C H v) : Oty K C H' v := by
  obtain ⟨t, ty, k⟩ := h
  exact ⟨t, ty_at (fun a _ o e => s a o e) ty, k⟩
theorem Kd.same {K : PySem.W.Frag} {H H' : Hp} {v : V} (s : Same H H') (h : Kd K H v) : Kd K H' v := h.at fun a _ o e => s a o e
theorem PlV.same {K : PySem.W.Frag} {C : Addr} {H H' : Hp} {kvs : List (Key × V)} {v : V} {wt : Option Int} (s : Same H H') (h : PlV K C H kvs v wt) : PlV K C H' kvs v wt := by
  rcases h with ⟨a, z, k, e, ⟨dx, pa⟩, ew⟩ | ⟨⟨k, o⟩, e⟩
  · exact .inl ⟨a, z, k, e, ⟨dx, s _ _ pa⟩, ew⟩
  · exact .inr ⟨⟨k.same s, o.same s⟩, e⟩
section
variable {P : Program} {w : World} {K : PySem.W.Frag} {mg : Str → Option Value} {base : Heap}
theorem scInitS : FnScope ["self", "sizes", "page"] ["self", "sizes", "page"] (defScope (inClass sSetting 0)) := ⟨rfl, rfl, rfl, by decide +kernel, rfl, by decide +kernel, by decide +kernel⟩
theorem ok_initS {f f1 f2 fS fI S cS cI : Addr} {fd fd1 fd2 fdS fdI : FuncData} {dvs : List V} {kws : List (Str × V)} {pa : Arguments} (F : FunD K "__init__" "Setting.__init__" pa (defBody (inClass sSetting 0)) (defScope (inClass sSetting 0)) dvs kws f fd) (T : Scl K mg S) (mDct : mg "dict" = none)
    (G1 : FnOk P w K mg base CX0 3 f1 fd1 ["value"] (spAre K)) (m1 : mg "_are_sizes" = some (.ref f1)) (k1 : PySem.W.keepIn K (.ref f1) = true) (b1 : Binds K fd1 ["value"] [])
    (G2 : FnOk P w K mg base CX0 2 f2 fd2 ["value", "low"] (spIsFrom K)) (m2 : mg "is_integer_from" = some (.ref f2)) (k2 : PySem.W.keepIn K (.ref f2) = true) (b2 : Binds K fd2 ["value", "low"] [])
    (TS : Xcl K mg "InvalidSetting" cS "value") (GS : FnOk P w K mg base CX0 1 fS fdS ["self", "value"] (spX1 K cS "value")) (iS : PySem.W.findIn K (.ref cS) "__init__" = some (some (.ref fS))) (tS : PySem.W.typeIn K (.ref fS) = some (.type "function")) (bS : Binds K fdS ["self", "value"] [])
    (TI : Xcl K mg "InvalidInteger" cI "value") (GI : FnOk P w K mg base CX0 1 fI fdI ["self", "value"] (spX1 K cI "value")) (iI : PySem.W.findIn K (.ref cI) "__init__" = some (some (.ref fI))) (tI : PySem.W.typeIn K (.ref fI) = some (.type "function")) (bI : Binds K fdI ["self", "value"] []) :
    FnOk P w K mg base (L2.CX P w) 4 f fd ["self", "sizes", "page"] (spInitS K S cS cI) := by
  refine F.ok (CX := L2.CX P w) scInitS (fun vs H Q E h => ?_) (fun cdv A outer s H vs Q E hr h => ?_)
  · obtain ⟨p, dx, v, m, r, rfl, _⟩ := h
    rfl
  · obtain ⟨p, dx, v, m, r, rfl, hp, hv, hm, h⟩ := h
    refine ⟨_, pss_cons (ps_if (pt_not (pt_val (pe_call G1 hr (by rfl) m1 k1 b1 .nil pass0 (pa_cons (pv 1) pa_nil)))) (pss_one (ps_raise rfl (takes_of rfl rfl rfl rfl) (pmk_oex TS.ox iS tS GS (hr.mono (by decide)) bS .nil pass0 (by rfl) TS.m (pa_cons (pv 1) pa_nil)))) pss_nil)
      (pss_cons (ps_if (pt_not (pt_val (pe_call G2 (hr.mono (by decide)) (by rfl) m2 k2 b2 .nil pass0 (pa_cons (pv 2) (pa_cons pe_int pa_nil))))) (pss_one (ps_raise rfl (takes_of rfl rfl rfl rfl) (pmk_oex TI.ox iI tI GI (hr.mono (by decide)) bI .nil pass0 (by rfl) TI.m (pa_cons (pv 2) pa_nil)))) pss_nil)
      (pss_cons (ps_fld (pv 0) (pe_callTy call_dictD (by rfl) mDct (by decide +kernel) (pa_cons (pv 1) pa_nil)) rfl) (pss_one (ps_fld (pv 0) (pv 2) rfl)))), ?_⟩
    refine ⟨_, rfl, v, r, rfl, hv, fun H1 s1 => ⟨_, rfl, ?_⟩⟩
    have hp1 := s1 _ _ hp
    rcases h with ⟨e, pg, rfl, hpg, q⟩ | ⟨e, q⟩ | ⟨e, e2, q⟩
    · rw [e]
      refine iteF ⟨_, rfl, _, 1, rfl, .int pg, _, rfl, ?_⟩
      have e1 : fromB 1 (.int pg) = true := decide_eq_true hpg
      rw [e1]
      rcases hv with ⟨rfl, _⟩ | ⟨a, kvs, rfl, rfl, ha, _⟩
      · cases e
      · refine iteF ⟨_, rfl, a, kvs, rfl, .inl (s1 _ _ ha), fun d nd => ?_⟩
        have dp : d ≠ p := (ne_of_none hp1 nd).symm
        have ep : (upd H1 d (.dK kvs)) p = some (.ins S dx []) := by
          rw [upd_ne dp.symm]
          exact hp1
        refine ⟨_, rfl, p, S, dx, [], rfl, ep, T.cl, T.nZ, (by show 0 < 1000; decide), _, rfl, _, rfl, p, S, dx, _, rfl, upd_same, T.cl, T.nP, (by show 1 < 1000; decide), ?_⟩
        rw [upd_upd]
        refine q _ (fun b o n hb => ?_) fun a2 k2 e2 => ?_
        · rw [upd_ne n, upd_ne (ne_of_none (s1 _ _ hb) nd)]
          exact s1 _ _ hb
        · cases e2
          exact ⟨dx, d, upd_same, (by rw [upd_ne dp]; exact upd_same), s1.free nd⟩
    · rw [e]
      exact iteT (mko_x1 rfl fun d H' nd s2 hd => q d H' (s1.free nd) (s1.trans s2) hd)
    · rw [e]
      refine iteF ⟨_, rfl, m, 1, rfl, hm.same s1, _, rfl, ?_⟩
      rw [e2]
      exact iteT (mko_x1 rfl fun d H' nd s2 hd => q d H' (s1.free nd) (s1.trans s2) hd)
theorem scGetS : FnScope ["self", "at", "place"] ["self", "at"] (defScope (inClass sSetting 3)) := ⟨rfl, rfl, rfl, by decide +kernel, rfl, by decide +kernel, by decide +kernel⟩
theorem ok_getS {f fO fX C S cX po gb gs pb ps_ : Addr} {fd fdO fdX fdb fds : FuncData} (F : Fun K "__getitem__" "Setting.__getitem__" (inClass sSetting 3) f fd) (Z : Cpl K mg C) (T : Scl K mg S) (O : OfM P w K mg base C cX po fO fdO)
    (TX : Xcl K mg "InvalidPlace" cX "value") (GX : FnOk P w K mg base CX0 1 fX fdX ["self", "value"] (spX1 K cX "value")) (iX : PySem.W.findIn K (.ref cX) "__init__" = some (some (.ref fX))) (tX : PySem.W.typeIn K (.ref fX) = some (.type "function")) (bX : Binds K fdX ["self", "value"] [])
    (pB : PropOf K C "base" pb gb) (Gb : FnOk P w K mg base CX0 1 gb fdb ["self"] (spBase C)) (bb : Binds K fdb ["self"] []) (pS : PropOf K C "shift" ps_ gs) (Gs : FnOk P w K mg base CX0 1 gs fds ["self"] (spShift C)) (bs : Binds K fds ["self"] []) :
    FnOk P w K mg base (L2.CX P w) 6 f fd ["self", "at"] (spGetS K S C cX) := by
  refine F.okX scGetS (fun vs H Q E h => ?_) (fun cdv A outer s H vs Q E hr h => ?_)
  · obtain ⟨s, v, kvs, pg, wt, rfl, _⟩ := h
    rfl
  · obtain ⟨st, v, kvs, pg, wt, rfl, hst, hki, hpl, q1, q2⟩ := h
    have nd := scGetS.nd
    have hr2 : Room 2 _ := hr.mono (by decide)
    have hu : ∀ {X : Cx}, Room 5 X.A → X.A.units + 1 < cLine := fun r => by
      have := r.units
      omega
    refine ⟨_, pss_cons (ps_set (i := 2) nd rfl (Or.inl rfl) (pe_cmethS (pe_glob (v := .ref C) rfl Z.mgC rfl) O.rd O.met O.ok hr O.b (fun σ => passAt (takes_of rfl rfl rfl rfl) σ) (pa_cons (pv 1) pa_nil)))
      (pss_cons (ps_if (pt_cmpR op_eq (pe_prop (pv 2) Z.cl pB Gb hr2 bb .nil pass0 rfl) pe_str (nomark _)) (pss_one (ps_ret (pe_prop (pv 2) Z.cl pS Gs hr2 bs .nil pass0 rfl))) pss_nil)
      (pss_cons (ps_if (pt_cmp (pc_dnotin (hu hr) (pe_prop (pv 2) Z.cl pB Gb hr2 bb .nil pass0 rfl) (pe_fld (pv 0) rfl))) (pss_one (ps_raise rfl (takes_of rfl rfl rfl rfl) (pmk_oex TX.ox iX tX GX hr2 bX .nil pass0 (by rfl) TX.m (pa_cons (pv 1) pa_nil)))) pss_nil)
      (pss_one (ps_ret (pe_op op_add (pe_dget (hu hr) (pe_fld (pv 0) rfl) (pe_prop (pv 2) Z.cl pB Gb hr2 bb .nil pass0 rfl) (fun _ _ => rfl)) (pe_prop (pv 2) Z.cl pS Gs hr2 bs .nil pass0 rfl)))))), ?_⟩
    generalize hT : tSeq (tIfS _ _ _) _ = T2
    have rest : ∀ (p : Addr) (z : Str) (k : Int) (H1 : Hp), Same H H1 → Pl C H1 p z k → wt = wtK kvs z k → T2 { nx := fun _ H' => Q .non H', rt := Q } [some (.ref st), some v, some (.ref p)] H1 := by
      intro p z k H1 sm pp ew
      rw [← hT]
      obtain ⟨dp, hp⟩ := id pp
      obtain ⟨dx, d, h1, h2⟩ := hst.same sm
      refine ⟨_, rfl, p, dp, _, rfl, hp, p, z, k, rfl, pp, rfl, _, rfl, ?_⟩
      by_cases e : z = ""
      · rw [decide_eq_true (show V.str z = V.str "" by rw [e])]
        have : wt = some k := by
          rw [ew]
          exact if_pos e
        exact iteT ⟨_, rfl, p, dp, _, rfl, hp, p, z, k, rfl, pp, q1 k this H1 sm⟩
      · rw [decide_eq_false (show ¬ V.str z = V.str "" from fun x => e (V.str.inj x))]
        have ew2 : wt = match valV kvs (.inr z) with
          | some (.int n) => some (n + k)
          | _ => none := by
          rw [ew]
          exact if_neg e
        refine iteF ⟨_, rfl, p, dp, _, rfl, hp, p, z, k, rfl, pp, _, rfl, st, S, dx, _, _, rfl, h1, T.cl, T.nZ, stF_sizes, d, _, rfl, DGet.k (k := Sum.inr z) h2, _, rfl, ?_⟩
        cases ev : valV kvs (Sum.inr z) with
        | none =>
          rw [ev] at ew2
          exact iteT (mko_x1 rfl fun d2 H' nd2 s2 hd => q2 ew2 d2 H' (sm.free nd2) (sm.trans s2) hd)
        | some y =>
          obtain ⟨n, rfl⟩ := hki z y ev
          rw [ev] at ew2
          refine iteF ⟨_, rfl, st, S, dx, _, _, rfl, h1, T.cl, T.nZ, stF_sizes, _, rfl, p, dp, _, rfl, hp, p, z, k, rfl, pp, d, _, rfl, (by rw [← ev]; exact DGet.k (k := Sum.inr z) h2), _, rfl, p, dp, _, rfl, hp, p, z, k, rfl, pp, _, _, rfl, rfl, q1 _ ew2 H1 sm⟩
    clear hT
    refine ⟨rfl, _, rfl, v, rfl, ?_⟩
    rcases hpl with ⟨a, z, k, rfl, pa, ew⟩ | ⟨np, ew⟩
    · exact .inl ⟨a, z, k, rfl, pa, rest a z k H (Same.refl H) pa ew⟩
    · refine .inr ⟨np, fun z k e p H' n1 sm pp g => rest p z k H' sm pp ?_, fun e d H' nd2 sm hd => q2 ?_ d H' nd2 sm hd⟩
      · rw [ew, e]
        rfl
      · rw [ew, e]
        rfl
def spSizesS (S : Addr) : Sp := fun vs H Q _ => ∃ s kvs pg, vs = [.ref s] ∧ Stg S H s kvs pg ∧ ∀ p, H p = none → Q (.ref p) (upd H p (.dK kvs))
theorem scSizesS : FnScope ["self"] ["self"] (defScope (inClass sSetting 1)) := ⟨rfl, rfl, rfl, by decide +kernel, rfl, by decide +kernel, by decide +kernel⟩
theorem ok_sizesS {f S : Addr} {fd : FuncData} (F : Fun K "sizes" "Setting.sizes" (inClass sSetting 1) f fd) (T : Scl K mg S) (mDct : mg "dict" = none) : FnOk P w K mg base CX0 1 f fd ["self"] (spSizesS S) := by
  refine F.ok scSizesS (fun vs H Q E h => ?_) (fun cdv A outer s H vs Q E hr h => ?_)
  · obtain ⟨s, kvs, pg, rfl, _⟩ := h
    rfl
  · obtain ⟨st, kvs, pg, rfl, ⟨dx, d, h1, h2⟩, q⟩ := h
    exact ⟨_, pss_one (ps_ret (pe_callTy call_dictD (by rfl) mDct (by decide +kernel) (pa_cons (pe_fld (pv 0) rfl) pa_nil))), _, rfl, st, S, dx, _, _, rfl, h1, T.cl, T.nZ, stF_sizes, d, kvs, rfl, .inl h2, q⟩
end
end Mz
set_option Elab.async false
set_option linter.all false
set_option maxRecDepth 100000
set_option maxHeartbeats 4000000
namespace Mz
open PySem PySem.Spec PyProof.Rows L2
def isPlV (pl : Bool) (v : V) : Bool := pl || (ofV v).isSome
def spIsPl (K : PySem.W.Frag) (C : Addr) : Sp := fun vs H Q _ => ∃ v, vs = [v] ∧ ((∃ a z k, v = .ref a ∧ Pl C H a z k ∧ Q (.bl true) H) ∨ (NoPl K C H v ∧ ∀ H', Same H H' → Q (.bl (ofV v).isSome) H'))
section
variable {P : Program} {w : World} {K : PySem.W.Frag} {mg : Str → Option Value} {base : Heap}
theorem scIsPl : FnScope ["value"] ["value"] (defScope sIsPlace) := ⟨rfl, rfl, rfl, by decide +kernel, rfl, by decide +kernel, by decide +kernel⟩
theorem ok_isPl {f fO C cX po : Addr} {fd fdO : FuncData} (F : Fun K "is_place" "is_place" sIsPlace f fd) (T : Cpl K mg C) (O : OfM P w K mg base C cX po fO fdO) (mX : mg "InvalidPlace" = some (.ref cX)) (te : PySem.W.exmOne K (.ref cX) (.ref cX) = some true) :
    FnOk P w K mg base CX0 6 f fd ["value"] (spIsPl K C) := by
  refine F.ok scIsPl (fun vs H Q E h => ?_) (fun cdv A outer s H vs Q E hr h => ?_)
  · obtain ⟨v, rfl, _⟩ := h
    rfl
  · obtain ⟨v, rfl, h⟩ := h
    refine ⟨_, pss_cons (ps_try_only rfl rfl ⟨rfl, by decide, .inl mX⟩ takes0 (fun W pn xe tk _ => pss_one (ps_expr (pe_cmethS (pe_glob (v := .ref C) rfl T.mgC rfl) O.rd O.met O.ok hr O.b (fun σ => passAt tk σ) (pa_cons (pv 0) pa_nil))))
      (fun a oe cls d pn hz hf => pss_one (ps_ret pe_bl))) (pss_one (ps_ret pe_bl)), ?_⟩
    rcases h with ⟨a, z, k, rfl, pa, q⟩ | ⟨nv, q⟩
    · exact ⟨rfl, _, rfl, .ref a, rfl, .inl ⟨a, z, k, rfl, pa, q⟩⟩
    · refine ⟨rfl, _, rfl, v, rfl, .inr ⟨nv, fun z k e p H' np sm pl g => ?_, fun e d H' nd sm hd => ?_⟩⟩
      · have q2 := q H' sm
        rw [e] at q2
        exact q2
      · have q2 := q H' sm
        rw [e] at q2
        exact ⟨true, te, fun _ a ha => q2, fun x => Bool.noConfusion x⟩
end
end Mz
set_option Elab.async false
set_option linter.all false
set_option maxRecDepth 100000
set_option maxHeartbeats 4000000
namespace Mz
open PySem PySem.Spec PyProof.Rows L2
/-! a place's text, read again -/
def sfx (k : Int) : Str := if k = 1 then "+1" else if k = 2 then "+2" else if k = 3 then "+3" else if k = -1 then "-1" else if k = -2 then "-2" else if k = -3 then "-3" else ""
theorem cps_app (z s : Str) : (z ++ s).cps.toList = z.cps.toList ++ s.cps.toList := app_list z s
theorem six0 {n : Nat} : HT.sIx n 0 none = 0 := rfl
theorem six2 {n : Nat} (h : 2 ≤ n) : HT.sIx n n (some (-2)) = n - 2 := by
  unfold HT.sIx
  simp
  omega
theorem six2b {n : Nat} (h : 2 ≤ n) : HT.sIx n 0 (some (-2)) = n - 2 := by
  unfold HT.sIx
  simp
  omega
theorem sixn {n : Nat} : HT.sIx n n none = n := rfl
theorem len_cps (z : Str) : z.cps.toList.length = z.length := by
  rw [Array.length_toList]
  rfl
theorem cut_head {z s : Str} (h : s.length = 2) : headS (z ++ s) = z := by
  refine str_ext ?_
  unfold headS cutS
  have l : (z ++ s).length = z.length + 2 := by rw [strLen_append, h]
  rw [l, six0, six2 (by omega)]
  simp [cps_app]
  rw [← len_cps z, List.take_left]
theorem cut_tail {z s : Str} (h : s.length = 2) : tailS (z ++ s) = s := by
  refine str_ext ?_
  unfold tailS cutS
  have l : (z ++ s).length = z.length + 2 := by rw [strLen_append, h]
  rw [l, six2b (by omega), sixn]
  have e1 : z.length + 2 - 2 = z.cps.toList.length := by rw [len_cps]; omega
  rw [e1, cps_app, List.drop_left]
  rw [List.take_of_length_le (by rw [len_cps, len_cps]; omega)]
theorem num_none {z : Str} (h : 3 ≤ z.length) : numS z = none := by
  unfold numS
  rw [if_neg (fun e => by rw [e] at h; revert h; decide +kernel), if_neg (fun e => by rw [e] at h; revert h; decide +kernel), if_neg (fun e => by rw [e] at h; revert h; decide +kernel), if_neg (fun e => by rw [e] at h; revert h; decide +kernel)]
theorem name_len {z : Str} (h : nameS z = true) : 1 ≤ z.length ∧ z.length ≤ 6 := by
  have := (Bool.and_eq_true_iff.mp h).1
  obtain ⟨h1, h2⟩ := Bool.and_eq_true_iff.mp this
  have h1 := of_decide_eq_true h1
  have h2 := of_decide_eq_true h2
  omega
theorem sfx_len {k : Int} (h0 : -3 ≤ k) (h1 : k ≤ 3) (hk : k ≠ 0) : (sfx k).length = 2 ∧ shS (sfx k) = some k := by
  have h : k = -3 ∨ k = -2 ∨ k = -1 ∨ k = 1 ∨ k = 2 ∨ k = 3 := by omega
  rcases h with rfl | rfl | rfl | rfl | rfl | rfl <;> decide +kernel
theorem sh_noname6 {z : Str} {n : Int} (h : shS (tailS z) = some n) : ¬ nameS z = true := by
  intro hn
  have hall : (z.cps.toList.all fun c => decide (c ∈ abc.cps.toList)) = true := (Bool.and_eq_true_iff.mp hn).2
  have sub : ∀ c ∈ (tailS z).cps.toList, c ∈ abc.cps.toList := by
    intro c hc
    unfold tailS cutS at hc
    have h1 : c ∈ z.cps.toList := List.mem_of_mem_drop (List.mem_of_mem_take (by simpa using hc))
    exact of_decide_eq_true (List.all_eq_true.mp hall c h1)
  generalize tailS z = y at h sub
  unfold shS at h
  repeat' split at h
  all_goals first
    | (rename_i e
       subst e
       revert sub
       decide +kernel)
    | cases h
theorem num_name {z : Str} (h : nameS z = true) : numS z = none := by
  unfold numS
  rw [if_neg (fun e => by rw [e] at h; revert h; decide +kernel), if_neg (fun e => by rw [e] at h; revert h; decide +kernel), if_neg (fun e => by rw [e] at h; revert h; decide +kernel), if_neg (fun e => by rw [e] at h; revert h; decide +kernel)]
theorem parts_sfx {z : Str} {k : Int} (h : nameS z = true) (h0 : -3 ≤ k) (h1 : k ≤ 3) : partsS (z ++ sfx k) = some (z, k) := by
  by_cases hk : k = 0
  · subst hk
    have e : z ++ sfx 0 = z := by
      refine str_ext ?_
      rw [cps_app]
      exact List.append_nil _
    rw [e]
    unfold partsS
    rw [num_name h]
    show (if nameS z = true then some (z, (0 : Int)) else _) = _
    rw [if_pos h]
  · obtain ⟨l, s⟩ := sfx_len h0 h1 hk
    have n := name_len h
    unfold partsS
    have hn := cut_tail (z := z) l
    rw [num_none (by rw [strLen_append, l]; omega)]
    show (if nameS (z ++ sfx k) = true then _ else if nameS (headS (z ++ sfx k)) = true then _ else none) = _
    rw [if_neg (sh_noname6 (n := k) (by rw [hn]; exact s)), if_pos (by rw [cut_head l]; exact h), hn, s, cut_head l]
end Mz
set_option Elab.async false
set_option linter.all false
set_option maxRecDepth 100000
set_option maxHeartbeats 4000000
namespace Mz
open PySem PySem.Spec PyProof.Rows L2
/-- what stands for a place -/
def Pv6 (K : PySem.W.Frag) (C : Addr) (H : Hp) (v : V) (z : Str) (k : Int) : Prop := (∃ a, v = .ref a ∧ Pl C H a z k) ∨ (NoPl K C H v ∧ ofV v = some (z, k))
theorem Pv6.plv {K : PySem.W.Frag} {C : Addr} {H : Hp} {v : V} {z : Str} {k : Int} (h : Pv6 K C H v z k) (kvs : List (Key × V)) : PlV K C H kvs v (wtK kvs z k) := by
  rcases h with ⟨a, e, p⟩ | ⟨n, e⟩
  · exact .inl ⟨a, z, k, e, p, rfl⟩
  · exact .inr ⟨n, by rw [e]; rfl⟩
end Mz
set_option Elab.async false
set_option linter.all false
set_option maxRecDepth 100000
set_option maxHeartbeats 4000000
namespace Mz
open PySem PySem.Spec PyProof.Rows L2
/-! in, ==, page of a setting -/
/-- whether a value is a name of the setting -/
def inSet (kvs : List (Key × V)) : V → Bool
  | .str z => (valV kvs (.inr z)).isSome
  | _ => false
def spContS (K : PySem.W.Frag) (S : Addr) : Sp := fun vs H Q _ => ∃ s v kvs pg, vs = [.ref s, v] ∧ Stg S H s kvs pg ∧ Kd K H v ∧ Q (.bl (inSet kvs v)) H
def spPageS (S : Addr) : Sp := fun vs H Q _ => ∃ s kvs pg, vs = [.ref s] ∧ Stg S H s kvs pg ∧ Q (.int pg) H
def spEqS (K : PySem.W.Frag) (S : Addr) : Sp := fun vs H Q _ => ∃ s kvs pg, Stg S H s kvs pg ∧ AllI kvs ∧
  ((∃ r ls qg, vs = [.ref s, .ref r] ∧ Stg S H r ls qg ∧ AllI ls ∧ Q (.bl (eqDV kvs ls && decide (pg = qg))) H) ∨ ∃ y, vs = [.ref s, y] ∧ Oty K S H y ∧ Q (.bl false) H)
section
variable {P : Program} {w : World} {K : PySem.W.Frag} {mg : Str → Option Value} {base : Heap}
theorem scPageS : FnScope ["self"] ["self"] (defScope (inClass sSetting 2)) := ⟨rfl, rfl, rfl, by decide +kernel, rfl, by decide +kernel, by decide +kernel⟩
theorem ok_pageS {f S : Addr} {fd : FuncData} (F : Fun K "page" "Setting.page" (inClass sSetting 2) f fd) (T : Scl K mg S) : FnOk P w K mg base CX0 1 f fd ["self"] (spPageS S) := by
  refine F.ok scPageS (fun vs H Q E h => ?_) (fun cdv A outer s H vs Q E hr h => ?_)
  · obtain ⟨s, kvs, pg, rfl, _⟩ := h
    rfl
  · obtain ⟨st, kvs, pg, rfl, ⟨dx, d, h1, h2⟩, q⟩ := h
    exact ⟨_, pss_one (ps_ret (pe_fld (pv 0) rfl)), _, rfl, st, S, dx, _, _, rfl, h1, T.cl, T.nP, stF_page, q⟩
theorem scContS : FnScope ["self", "x"] ["self", "x"] (defScope (inClass sSetting 5)) := ⟨rfl, rfl, rfl, by decide +kernel, rfl, by decide +kernel, by decide +kernel⟩
theorem ok_contS {f S : Addr} {fd : FuncData} (F : Fun K "__contains__" "Setting.__contains__" (inClass sSetting 5) f fd) (T : Scl K mg S) (D : Blp mg) : FnOk P w K mg base CX0 1 f fd ["self", "x"] (spContS K S) := by
  refine F.ok scContS (fun vs H Q E h => ?_) (fun cdv A outer s H vs Q E hr h => ?_)
  · obtain ⟨s, v, kvs, pg, rfl, _⟩ := h
    rfl
  · obtain ⟨st, v, kvs, pg, rfl, ⟨dx, d, h1, h2⟩, hv, q⟩ := h
    refine ⟨_, pss_one (ps_ret (pe_and (pe_callB call_isi (by rfl) D.isi (by decide +kernel) (pa_cons (pv 1) (pa_cons (pe_bltn (v := .ty "str") (by rfl) D.str (by decide +kernel) rfl) pa_nil)))
      (pe_one (pe_cmp (pc_din (hu_of hr) (pv 1) (pe_fld (pv 0) rfl)))))), ?_⟩
    refine ⟨_, rfl, ?_⟩
    cases hv with
    | int i => exact ⟨_, _, _, _, false, rfl, .ty _, .base (.int i), kit_ty (by decide +kernel), false, rfl, iteF q⟩
    | bl b => exact ⟨_, _, _, _, false, rfl, .ty _, .base (.bl b), kit_ty (by decide +kernel), false, rfl, iteF q⟩
    | non => exact ⟨_, _, _, _, false, rfl, .ty _, .base .non, kit_ty (by decide +kernel), false, rfl, iteF q⟩
    | oth a t ty ki ks => exact ⟨_, _, _, _, false, rfl, .ty _, ty, ks, false, rfl, iteF q⟩
    | str z l ok => exact ⟨_, _, _, _, true, rfl, .ty _, .base (.str z), kit_ty (by decide +kernel), true, rfl, iteT ⟨_, rfl, _, rfl, st, S, dx, _, _, rfl, h1, T.cl, T.nZ, stF_sizes, d, _, rfl, DGet.k (k := .inr z) h2, q⟩⟩
theorem scEqS : FnScope ["self", "other"] ["self", "other"] (defScope (inClass sSetting 7)) := ⟨rfl, rfl, rfl, by decide +kernel, rfl, by decide +kernel, by decide +kernel⟩
theorem ok_eqS {f S : Addr} {fd : FuncData} (F : Fun K "__eq__" "Setting.__eq__" (inClass sSetting 7) f fd) (T : Scl K mg S) (Y : Pty K S) (D : Blp mg) : FnOk P w K mg base CX0 1 f fd ["self", "other"] (spEqS K S) := by
  refine F.ok scEqS (fun vs H Q E h => ?_) (fun cdv A outer s H vs Q E hr h => ?_)
  · obtain ⟨s, kvs, pg, _, _, ⟨r, ls, qg, rfl, _⟩ | ⟨y, rfl, _⟩⟩ := h
    · rfl
    · rfl
  · obtain ⟨st, kvs, pg, hst, ia, h⟩ := h
    refine ⟨_, pss_one (ps_ret (pe_and (pe_callB call_isi (by rfl) D.isi (by decide +kernel) (pa_cons (pv 1) (pa_cons (pe_glob (v := .ref S) rfl T.mgS rfl) pa_nil)))
      (pe_and (pe_cmpR (op_eqDI (Nat.lt_of_le_of_lt (Nat.le_add_right _ 63) hr.units)) (pe_fld (pv 0) rfl) (pe_fld (pv 1) rfl) (nomark _)) (pe_one (pe_cmpR op_eq (pe_fld (pv 0) rfl) (pe_fld (pv 1) rfl) (nomark _)))))), ?_⟩
    obtain ⟨dx, d, h1, h2⟩ := hst
    rcases h with ⟨r, ls, qg, rfl, ⟨dy, e, h3, h4⟩, ib, q⟩ | ⟨y, rfl, ⟨t, ty, kt⟩, q⟩
    · refine ⟨_, rfl, .ref r, .ref S, .ref S, .ref S, true, rfl, .own S, .base (.ins h3 Y.cl Y.ha Y.hn Y.htk Y.hm), kit_self, true, rfl, iteT ?_⟩
      refine ⟨_, rfl, st, S, dx, _, _, rfl, h1, T.cl, T.nZ, stF_sizes, _, rfl, r, S, dy, _, _, rfl, h3, T.cl, T.nZ, stF_sizes, d, e, kvs, ls, rfl, rfl, h2, h4, ia, ib, _, rfl, ite2 (fun hc => ?_) (fun hc => ?_)⟩
      · refine ⟨_, rfl, st, S, dx, _, _, rfl, h1, T.cl, T.nP, stF_page, _, rfl, r, S, dy, _, _, rfl, h3, T.cl, T.nP, stF_page, rfl, ?_⟩
        have e2 : decide (V.int pg = V.int qg) = decide (pg = qg) := decide_eq_decide.mpr ⟨fun x => V.int.inj x, fun x => by rw [x]⟩
        rw [hc, Bool.true_and] at q
        rw [e2]
        exact q
      · rw [Bool.eq_false_iff.mpr hc, Bool.false_and] at q
        exact q
    · exact ⟨_, rfl, y, .ref S, t, .ref S, false, rfl, .own S, ty, kt, false, rfl, iteF q⟩
end
end Mz
set_option Elab.async false
set_option linter.all false
set_option maxRecDepth 100000
set_option maxHeartbeats 4000000
namespace Mz
open PySem PySem.Spec PyProof.Rows L2
/-! rows of facts -/
/-- a value, and whether it is a place -/
def Pi (K : PySem.W.Frag) (C : Addr) (H : Hp) (v : V) (t : Bool) : Prop := (∃ a z k, v = .ref a ∧ Pl C H a z k ∧ t = true) ∨ (NoPl K C H v ∧ t = (ofV v).isSome)
theorem Pi.same {K : PySem.W.Frag} {C : Addr} {H H' : Hp} {v : V} {t : Bool} (s : Same H H') (h : Pi K C H v t) : Pi K C H' v t := by
  rcases h with ⟨a, z, k, e, ⟨dx, h⟩, r⟩ | ⟨⟨h1, h2⟩, r⟩
  · exact .inl ⟨a, z, k, e, ⟨dx, s _ _ h⟩, r⟩
  · exact .inr ⟨⟨h1.same s, h2.same s⟩, r⟩
theorem Pv6.pi {K : PySem.W.Frag} {C : Addr} {H : Hp} {v : V} {z : Str} {k : Int} (h : Pv6 K C H v z k) : Pi K C H v true := by
  rcases h with ⟨a, e, p⟩ | ⟨n, e⟩
  · exact .inl ⟨a, z, k, e, p, rfl⟩
  · exact .inr ⟨n, by rw [e]; rfl⟩
theorem Pv6.same {K : PySem.W.Frag} {C : Addr} {H H' : Hp} {v : V} {z : Str} {k : Int} (s : Same H H') (h : Pv6 K C H v z k) : Pv6 K C H' v z k := by
  rcases h with ⟨a, e, ⟨dx, p⟩⟩ | ⟨⟨h1, h2⟩, e⟩
  · exact .inl ⟨a, e, dx, s _ _ p⟩
  · exact .inr ⟨⟨h1.same s, h2.same s⟩, e⟩
/-- the words of rows, and how many places each has -/
def plS (z : Str) : Option Int := if z = "at_most" then some 2 else if z = "page" then some 1 else none
theorem plS_le {z : Str} {n : Int} (h : plS z = some n) : 1 ≤ n ∧ n ≤ 2 := by
  unfold plS at h
  split at h
  · cases h
    decide
  · split at h
    · cases h
      decide
    · cases h
def FctT (K : PySem.W.Frag) (C : Addr) (H : Hp) (l : List V) (t : Bool) : Prop := (l = [] ∧ t = false) ∨ ∃ x r, l = x :: r ∧ ((∃ ty, TyX K H x ty ∧ PySem.W.kitOne K ty (.type "str") = some false ∧ t = false) ∨
  ∃ z : Str, x = .str z ∧ ((plS z = none ∧ t = false) ∨ ∃ n, plS z = some n ∧ ((r.length ≠ n.toNat ∧ r.length ≤ 100 ∧ t = false) ∨ (r.length = n.toNat ∧ ∃ ts : List Bool, ts.length = r.length ∧ (∀ (i : Nat) (v : V) (b : Bool), r[i]? = some v → ts[i]? = some b → Pi K C H v b) ∧ t = ts.all id))))
/-- whether a value is a row of facts -/
def Fct (K : PySem.W.Frag) (C : Addr) (H : Hp) (v : V) (t : Bool) : Prop := (∃ ty, TyX K H v ty ∧ PySem.W.kitOne K ty (.type "tuple") = some false ∧ t = false) ∨ ∃ a l, v = .ref a ∧ H a = some (.tup l) ∧ FctT K C H l t
def spIsFact (K : PySem.W.Frag) (C : Addr) : Sp := fun vs H Q _ => ∃ (v : V) (t : Bool), vs = [v] ∧ Fct K C H v t ∧ ∀ H', Same H H' → Q (.bl t) H'
section
variable {P : Program} {w : World} {K : PySem.W.Frag} {mg : Str → Option Value} {base : Heap}
theorem scIsFact : FnScope ["value", "item"] ["value"] (defScope sIsFact) := ⟨rfl, rfl, rfl, by decide +kernel, rfl, by decide +kernel, by decide +kernel⟩
theorem ok_isFact {f f1 dP C : Addr} {fd fd1 : FuncData} (F : Fun K "is_fact" "is_fact" sIsFact f fd) (G1 : FnOk P w K mg base CX0 6 f1 fd1 ["value"] (spIsPl K C)) (m1 : mg "is_place" = some (.ref f1)) (k1 : PySem.W.keepIn K (.ref f1) = true) (b1 : Binds K fd1 ["value"] [])
    (mP : mg "_PLACES" = some (.ref dP)) (tP : Tab K w dP plS) (B : Blt mg) (D : Blp mg) (mT : mg "tuple" = none) : FnOk P w K mg base CX0 7 f fd ["value"] (spIsFact K C) := by
  refine F.ok scIsFact (fun vs H Q E h => ?_) (fun cdv A outer s H vs Q E hr h => ?_)
  · obtain ⟨v, t, rfl, _⟩ := h
    rfl
  · obtain ⟨v, t, rfl, hv, q⟩ := h
    have nd := scIsFact.nd
    obtain ⟨es, n, DF, lF⟩ := tP
    refine ⟨_, (pss_cons (ps_if (PW.pt (pw_or (pt_not (pt_val (pe_callB call_isi (by rfl) D.isi (by decide +kernel) (pa_cons (pv 0) (pa_cons (pe_bltn (v := .ty "tuple") (by rfl) mT (by decide +kernel) rfl) pa_nil))))) (pw_or (pt_cmpR (op_eqT0 hr.units) (pv 0) (pe_tup pa_nil) (nomark _)) (pw_or1 (pt_not (pt_val (pe_callB call_isi (by rfl) D.isi (by decide +kernel) (pa_cons (pe_ix ix_tup (pv 0) pe_int (fun _ _ => rfl)) (pa_cons (pe_bltn (v := .ty "str") (by rfl) D.str (by decide +kernel) rfl) pa_nil))))))))) (pss_one (ps_ret pe_bl)) pss_nil)
      (pss_cons (ps_if (PW.pt (pw_or (pt_cmpR (op_notIn_kd DF) (pe_ix ix_tup (pv 0) pe_int (fun _ _ => rfl)) (pe_glob (v := .ref dP) rfl mP rfl) (by rfl)) (pw_or1 (pt_cmpR op_ne (pe_callB call_len_seq (by rfl) B.len PySem.boot_len (pa_cons (pv 0) pa_nil)) (pe_op op_add pe_int (pe_ix ix_kdict (pe_glob (v := .ref dP) rfl mP rfl) (pe_ix ix_tup (pv 0) pe_int (fun _ _ => rfl)) (fun _ _ => rfl))) (nomark _))))) (pss_one (ps_ret pe_bl)) pss_nil)
      (pss_one (ps_ret (pe_callB (cr_all rfl) (by rfl) D.all (by decide +kernel) (pa_cons (pe_lc (own := [("item", 1)]) (g := gName 1) (tt := tYes) rfl nd (pi_tup (pe_slice sl_tup (pv 0) (po_some pe_int) po_none)) (blkOk_by (N := ["value", "item"]) (sc := defScope sIsFact) (by decide +kernel)) (fun _ _ _ _ _ => pg_name (i := 1) nd rfl (Or.inl rfl)) (fun _ _ _ _ _ => pts_nil) (fun _ _ _ _ _ => (pe_call G1 hr (by rfl) m1 k1 b1 .nil pass0 (pa_cons (pv 1) pa_nil)))) pa_nil)))))), ?_⟩
    refine ⟨_, rfl, ?_⟩
    rcases hv with ⟨ty, hty, kt, rfl⟩ | ⟨a, l, rfl, ha, hl⟩
    · exact ⟨_, _, _, _, false, rfl, .ty _, hty, kt, false, rfl, iteT (iteT (q H (Same.refl H)))⟩
    refine ⟨_, _, _, _, true, rfl, .ty _, .base (.tup ha), kit_ty (by decide +kernel), true, rfl, iteF ?_⟩
    refine ⟨_, rfl, (by show 0 ≤ sizeLine; decide), fun p0 np0 => ?_⟩
    have s1 : Same H (upd H p0 (.tup [])) := same_nw np0
    have t1 : upd H p0 (.tup []) p0 = some (.tup []) := upd_same
    generalize upd H p0 (.tup []) = H1 at s1 t1
    have a1 := s1 _ _ ha
    refine ⟨a, p0, l, rfl, rfl, SqT.of a1, SqT.of t1, _, rfl, ?_⟩
    rcases hl with ⟨rfl, rfl⟩ | ⟨x, r, rfl, hx⟩
    · exact iteT (iteT (q _ s1))
    refine iteF ?_
    have i0 : atI (x :: r) (0 : Int) = some x := atI_nat (xs := x :: r) (j := 0) rfl
    rcases hx with ⟨ty, hty, kt, rfl⟩ | ⟨z, rfl, hz⟩
    · exact ⟨_, rfl, a, _, _, _, rfl, rfl, SqT.of a1, i0, _, _, _, _, false, rfl, .ty _, ty_at (fun _ _ o e => s1 _ o e) hty, kt, false, rfl, iteT (q _ s1)⟩
    refine ⟨_, rfl, a, _, _, _, rfl, rfl, SqT.of a1, i0, _, _, _, _, true, rfl, .ty _, .base (.str z), kit_ty (by decide +kernel), true, rfl, iteF ?_⟩
    obtain ⟨v, ev, hv⟩ := lF z
    refine ⟨_, rfl, a, _, _, _, rfl, rfl, SqT.of a1, i0, z, v, rfl, rfl, ev, _, rfl, ?_⟩
    rcases hv with ⟨fz, rfl⟩ | ⟨m, tk, fz, rfl⟩
    · rcases hz with ⟨_, rfl⟩ | ⟨gs, e, _⟩
      · exact iteT (iteT (q _ s1))
      · rw [fz] at e
        cases e
    rcases hz with ⟨e, _⟩ | ⟨gs, e, hz⟩
    · rw [fz] at e
      cases e
    rw [fz] at e
    cases e
    obtain ⟨m1', m2'⟩ := plS_le fz
    refine iteF ⟨_, rfl, a, _, rfl, .inr (SqT.of a1), _, rfl, a, _, _, _, rfl, rfl, SqT.of a1, i0, dP, z, .int m, rfl, rfl, ⟨_, _, _, DF.at_, DF.lit, ev, ⟨tk, rfl⟩⟩, _, _, rfl, rfl, rfl, _, rfl, ?_⟩
    rcases hz with ⟨hne, hle, rfl⟩ | ⟨hlen, ts, lts, hts, rfl⟩
    · rw [show (!decide (V.int (((V.str z :: r).length : Nat) : Int) = V.int (1 + m))) = true by
        rw [decide_eq_false (fun e => by have := V.int.inj e; rw [List.length_cons] at this; omega)]
        rfl]
      exact iteT (q _ s1)
    rw [show (!decide (V.int (((V.str z :: r).length : Nat) : Int) = V.int (1 + m))) = false by
      rw [decide_eq_true (by rw [List.length_cons]; congr 1; omega)]
      rfl]
    refine iteF ?_
    have s10 : HT.sIx (r.length + 1) 0 (some (1 : Int)) = 1 := by
      unfold HT.sIx
      simp
    have ecut : cutV (V.str z :: r) (some (1 : Int)) none = r := by
      unfold cutV
      rw [List.length_cons, s10]
      show ((V.str z :: r).drop 1).take (r.length + 1 - 1) = r
      simp
    refine ⟨_, rfl, _, rfl, a, _, rfl, SqT.of a1, (fun h => by rw [List.length_cons, s10] at h; exact absurd h.1 (by decide)), fun p2 np2 => ?_⟩
    rw [ecut]
    have s2 : Same H1 (upd H1 p2 (.tup r)) := same_nw np2
    have t2 : upd H1 p2 (.tup r) p2 = some (.tup r) := upd_same
    generalize upd H1 p2 (.tup r) = H2 at s2 t2
    refine ⟨p2, rfl, ⟨_, SqT.of t2⟩, fun D nD => ?_⟩
    have p2D : p2 ≠ D := ne_of_none t2 nD
    refine lc_tup (xs := r) (fun i H' => (∀ q o, q ≠ D → H2 q = some o → H' q = some o) ∧ H' D = some (.lst ((ts.take i).map V.bl)))
      ⟨fun q o n e => by rw [upd_ne n]; exact e, upd_same⟩ (fun i H' _ h => SqT.of (h.1 _ _ p2D t2)) ?_ ?_
    · rintro i x H3 hx ⟨keep, hD⟩
      have hi : i < r.length := (List.getElem?_eq_some_iff.mp hx).1
      have hb : ts[i]? = some (ts[i]'(by omega)) := List.getElem?_eq_getElem (by omega)
      have old : Same H H3 := fun q o e => keep q o (ne_of_none (s2 _ _ (s1 _ _ e)) nD) (s2 _ _ (s1 _ _ e))
      have pi := (hts i x _ hx hb).same old
      have fin : ∀ H4, Same H3 H4 → ∃ acc, H4 D = some (.lst acc) ∧ acc.length < sizeLine ∧ (∀ q o, q ≠ D → H2 q = some o → upd H4 D (.lst (acc ++ [V.bl (ts[i]'(by omega))])) q = some o) ∧ upd H4 D (.lst (acc ++ [V.bl (ts[i]'(by omega))])) D = some (.lst ((ts.take (i + 1)).map V.bl)) := by
        intro H4 s6
        refine ⟨_, s6 _ _ hD, ?_, ?_, ?_⟩
        · rw [List.length_map, List.length_take]
          exact Nat.lt_of_le_of_lt (Nat.min_le_left _ _) (Nat.lt_of_lt_of_le (show i < 4 by omega) (by decide))
        · intro q o n e
          rw [upd_ne n]
          exact s6 _ _ (keep q o n e)
        · rw [upd_same, List.take_succ, hb, List.map_append]
          rfl
      refine ⟨rfl, ?_⟩
      unfold tYes
      refine iteT ⟨_, rfl, _, rfl, ?_⟩
      rcases pi with ⟨a2, z2, k2, rfl, pa, eb⟩ | ⟨np, eb⟩
      · refine .inl ⟨a2, z2, k2, rfl, pa, ?_⟩
        have f := fin H3 (Same.refl _)
        rw [eb] at f
        exact f
      · refine .inr ⟨np, fun H4 s6 => ?_⟩
        have f := fin H4 s6
        rw [eb] at f
        exact f
    · rintro H3 ⟨keep, hD⟩
      rw [List.take_of_length_le (by omega)] at hD
      exact ⟨D, ts, rfl, SqL.of hD, q _ fun q2 o e => keep q2 o (ne_of_none (s2 _ _ (s1 _ _ e)) nD) (s2 _ _ (s1 _ _ e))⟩
end
end Mz
set_option Elab.async false
set_option linter.all false
set_option maxRecDepth 100000
set_option maxHeartbeats 4000000
/-! two lists item by item; comprehensions with two clauses -/
namespace Mz
open PySem PySem.Spec PyProof.Rows L2
inductive Lk {α β : Type} (R : α → β → Prop) : List α → List β → Prop
  | nil : Lk R [] []
  | cons {x : α} {y : β} {xs : List α} {ys : List β} (h : R x y) (t : Lk R xs ys) : Lk R (x :: xs) (y :: ys)
section
variable {α β : Type} {R : α → β → Prop} {xs xs2 : List α} {ys ys2 : List β}
theorem Lk.length (h : Lk R xs ys) : xs.length = ys.length := by
  induction h with
  | nil => rfl
  | cons _ _ ih => rw [List.length_cons, List.length_cons, ih]
theorem Lk.imp {S : α → β → Prop} (h : Lk R xs ys) (f : ∀ x y, R x y → S x y) : Lk S xs ys := by
  induction h with
  | nil => exact .nil
  | cons h _ ih => exact .cons (f _ _ h) ih
theorem Lk.append (h : Lk R xs ys) (k : Lk R xs2 ys2) : Lk R (xs ++ xs2) (ys ++ ys2) := by
  induction h with
  | nil => exact k
  | cons h _ ih => exact .cons h ih
theorem Lk.one {x : α} {y : β} (h : R x y) : Lk R [x] [y] := .cons h .nil
theorem Lk.get (h : Lk R xs ys) : ∀ {i : Nat} {x : α}, xs[i]? = some x → ∃ y, ys[i]? = some y ∧ R x y := by
  induction h with
  | nil => intro i x e; simp at e
  | cons h _ ih =>
    intro i x e
    match i, e with
    | 0, e =>
      simp at e
      exact ⟨_, rfl, e ▸ h⟩
    | i + 1, e => exact ih (i := i) (by simpa using e)
theorem Lk.memL (h : Lk R xs ys) : ∀ {x : α}, x ∈ xs → ∃ y ∈ ys, R x y := by
  induction h with
  | nil => intro x e; cases e
  | cons h _ ih =>
    intro x e
    rcases List.mem_cons.mp e with rfl | e
    · exact ⟨_, List.mem_cons_self .., h⟩
    · obtain ⟨y, hy, r⟩ := ih e
      exact ⟨y, List.mem_cons_of_mem _ hy, r⟩
theorem Lk.memR (h : Lk R xs ys) : ∀ {y : β}, y ∈ ys → ∃ x ∈ xs, R x y := by
  induction h with
  | nil => intro x e; cases e
  | cons h _ ih =>
    intro x e
    rcases List.mem_cons.mp e with rfl | e
    · exact ⟨_, List.mem_cons_self .., h⟩
    · obtain ⟨y, hy, r⟩ := ih e
      exact ⟨y, List.mem_cons_of_mem _ hy, r⟩
theorem Lk.take (h : Lk R xs ys) (n : Nat) : Lk R (xs.take n) (ys.take n) := by
  induction h generalizing n with
  | nil => rw [List.take_nil, List.take_nil]; exact .nil
  | cons h _ ih =>
    cases n with
    | zero => exact .nil
    | succ n => exact .cons h (ih n)
theorem Lk.drop (h : Lk R xs ys) (n : Nat) : Lk R (xs.drop n) (ys.drop n) := by
  induction h generalizing n with
  | nil => rw [List.drop_nil, List.drop_nil]; exact .nil
  | cons h t ih =>
    cases n with
    | zero => exact .cons h t
    | succ n => exact ih n
end
/-- a term by a name of its own -/
def tW (t : TE) : TE := t
theorem pe_w {X : Cx} {e : Expr} {t : TE} (h : PE X e t) : PE X e (tW t) := h
theorem yesT {σ : L2.St} {H : Hp} {f g : Hp → Prop} (h : f H) : tYes σ H (fun b H3 => if b = true then f H3 else g H3) := by
  show if true = true then f H else g H
  rw [if_pos rfl]
  exact h
/-- rules whose terms speak of K alone, for use within a comprehension -/
theorem pi_tupK {X : Cx} {tg l : Expr} {tl : TE} (K : PySem.W.Frag) (hl : PE X l tl) (hK : X.K = K := by rfl) : PI X tg l (iTup K tl) := by
  subst hK
  exact pi_tup hl
theorem pi_listK {X : Cx} {tg l : Expr} {tl : TE} (K : PySem.W.Frag) (hl : PE X l tl) (hK : X.K = K := by rfl) : PI X tg l (iList K tl) := by
  subst hK
  exact pi_list hl
theorem sl_tupK {X : Cx} (K : PySem.W.Frag) (hK : X.K = K := by rfl) : SlR X (rSlT K) := by
  subst hK
  exact sl_tup
/-- the inner walk of a comprehension with two clauses -/
theorem lc2_in {J : It} {n : Nat} {G : Hp → Prop} {Y : Nat → Hp → V → Hp → Prop} (wk : L2.Walk J n G Y) {g : TG} {tt : TT} {te : TE} {vs : List Nat} {σ : L2.St} {H0 : Hp} {D : Addr} {Nx : Hp → Prop} (Pv : Nat → Hp → Prop) (h0 : Pv 0 H0) (hG : ∀ i H, i ≤ n → Pv i H → G H)
    (hs : ∀ i x H H', i < n → Pv i H → Y i H x H' → g x (wipe σ vs) H' fun σ3 H5 => wipe σ3 vs = wipe σ vs ∧ tt σ3 H5 fun b H6 =>
      if b = true then te σ3 H6 fun y H7 => ∃ acc, H7 D = some (.lst acc) ∧ acc.length < sizeLine ∧ Pv (i + 1) (upd H7 D (.lst (acc ++ [y]))) else Pv (i + 1) H6) (hd : ∀ H, Pv n H → Nx H) :
    ∃ W1 : Nat → Nat → Hp → Prop, (∃ m, W1 0 m H0) ∧ ∀ j k H, W1 j k H →
      (J.stop j H ∧ Nx H) ∨ (J.go j H ∧ ∃ Nx1 : Hp → Prop, (∀ H', Nx1 H' → ∃ k', k' < k ∧ W1 (j + 1) k' H') ∧ ∀ x H', J.yld j H x H' → g x (wipe σ vs) H' fun σ3 H5 => wipe σ3 vs = wipe σ vs ∧ tt σ3 H5 fun b H6 =>
        if b = true then te σ3 H6 fun y H7 => ∃ acc, H7 D = some (.lst acc) ∧ acc.length < sizeLine ∧ Nx1 (upd H7 D (.lst (acc ++ [y]))) else Nx1 H6) := by
  refine ⟨fun i m H => m + i = n ∧ Pv i H, ⟨n, by omega, h0⟩, fun i m H ⟨hm, p⟩ => ?_⟩
  have gs := hG i H (by omega) p
  rcases Nat.lt_or_ge i n with lt | ge
  · exact .inr ⟨wk.goes i H lt gs, Pv (i + 1), fun H' p' => ⟨m - 1, by omega, by omega, p'⟩, fun x H' y => hs i x H H' lt p (wk.yields i H x H' lt gs y)⟩
  · have e : i = n := by omega
    subst e
    exact .inl ⟨wk.stops H gs, hd H p⟩
/-- the outer walk -/
theorem lc2_out {J : It} {n : Nat} {G : Hp → Prop} {Y : Nat → Hp → V → Hp → Prop} (wk : L2.Walk J n G Y) {g g1 : TG} {tt tt1 : TT} {wi1 : TI} {te : TE} {vs vs1 : List Nat} {σ : L2.St} {H1 : Hp} {D : Addr} {Qd : Hp → Prop} (Pv : Nat → Hp → Prop) (h0 : Pv 0 (upd H1 D (.lst []))) (hG : ∀ i H, i ≤ n → Pv i H → G H)
    (hs : ∀ i x H H', i < n → Pv i H → Y i H x H' → g x (wipe σ vs) H' fun σ2 H2 => wipe σ2 vs = wipe σ vs ∧ tt σ2 H2 fun b H3 =>
      if b = true then wi1 σ2 H3 fun J1 H4 => ∃ W1 : Nat → Nat → Hp → Prop, (∃ m, W1 0 m H4) ∧ ∀ j k H, W1 j k H →
        (J1.stop j H ∧ Pv (i + 1) H) ∨ (J1.go j H ∧ ∃ Nx1 : Hp → Prop, (∀ H', Nx1 H' → ∃ k', k' < k ∧ W1 (j + 1) k' H') ∧ ∀ x H', J1.yld j H x H' → g1 x (wipe σ2 vs1) H' fun σ3 H5 => wipe σ3 vs1 = wipe σ2 vs1 ∧ tt1 σ3 H5 fun b H6 =>
          if b = true then te σ3 H6 fun y H7 => ∃ acc, H7 D = some (.lst acc) ∧ acc.length < sizeLine ∧ Nx1 (upd H7 D (.lst (acc ++ [y]))) else Nx1 H6)
      else Pv (i + 1) H3) (hd : ∀ H, Pv n H → Qd H) :
    ∃ W : Nat → Nat → Hp → Prop, (∃ m, W 0 m (upd H1 D (.lst []))) ∧ ∀ i m H, W i m H →
      (J.stop i H ∧ Qd H) ∨ (J.go i H ∧ ∃ Nx : Hp → Prop, (∀ H', Nx H' → ∃ m', m' < m ∧ W (i + 1) m' H') ∧ ∀ x H', J.yld i H x H' → g x (wipe σ vs) H' fun σ2 H2 => wipe σ2 vs = wipe σ vs ∧ tt σ2 H2 fun b H3 =>
        if b = true then wi1 σ2 H3 fun J1 H4 => ∃ W1 : Nat → Nat → Hp → Prop, (∃ m, W1 0 m H4) ∧ ∀ j k H, W1 j k H →
          (J1.stop j H ∧ Nx H) ∨ (J1.go j H ∧ ∃ Nx1 : Hp → Prop, (∀ H', Nx1 H' → ∃ k', k' < k ∧ W1 (j + 1) k' H') ∧ ∀ x H', J1.yld j H x H' → g1 x (wipe σ2 vs1) H' fun σ3 H5 => wipe σ3 vs1 = wipe σ2 vs1 ∧ tt1 σ3 H5 fun b H6 =>
            if b = true then te σ3 H6 fun y H7 => ∃ acc, H7 D = some (.lst acc) ∧ acc.length < sizeLine ∧ Nx1 (upd H7 D (.lst (acc ++ [y]))) else Nx1 H6)
        else Nx H3) := by
  refine ⟨fun i m H => m + i = n ∧ Pv i H, ⟨n, by omega, h0⟩, fun i m H ⟨hm, p⟩ => ?_⟩
  have gs := hG i H (by omega) p
  rcases Nat.lt_or_ge i n with lt | ge
  · exact .inr ⟨wk.goes i H lt gs, Pv (i + 1), fun H' p' => ⟨m - 1, by omega, by omega, p'⟩, fun x H' y => hs i x H H' lt p (wk.yields i H x H' lt gs y)⟩
  · have e : i = n := by omega
    subst e
    exact .inl ⟨wk.stops H gs, hd H p⟩
end Mz
set_option Elab.async false
set_option linter.all false
set_option maxRecDepth 100000
set_option maxHeartbeats 4000000
namespace Mz
open PySem PySem.Spec PyProof.Rows L2
theorem rd_keep {H H' : Hp} {a : Addr} {u : HO} (h : Rd H a u) (k : ∀ b o, H b = some o → H' b = some o) : Rd H' a u := by
  rcases h with h | ⟨o, h⟩
  · exact .inl (k _ _ h)
  · exact .inr ⟨o, k _ _ h⟩
theorem sqL_keep {K : PySem.W.Frag} {H H' : Hp} {a : Addr} {xs : List V} (h : SqL K H a xs) (k : ∀ b o, H b = some o → H' b = some o) : SqL K H' a xs := by
  rcases h with h | h
  · exact .inl (rd_keep h k)
  · exact .inr h
theorem sqT_keep {K : PySem.W.Frag} {H H' : Hp} {a : Addr} {xs : List V} (h : SqT K H a xs) (k : ∀ b o, H b = some o → H' b = some o) : SqT K H' a xs := by
  rcases h with h | h
  · exact .inl (rd_keep h k)
  · exact .inr h
/-- a place at an address, by its parts -/
def PlR (C : Addr) (H : Hp) : Addr → Str × Int → Prop := fun a p => Pl C H a p.1 p.2
theorem PlR.same {C : Addr} {H H' : Hp} (s : Same H H') {a : Addr} {p : Str × Int} (h : PlR C H a p) : PlR C H' a p := by
  obtain ⟨dx, h⟩ := h
  exact ⟨dx, s _ _ h⟩
abbrev Row := Str × List (Str × Int)
/-- a row: a word with as many places as it wants, each of them one -/
def RwOk (rw : Row) : Prop := plS rw.1 = some (rw.2.length : Int) ∧ ∀ p ∈ rw.2, Good p.1 p.2
/-- a row that is given: a tuple of its word and of what stands for its places -/
def RwG (K : PySem.W.Frag) (C : Addr) (H : Hp) (a : Addr) (rw : Row) : Prop := ∃ items, H a = some (.tup (.str rw.1 :: items)) ∧ Lk (fun v (p : Str × Int) => Pv6 K C H v p.1 p.2) items rw.2 ∧ RwOk rw
theorem RwG.same {K : PySem.W.Frag} {C : Addr} {H H' : Hp} (s : Same H H') {a : Addr} {rw : Row} (h : RwG K C H a rw) : RwG K C H' a rw := by
  obtain ⟨items, h1, h2, h3⟩ := h
  exact ⟨items, s _ _ h1, h2.imp fun _ _ x => x.same s, h3⟩
/-- a row with Place objects -/
def RwP (C : Addr) (H : Hp) (a : Addr) (rw : Row) : Prop := ∃ qs : List Addr, H a = some (.tup (.str rw.1 :: qs.map V.ref)) ∧ Lk (PlR C H) qs rw.2 ∧ RwOk rw
theorem RwP.same {C : Addr} {H H' : Hp} (s : Same H H') {a : Addr} {rw : Row} (h : RwP C H a rw) : RwP C H' a rw := by
  obtain ⟨items, h1, h2, h3⟩ := h
  exact ⟨items, s _ _ h1, h2.imp fun _ _ x => x.same s, h3⟩
theorem Row.le {rw : Row} (h : RwOk rw) : 1 ≤ rw.2.length ∧ rw.2.length ≤ 2 := by
  have := plS_le h.1
  omega
theorem RwG.fct {K : PySem.W.Frag} {C : Addr} {H : Hp} {a : Addr} {rw : Row} (h : RwG K C H a rw) : Fct K C H (.ref a) true := by
  obtain ⟨items, h1, h2, h3⟩ := h
  have hl := h2.length
  have hp1 := h3.1
  refine .inr ⟨a, _, rfl, h1, .inr ⟨_, items, rfl, .inr ⟨rw.1, rfl, .inr ⟨_, h3.1, .inr ⟨by omega, List.replicate items.length true, by simp, fun i v b hv hb => ?_, by simp⟩⟩⟩⟩⟩
  obtain ⟨p, _, hp⟩ := h2.get hv
  have : b = true := by
    have m := List.mem_of_getElem? hb
    exact List.eq_of_mem_replicate m
  rw [this]
  exact hp.pi
def spPlaced (K : PySem.W.Frag) (C : Addr) : Sp := fun vs H Q _ => ∃ (a : Addr) (rw : Row), vs = [.ref a] ∧ RwG K C H a rw ∧ ∀ q H', Same H H' → H q = none → RwP C H' q rw → Q (.ref q) H'
/-- all the places of rows -/
def plsOf (rws : List Row) : List (Str × Int) := rws.flatMap (·.2)
def spPlacesOf (K : PySem.W.Frag) (C : Addr) : Sp := fun vs H Q _ => ∃ (rl : Addr) (as : List Addr) (rws : List Row), vs = [.ref rl] ∧ SqL K H rl (as.map V.ref) ∧ Lk (RwP C H) as rws ∧ rws.length ≤ 100 ∧
  ∀ (p : Addr) (qs : List Addr) (H' : Hp), Same H H' → H p = none → H' p = some (.lst (qs.map V.ref)) → Lk (PlR C H') qs (plsOf rws) → Q (.ref p) H'
section
variable {P : Program} {w : World} {K : PySem.W.Frag} {mg : Str → Option Value} {base : Heap}
theorem cut1 {x : V} {r : List V} : cutV (x :: r) (some (1 : Int)) none = r := by
  unfold cutV
  have s10 : HT.sIx (r.length + 1) 0 (some (1 : Int)) = 1 := by
    unfold HT.sIx
    simp
  rw [List.length_cons, s10]
  show ((x :: r).drop 1).take (r.length + 1 - 1) = r
  simp
theorem cut1n {x : V} {r : List V} : ¬ (HT.sIx (x :: r).length 0 (some (1 : Int)) = 0 ∧ HT.sIx (x :: r).length (x :: r).length none = (x :: r).length) := by
  have s10 : HT.sIx (r.length + 1) 0 (some (1 : Int)) = 1 := by
    unfold HT.sIx
    simp
  rw [List.length_cons, s10]
  exact fun h => absurd h.1 (by decide)
theorem scPlaced : FnScope ["row", "item"] ["row"] (defScope sPlacedRow) := ⟨rfl, rfl, rfl, by decide +kernel, rfl, by decide +kernel, by decide +kernel⟩
theorem ok_placed {f fO C cX po : Addr} {fd fdO : FuncData} (F : Fun K "placed_row" "placed_row" sPlacedRow f fd) (Z : Cpl K mg C) (O : OfM P w K mg base C cX po fO fdO) : FnOk P w K mg base CX0 6 f fd ["row"] (spPlaced K C) := by
  refine F.ok scPlaced (fun vs H Q E h => ?_) (fun cdv A outer s H vs Q E hr h => ?_)
  · obtain ⟨a, rw, rfl, _⟩ := h
    rfl
  · obtain ⟨a, rw, rfl, ⟨items, ha, hit, hpl⟩, q⟩ := h
    have nd := scPlaced.nd
    refine ⟨_, pss_one (ps_ret (pe_tup (pa_cons (pe_ix ix_tup (pv 0) pe_int (fun _ _ => rfl)) (StX.pa_star (pe_lc (own := [("item", 1)]) (g := gName 1) (tt := tYes) rfl nd (pi_tup (pe_slice sl_tup (pv 0) (po_some pe_int) po_none)) (blkOk_by (N := ["row", "item"]) (sc := defScope sPlacedRow) (by decide +kernel)) (fun _ _ _ _ _ => pg_name (i := 1) nd rfl (Or.inl rfl)) (fun _ _ _ _ _ => pts_nil)
      (fun _ _ _ _ _ => pe_w (pe_cmethS (ES := fun _ => E0) (pe_glob (v := .ref C) rfl Z.mgC rfl) O.rd O.met O.ok hr O.b (fun σ => pass_no) (pa_cons (pv 1) pa_nil)))) pa_nil)))), ?_⟩
    have i0 : atI (V.str rw.1 :: items) (0 : Int) = some (.str rw.1) := atI_nat (xs := V.str rw.1 :: items) (j := 0) rfl
    refine ⟨_, rfl, a, _, _, _, rfl, rfl, SqT.of ha, i0, ?_⟩
    refine ⟨_, rfl, _, rfl, a, _, rfl, SqT.of ha, cut1n, fun p1 n1 => ?_⟩
    rw [cut1]
    have s1 : Same H (upd H p1 (.tup items)) := same_nw n1
    have t1 : upd H p1 (.tup items) p1 = some (.tup items) := upd_same
    generalize upd H p1 (.tup items) = H1 at s1 t1
    refine ⟨p1, rfl, ⟨_, SqT.of t1⟩, fun D nD => ?_⟩
    have p1D : p1 ≠ D := ne_of_none t1 nD
    have oldD : ∀ b o, H b = some o → b ≠ D := fun b o e => ne_of_none (s1 _ _ e) nD
    have hl2 := Row.le hpl
    have hll := hit.length
    refine lc_tup (xs := items) (fun i H' => (∀ b o, b ≠ D → H1 b = some o → H' b = some o) ∧ ∃ qs : List Addr, H' D = some (.lst (qs.map V.ref)) ∧ Lk (PlR C H') qs (rw.2.take i))
      ⟨fun b o n e => by rw [upd_ne n]; exact e, [], upd_same, by rw [List.take_zero]; exact .nil⟩ (fun i H' _ h => SqT.of (h.1 _ _ p1D t1)) ?_ ?_
    · rintro i x H3 hx ⟨keep, qs, hD, hq⟩
      obtain ⟨⟨z, k⟩, hy, pv6⟩ := hit.get hx
      have hi : i < items.length := (List.getElem?_eq_some_iff.mp hx).1
      have old : Same H H3 := fun b o e => keep b o (oldD b o e) (s1 _ _ e)
      have lq := hq.length
      rw [List.length_take] at lq
      have fin : ∀ (r : Addr) (H4 : Hp), Same H3 H4 → Pl C H4 r z k → ∃ acc, H4 D = some (.lst acc) ∧ acc.length < sizeLine ∧ (∀ b o, b ≠ D → H1 b = some o → upd H4 D (.lst (acc ++ [V.ref r])) b = some o) ∧ ∃ qs : List Addr, upd H4 D (.lst (acc ++ [V.ref r])) D = some (.lst (qs.map V.ref)) ∧ Lk (PlR C (upd H4 D (.lst (acc ++ [V.ref r])))) qs (rw.2.take (i + 1)) := by
        intro r H4 s4 pr
        have hD4 := s4 _ _ hD
        have kp : ∀ {b : Addr} {p : Str × Int} (o : HO), PlR C H4 b p → PlR C (upd H4 D o) b p := fun {b p} o ⟨dx, e⟩ => ⟨dx, by rw [upd_ne (fun e2 => by rw [e2, hD4] at e; cases e)]; exact e⟩
        refine ⟨_, hD4, ?_, fun b o n e => by rw [upd_ne n]; exact s4 _ _ (keep b o n e), qs ++ [r], by rw [upd_same, List.map_append]; rfl, ?_⟩
        · rw [List.length_map]
          exact Nat.lt_of_lt_of_le (show qs.length < 10 by omega) (by decide)
        · rw [List.take_succ, hy]
          exact (hq.imp fun _ _ x => kp _ (x.same s4)).append (Lk.one (kp _ pr))
      refine ⟨rfl, ?_⟩
      unfold tYes tW
      refine iteT ⟨rfl, _, rfl, x, rfl, ?_⟩
      rcases pv6.same old with ⟨r, rfl, pr⟩ | ⟨np, ev⟩
      · exact .inl ⟨r, z, k, rfl, pr, fin r H3 (Same.refl _) pr⟩
      · refine .inr ⟨np, fun z2 k2 e p H4 n4 sm pp g => ?_, fun e d H4 n4 sm hd => ?_⟩
        · rw [ev] at e
          cases e
          exact fin p H4 sm pp
        · rw [ev] at e
          cases e
    · rintro H3 ⟨keep, qs, hD, hq⟩
      have old : Same H H3 := fun b o e => keep b o (oldD b o e) (s1 _ _ e)
      rw [List.take_of_length_le (by omega)] at hq
      have lq := hq.length
      refine ⟨D, qs.map V.ref, rfl, .inr (SqL.of hD), ?_⟩
      refine ⟨?_, fun t nt => ?_⟩
      · show (V.str rw.1 :: (qs.map V.ref ++ [])).length ≤ sizeLine
        rw [List.append_nil, List.length_cons, List.length_map]
        exact Nat.le_trans (show qs.length + 1 ≤ 10 by omega) (by decide)
      · refine q t _ (old.trans (same_nw nt)) (old.free nt) ⟨qs, ?_, hq.imp fun _ _ x => x.same (same_nw nt), hpl⟩
        rw [upd_same, List.append_nil]
theorem scPlacesOf : FnScope ["rows", "row", "place"] ["rows"] (defScope sPlacesOf) := ⟨rfl, rfl, rfl, by decide +kernel, rfl, by decide +kernel, by decide +kernel⟩
theorem ok_placesOf {f C : Addr} {fd : FuncData} (F : Fun K "places_of_rows" "places_of_rows" sPlacesOf f fd) : FnOk P w K mg base CX0 1 f fd ["rows"] (spPlacesOf K C) := by
  refine F.ok scPlacesOf (fun vs H Q E h => ?_) (fun cdv A outer s H vs Q E hr h => ?_)
  · obtain ⟨rl, as, rws, rfl, _⟩ := h
    rfl
  · obtain ⟨rl, as, rws, rfl, hL, hR, hn, q⟩ := h
    have nd := scPlacesOf.nd
    refine ⟨_, pss_one (ps_ret (by exact pe_lc2 (own := [("row", 1), ("place", 2)]) (vs1 := [2]) (g := gName 1) (g1 := gName 2) (tt := tYes) (tt1 := tYes) rfl nd (pi_list (pv 0)) (blkOk_by (N := ["rows", "row", "place"]) (sc := defScope sPlacesOf) (by decide +kernel)) (by decide) (fun _ _ _ _ _ => pg_name (i := 1) nd rfl (Or.inl rfl)) (fun _ _ _ _ _ => pts_nil) (fun _ _ _ _ _ => pi_tupK K (pe_slice (sl_tupK K) (pv 1) (po_some pe_int) po_none)) (fun _ _ _ _ _ => pg_name (i := 2) nd rfl (Or.inl rfl)) (fun _ _ _ _ _ => pts_nil) (fun _ _ _ _ _ => pv 2))), ?_⟩
    refine ⟨_, rfl, rl, rfl, ⟨_, hL⟩, fun D nD => ?_⟩
    have oldD : ∀ b o, H b = some o → b ≠ D := fun b o e => ne_of_none e nD
    have big : 1000 ≤ sizeLine := by decide
    have two : ∀ n, (plsOf (rws.take n)).length ≤ 2 * n := by
      intro n
      have all : ∀ l : List Row, (∀ rw ∈ l, rw.2.length ≤ 2) → (plsOf l).length ≤ 2 * l.length := by
        intro l
        induction l with
        | nil => intro _; decide
        | cons r l ih =>
          intro h
          have h1 := h r (List.mem_cons_self ..)
          have h2 := ih fun x hx => h x (List.mem_cons_of_mem _ hx)
          show (r.2 ++ plsOf l).length ≤ _
          rw [List.length_append, List.length_cons]
          omega
      refine Nat.le_trans (all _ fun rw hrw => ?_) (by rw [List.length_take]; omega)
      obtain ⟨a, _, items, _, _, h3⟩ := hR.memR (List.mem_of_mem_take hrw)
      exact (Row.le h3).2
    have lR := hR.length
    refine lc2_out (walk_list (xs := as.map V.ref)) (fun i H' => (∀ b o, b ≠ D → H b = some o → H' b = some o) ∧ ∃ qs : List Addr, H' D = some (.lst (qs.map V.ref)) ∧ Lk (PlR C H') qs (plsOf (rws.take i)))
      ⟨fun b o n e => by rw [upd_ne n]; exact e, [], upd_same, by rw [List.take_zero]; exact .nil⟩ (fun i H' _ h => sqL_keep hL fun b o e => h.1 b o (oldD b o e) e) ?_ ?_
    · rintro i x H1 H2 hi ⟨keep, qs, hD, hq⟩ ⟨rfl, hx⟩
      rw [List.getElem?_map] at hx
      obtain ⟨a, ha, rfl⟩ := Option.map_eq_some_iff.mp hx
      obtain ⟨rw, hrw, items, h1, h2, h3⟩ := hR.get ha
      have hi2 : i < rws.length := (List.getElem?_eq_some_iff.mp hrw).1
      have a2 := keep a _ (oldD a _ h1) h1
      have n2 := h2.length
      refine ⟨rfl, yesT ?_⟩
      refine ⟨_, rfl, _, rfl, a, _, rfl, SqT.of a2, cut1n, fun p1 n1 => ?_⟩
      rw [cut1]
      have s3 : Same H2 (upd H2 p1 (.tup (items.map V.ref))) := same_nw n1
      have t3 : upd H2 p1 (.tup (items.map V.ref)) p1 = some (.tup (items.map V.ref)) := upd_same
      generalize upd H2 p1 (.tup (items.map V.ref)) = H3 at s3 t3
      have hD3 := s3 _ _ hD
      have p1D : p1 ≠ D := fun e => by
        rw [e, hD] at n1
        cases n1
      refine ⟨p1, rfl, ⟨_, SqT.of t3⟩, ?_⟩
      refine lc2_in (walk_tup (xs := items.map V.ref)) (fun j H' => (∀ b o, b ≠ D → H3 b = some o → H' b = some o) ∧ ∃ qs : List Addr, H' D = some (.lst (qs.map V.ref)) ∧ Lk (PlR C H') qs (plsOf (rws.take i) ++ rw.2.take j))
        ⟨fun b o n e => e, qs, hD3, by rw [List.take_zero, List.append_nil]; exact hq.imp fun _ _ x => x.same s3⟩ (fun j H' _ h => SqT.of (h.1 _ _ p1D t3)) ?_ ?_
      · rintro j y H4 H5 hj ⟨keep4, qs4, hD4, hq4⟩ ⟨rfl, hy⟩
        rw [List.getElem?_map] at hy
        obtain ⟨r, hr2, rfl⟩ := Option.map_eq_some_iff.mp hy
        obtain ⟨p, hp, pr⟩ := h2.get hr2
        have l4 := hq4.length
        have t2i := two i
        rw [List.length_append, List.length_take] at l4
        have le2 := (Row.le h3).2
        refine ⟨rfl, yesT ?_⟩
        refine ⟨_, rfl, _, hD4, ?_, fun b o n e => by rw [upd_ne n]; exact keep4 b o n e, qs4 ++ [r], by rw [upd_same, List.map_append]; rfl, ?_⟩
        · rw [List.length_map]
          omega
        · have kp : ∀ {b : Addr} {p : Str × Int} (o : HO), PlR C H5 b p → PlR C (upd H5 D o) b p := fun {b p} o ⟨dx, e⟩ => ⟨dx, by rw [upd_ne (fun e2 => by rw [e2, hD4] at e; cases e)]; exact e⟩
          rw [List.take_succ, hp, ← List.append_assoc]
          refine (hq4.imp fun _ _ x => kp _ x).append (Lk.one (kp _ ?_))
          obtain ⟨dx, e⟩ := pr
          exact ⟨dx, keep4 _ _ (oldD _ _ e) (s3 _ _ (keep _ _ (oldD _ _ e) e))⟩
      · rintro H4 ⟨keep4, qs4, hD4, hq4⟩
        refine ⟨fun b o n e => keep4 b o n (s3 _ _ (keep b o n e)), qs4, hD4, ?_⟩
        rw [List.length_map, n2, List.take_length] at hq4
        rw [List.take_succ, hrw]
        unfold plsOf
        rw [List.flatMap_append]
        show Lk _ _ (plsOf (rws.take i) ++ (rw.2 ++ []))
        rw [List.append_nil]
        exact hq4
    · rintro H1 ⟨keep, qs, hD, hq⟩
      rw [List.length_map, List.take_of_length_le (by omega)] at hq
      exact q D qs H1 (fun b o e => keep b o (oldD b o e) e) nD hD hq
end
end Mz
set_option Elab.async false
set_option linter.all false
set_option maxRecDepth 100000
set_option maxHeartbeats 4000000
namespace Mz
open PySem PySem.Spec PyProof.Rows L2
/-- the names of places, ascending -/
def Unk (ps : List (Str × Int)) (ys : List Str) : Prop := sortedS ys = true ∧ ys.Nodup ∧ ∀ z, z ∈ ys ↔ z ≠ "" ∧ ∃ k, (z, k) ∈ ps
def spUnkOf (K : PySem.W.Frag) (C : Addr) : Sp := fun vs H Q _ => ∃ (pl : Addr) (qs : List Addr) (ps : List (Str × Int)), vs = [.ref pl] ∧ SqL K H pl (qs.map V.ref) ∧ Lk (PlR C H) qs ps ∧ ps.length < 60 ∧
  ∀ (p : Addr) (ys : List Str) (H' : Hp), Same H H' → H p = none → H' p = some (.lst (ys.map V.str)) → Unk ps ys → Q (.ref p) H'
section
variable {P : Program} {w : World} {K : PySem.W.Frag} {mg : Str → Option Value} {base : Heap}
theorem scUnkOf : FnScope ["places", "place"] ["places"] (defScope sUnkOf) := ⟨rfl, rfl, rfl, by decide +kernel, rfl, by decide +kernel, by decide +kernel⟩
theorem ok_unkOf {f C pb gb : Addr} {fd fdb : FuncData} (F : Fun K "unknowns_of" "unknowns_of" sUnkOf f fd) (Z : Cpl K mg C) (mS : mg "sorted" = none) (pB : PropOf K C "base" pb gb) (Gb : FnOk P w K mg base CX0 1 gb fdb ["self"] (spBase C)) (bb : Binds K fdb ["self"] []) :
    FnOk P w K mg base CX0 3 f fd ["places"] (spUnkOf K C) := by
  refine F.ok scUnkOf (fun vs H Q E h => ?_) (fun cdv A outer s H vs Q E hr h => ?_)
  · obtain ⟨pl, qs, ps, rfl, _⟩ := h
    rfl
  · obtain ⟨pl, qs, ps, rfl, hL, hq, hn, q⟩ := h
    have nd := scUnkOf.nd
    refine ⟨_, pss_one (ps_ret (pe_callB (cr_sortSet rfl) (by rfl) mS (by decide +kernel) (pa_cons (pe_scS (own := [("place", 1)]) (g := gName 1) rfl nd (pi_list (pv 0)) (blkOk_by (N := ["places", "place"]) (sc := defScope sUnkOf) (by decide +kernel)) (fun _ _ _ _ _ => pg_name (i := 1) nd rfl (Or.inl rfl)) (fun _ _ _ _ _ => pts_one (pt_cmpR op_ne (pe_w (pe_prop (pv 1) Z.cl pB Gb hr bb .nil pass0 rfl)) pe_str (nomark _))) (fun _ _ _ _ _ => pe_w (pe_prop (pv 1) Z.cl pB Gb hr bb .nil pass0 rfl))) pa_nil))), ?_⟩
    refine ⟨_, rfl, pl, rfl, ⟨_, hL⟩, fun D nD => ?_⟩
    have oldD : ∀ b o, H b = some o → b ≠ D := fun b o e => ne_of_none e nD
    have lq := hq.length
    refine scS_it (P := P) (w := w) (walk_list (xs := qs.map V.ref)) (fun i H' => (∀ b o, b ≠ D → H b = some o → H' b = some o) ∧ ∃ (S : Str → Bool) (n : Nat), H' D = some (SetS P w D S n) ∧ n ≤ i ∧ ∀ z, S z = true ↔ z ≠ "" ∧ ∃ k, (z, k) ∈ ps.take i)
      ⟨fun b o n e => by rw [upd_ne n]; exact e, _, 0, upd_same, Nat.le_refl _, fun z => by simp⟩ (fun i H' _ h => sqL_keep hL fun b o e => h.1 b o (oldD b o e) e) ?_ ?_
    · rintro i x H1 H2 hi ⟨keep, S, n, hD, hni, hS⟩ ⟨rfl, hx⟩
      rw [List.getElem?_map] at hx
      obtain ⟨a, ha, rfl⟩ := Option.map_eq_some_iff.mp hx
      obtain ⟨⟨z, k⟩, hp, dx, pa⟩ := hq.get ha
      have pa2 := keep a _ (oldD a _ pa) pa
      have tk : ps.take (i + 1) = ps.take i ++ [(z, k)] := by rw [List.take_succ, hp]; rfl
      rw [List.length_map] at hi
      have sb : 1000 < scanBound := by decide
      refine ⟨rfl, ?_⟩
      refine ⟨_, rfl, a, dx, _, rfl, pa2, a, z, k, rfl, ⟨dx, pa2⟩, ?_⟩
      refine ⟨rfl, _, rfl, ?_⟩
      by_cases e : z = ""
      · subst e
        refine iteF ⟨keep, S, n, hD, by omega, fun y => ?_⟩
        rw [hS y, tk]
        constructor
        · rintro ⟨h1, k1, h2⟩
          exact ⟨h1, k1, List.mem_append_left _ h2⟩
        · rintro ⟨h1, k1, h2⟩
          rcases List.mem_append.mp h2 with h2 | h2
          · exact ⟨h1, k1, h2⟩
          · cases List.mem_singleton.mp h2
            exact absurd rfl h1
      · rw [show (!decide (V.str z = V.str "")) = true by rw [decide_eq_false (fun x => e (V.str.inj x))]; rfl]
        refine iteT ⟨_, rfl, a, dx, _, rfl, pa2, a, z, k, rfl, ⟨dx, pa2⟩, z, S, n, rfl, hD, by omega, fun b o n2 e2 => by rw [upd_ne n2]; exact keep b o n2 e2, _, _, upd_same, ?_, fun y => ?_⟩
        · split <;> omega
        · rw [Bool.or_eq_true, decide_eq_true_eq, hS y, tk]
          constructor
          · rintro (⟨h1, k1, h2⟩ | rfl)
            · exact ⟨h1, k1, List.mem_append_left _ h2⟩
            · exact ⟨e, k, List.mem_append_right _ (List.mem_singleton.mpr rfl)⟩
          · rintro ⟨h1, k1, h2⟩
            rcases List.mem_append.mp h2 with h2 | h2
            · exact .inl ⟨h1, k1, h2⟩
            · cases List.mem_singleton.mp h2
              exact .inr rfl
    · rintro H1 ⟨keep, S, n, hD, hni, hS⟩
      rw [List.length_map] at hni
      rw [List.length_map, List.take_of_length_le (by omega)] at hS
      have old : Same H H1 := fun b o e => keep b o (oldD b o e) e
      exact ⟨D, S, n, rfl, hD, by omega, fun ys p h1 h2 h3 h4 np => q p ys _ (old.trans (same_nw np)) (old.free np) upd_same ⟨h1, h2, fun z => (h3 z).trans (hS z)⟩⟩
end
end Mz
set_option Elab.async false
set_option linter.all false
set_option maxRecDepth 100000
set_option maxHeartbeats 4000000
namespace Mz
open PySem PySem.Spec PyProof.Rows L2
/-- the value of a place at sizes -/
def wtP (kvs : List (Key × V)) (p : Str × Int) : Int := (wtK kvs p.1 p.2).getD 0
/-- whether a setting keeps a row -/
def keepR (kvs : List (Key × V)) (pg : Int) (rw : Row) : Bool := match rw.2 with
  | [p] => decide (wtP kvs p % pg = 0)
  | [p, r] => decide (wtP kvs p ≤ wtP kvs r)
  | _ => false
/-- a setting has all that a row wants -/
def HasR (kvs : List (Key × V)) (rw : Row) : Prop := ∀ p ∈ rw.2, ∃ n, wtK kvs p.1 p.2 = some n
def spHasSizes (K : PySem.W.Frag) (S : Addr) : Sp := fun vs H Q _ => ∃ (s ul : Addr) (kvs : List (Key × V)) (pg : Int) (ys : List Str), vs = [.ref s, .ref ul] ∧ Stg S H s kvs pg ∧ SqL K H ul (ys.map V.str) ∧ (∀ y ∈ ys, Sm 1000 y) ∧ ys.length ≤ 100 ∧
  ∀ H', Same H H' → Q (.bl (ys.all fun y => (valV kvs (.inr y)).isSome)) H'
def spKeeps (K : PySem.W.Frag) (S C : Addr) : Sp := fun vs H Q _ => ∃ (s a : Addr) (kvs : List (Key × V)) (pg : Int) (rw : Row), vs = [.ref s, .ref a] ∧ Stg S H s kvs pg ∧ KInt kvs ∧ 1 ≤ pg ∧ RwP C H a rw ∧ HasR kvs rw ∧ ∀ H', Same H H' → Q (.bl (keepR kvs pg rw)) H'
section
variable {P : Program} {w : World} {K : PySem.W.Frag} {mg : Str → Option Value} {base : Heap}
theorem scHasSizes : FnScope ["setting", "unknowns", "name"] ["setting", "unknowns"] (defScope sHasSizes) := ⟨rfl, rfl, rfl, by decide +kernel, rfl, by decide +kernel, by decide +kernel⟩
theorem ok_hasSizes {f S g5 : Addr} {fd fd5 : FuncData} (F : Fun K "has_sizes" "has_sizes" sHasSizes f fd) (D : Blp mg) (GC : FnOk P w K mg base CX0 1 g5 fd5 ["self", "x"] (spContS K S)) (bC : Binds K fd5 ["self", "x"] []) (iC : PySem.W.findIn K (.ref S) "__contains__" = some (some (.ref g5))) (jC : PySem.W.isFn K (.ref g5) = true) :
    FnOk P w K mg base CX0 2 f fd ["setting", "unknowns"] (spHasSizes K S) := by
  refine F.ok scHasSizes (fun vs H Q E h => ?_) (fun cdv A outer s H vs Q E hr h => ?_)
  · obtain ⟨s, ul, kvs, pg, ys, rfl, _⟩ := h
    rfl
  · obtain ⟨st, ul, kvs, pg, ys, rfl, hst, hL, hsm, hn, q⟩ := h
    have nd := scHasSizes.nd
    refine ⟨_, pss_one (ps_ret (pe_callB (cr_all rfl) (by rfl) D.all (by decide +kernel) (pa_cons (pe_lc (own := [("name", 2)]) (g := gName 2) (tt := tYes) rfl nd (pi_list (pv 1)) (blkOk_by (N := ["setting", "unknowns", "name"]) (sc := defScope sHasSizes) (by decide +kernel)) (fun _ _ _ _ _ => pg_name (i := 2) nd rfl (Or.inl rfl)) (fun _ _ _ _ _ => pts_nil)
      (fun _ _ _ _ _ => pe_w (pe_cmpR (op_inO GC hr bC iC jC) (pv 2) (pv 0) (by rfl)))) pa_nil))), ?_⟩
    refine ⟨_, rfl, ul, rfl, ⟨_, hL⟩, fun Dd nD => ?_⟩
    have oldD : ∀ b o, H b = some o → b ≠ Dd := fun b o e => ne_of_none e nD
    refine lc_it (walk_list (xs := ys.map V.str)) (fun i H' => (∀ b o, b ≠ Dd → H b = some o → H' b = some o) ∧ H' Dd = some (.lst (((ys.take i).map fun y => (valV kvs (.inr y)).isSome).map V.bl)))
      ⟨fun b o n e => by rw [upd_ne n]; exact e, upd_same⟩ (fun i H' _ h => sqL_keep hL fun b o e => h.1 b o (oldD b o e) e) ?_ ?_
    · rintro i x H1 H2 hi ⟨keep, hD⟩ ⟨rfl, hx⟩
      rw [List.getElem?_map] at hx
      obtain ⟨y, hy, rfl⟩ := Option.map_eq_some_iff.mp hx
      have hm := hsm y (List.mem_of_getElem? hy)
      have old : Same H H2 := fun b o e => keep b o (oldD b o e) e
      obtain ⟨dx, d, h1, h2⟩ := hst.same old
      rw [List.length_map] at hi
      refine ⟨rfl, yesT ?_⟩
      unfold tW
      refine ⟨_, rfl, _, rfl, st, dx, _, rfl, h1, st, .str y, kvs, pg, rfl, ⟨dx, d, h1, h2⟩, .str y hm.1 hm.2, _, rfl, _, hD, ?_, fun b o n e => by rw [upd_ne n]; exact keep b o n e, ?_⟩
      · rw [List.length_map, List.length_map, List.length_take]
        exact Nat.lt_of_lt_of_le (show min i ys.length < 1000 by omega) (by decide)
      · rw [upd_same, List.take_succ, hy, List.map_append, List.map_append]
        rfl
    · rintro H1 ⟨keep, hD⟩
      rw [List.length_map, List.take_length] at hD
      have e : (ys.map fun y => (valV kvs (.inr y)).isSome).all id = ys.all fun y => (valV kvs (.inr y)).isSome := by
        rw [List.all_map]
        rfl
      refine ⟨Dd, ys.map fun y => (valV kvs (.inr y)).isSome, rfl, SqL.of hD, ?_⟩
      rw [e]
      exact q _ fun b o e => keep b o (oldD b o e) e
theorem scKeeps : FnScope ["setting", "row"] ["setting", "row"] (defScope sKeeps) := ⟨rfl, rfl, rfl, by decide +kernel, rfl, by decide +kernel, by decide +kernel⟩
theorem ok_keeps {f S C cX fG pg2 g2 : Addr} {fd fdG fd2 : FuncData} (F : Fun K "keeps" "keeps" sKeeps f fd) (T : Scl K mg S) (GG : FnOk P w K mg base (L2.CX P w) 6 fG fdG ["self", "at"] (spGetS K S C cX)) (bG : Binds K fdG ["self", "at"] [])
    (iG : PySem.W.findIn K (.ref S) "__getitem__" = some (some (.ref fG))) (fG2 : PySem.W.fnIn K fG = true) (jG : PySem.W.isFn K (.ref fG) = true) (pP : PropOf K S "page" pg2 g2) (GP : FnOk P w K mg base CX0 1 g2 fd2 ["self"] (spPageS S)) (bP : Binds K fd2 ["self"] []) :
    FnOk P w K mg base CX0 8 f fd ["setting", "row"] (spKeeps K S C) := by
  refine F.ok scKeeps (fun vs H Q E h => ?_) (fun cdv A outer s H vs Q E hr h => ?_)
  · obtain ⟨s, a, kvs, pg, rw, rfl, _⟩ := h
    rfl
  · obtain ⟨st, a, kvs, pg, rw, rfl, hst, hki, hpg, ⟨qs, ha, hq, hpl, _⟩, hh, q⟩ := h
    have hr2 : Room 2 _ := hr.mono (by decide)
    refine ⟨_, pss_cons (ps_if (pt_cmpR op_eq (pe_ix ix_tup (pv 1) pe_int (fun _ _ => rfl)) pe_str (nomark _)) (pss_one (ps_ret (pe_cmpR op_eq (pe_op op_modN (pe_subS (E := fun _ => E0) GG hr bG iG fG2 jG (fun σ => pass_no) (pv 0) (pe_ix ix_tup (pv 1) pe_int (fun _ _ => rfl))) (pe_prop (pv 0) T.cl pP GP hr2 bP .nil pass0 rfl)) pe_int (nomark _)))) pss_nil)
      (pss_one (ps_ret (pe_cmpR op_le (pe_subS (E := fun _ => E0) GG hr bG iG fG2 jG (fun σ => pass_no) (pv 0) (pe_ix ix_tup (pv 1) pe_int (fun _ _ => rfl))) (pe_subS (E := fun _ => E0) GG hr bG iG fG2 jG (fun σ => pass_no) (pv 0) (pe_ix ix_tup (pv 1) pe_int (fun _ _ => rfl))) (nomark _)))), ?_⟩
    have i0 : atI (V.str rw.1 :: qs.map V.ref) (0 : Int) = some (.str rw.1) := atI_nat (xs := V.str rw.1 :: qs.map V.ref) (j := 0) rfl
    refine ⟨_, rfl, a, _, _, _, rfl, rfl, SqT.of ha, i0, rfl, _, rfl, ?_⟩
    have lq := hq.length
    have plv : ∀ {H2 : Hp} {r : Addr} {p : Str × Int}, Same H H2 → PlR C H r p → PlV K C H2 kvs (.ref r) (wtK kvs p.1 p.2) := fun {H2 r p} sm pr => .inl ⟨r, p.1, p.2, rfl, pr.same sm, rfl⟩
    obtain ⟨dx, d, h1, h2⟩ := id hst
    obtain ⟨wd, prs⟩ := rw
    match prs, hq, hpl, hh, q, lq with
    | [p], .cons (x := r) pr .nil, hpl, hh, q, _ =>
      have ew : wd = "page" := by
        by_cases e1 : wd = "at_most"
        · subst e1
          cases hpl
        · have hpl : plS wd = some 1 := hpl
          unfold plS at hpl
          rw [if_neg e1] at hpl
          split at hpl
          · assumption
          · cases hpl
      obtain ⟨n, hn⟩ := hh p (List.mem_singleton.mpr rfl)
      rw [decide_eq_true (by rw [ew])]
      have i1 : atI [V.str wd, V.ref r] (1 : Int) = some (.ref r) := rfl
      refine iteT ⟨_, rfl, _, rfl, a, _, _, _, rfl, rfl, SqT.of ha, i1, st, dx, _, rfl, h1, st, .ref r, kvs, pg, _, rfl, hst, hki, plv (Same.refl H) pr, fun m hm H1 s1 => ?_, fun e => by rw [hn] at e; cases e⟩
      rw [hn] at hm
      cases hm
      obtain ⟨dx1, d1, h11, h21⟩ := hst.same s1
      refine ⟨_, rfl, st, dx1, _, rfl, h11, st, kvs, pg, rfl, ⟨dx1, d1, h11, h21⟩, _, _, rfl, rfl, by omega, rfl, ?_⟩
      have e : keepR kvs pg (wd, [p]) = decide (V.int (n.fmod pg) = V.int 0) := by
        show decide (wtP kvs p % pg = 0) = _
        unfold wtP
        rw [hn, Int.fmod_eq_emod_of_nonneg _ (by omega)]
        exact decide_eq_decide.mpr ⟨fun x => by rw [← x]; rfl, fun x => V.int.inj x⟩
      rw [← e]
      exact q H1 s1
    | [p, p2], .cons (x := r) pr (.cons (x := r2) pr2 .nil), hpl, hh, q, _ =>
      have ew : ¬ wd = "page" := fun e => by
        subst e
        cases hpl
      obtain ⟨n, hn⟩ := hh p (by simp)
      obtain ⟨n2, hn2⟩ := hh p2 (by simp)
      rw [decide_eq_false (fun x => ew (V.str.inj x))]
      have i1 : atI [V.str wd, V.ref r, V.ref r2] (1 : Int) = some (.ref r) := rfl
      have i2 : atI [V.str wd, V.ref r, V.ref r2] (2 : Int) = some (.ref r2) := rfl
      refine iteF ⟨_, rfl, _, rfl, a, _, _, _, rfl, rfl, SqT.of ha, i1, st, dx, _, rfl, h1, st, .ref r, kvs, pg, _, rfl, hst, hki, plv (Same.refl H) pr, fun m hm H1 s1 => ?_, fun e => by rw [hn] at e; cases e⟩
      rw [hn] at hm
      cases hm
      obtain ⟨dx1, d1, h11, h21⟩ := hst.same s1
      refine ⟨_, rfl, _, rfl, a, _, _, _, rfl, rfl, SqT.of (s1 _ _ ha), i2, st, dx1, _, rfl, h11, st, .ref r2, kvs, pg, _, rfl, ⟨dx1, d1, h11, h21⟩, hki, plv s1 pr2, fun m hm H2 s2 => ?_, fun e => by rw [hn2] at e; cases e⟩
      rw [hn2] at hm
      cases hm
      refine ⟨_, _, rfl, rfl, ?_⟩
      have e : keepR kvs pg (wd, [p, p2]) = decide (n ≤ n2) := by
        show decide (wtP kvs p ≤ wtP kvs p2) = _
        unfold wtP
        rw [hn, hn2]
        rfl
      show Q (.bl (decide (n ≤ n2))) H2
      rw [← e]
      exact q H2 (s1.trans s2)
    | [], _, hpl, _, _, _ =>
      have h0 : (1 : Int) ≤ 0 := (plS_le hpl).1
      omega
    | _ :: _ :: _ :: _, _, hpl, _, _, _ =>
      have := (plS_le hpl).2
      simp only [List.length_cons] at this
      omega
end
end Mz
set_option Elab.async false
set_option linter.all false
set_option maxRecDepth 100000
set_option maxHeartbeats 4000000
namespace Mz
open PySem PySem.Spec PyProof.Rows L2
theorem FctT.same {K : PySem.W.Frag} {C : Addr} {H H' : Hp} {l : List V} {t : Bool} (s : Same H H') (h : FctT K C H l t) : FctT K C H' l t := by
  rcases h with h | ⟨x, r, e, h⟩
  · exact .inl h
  · refine .inr ⟨x, r, e, ?_⟩
    rcases h with ⟨ty, h1, h2⟩ | ⟨z, e1, h⟩
    · exact .inl ⟨ty, ty_at (fun a _ o e => s a o e) h1, h2⟩
    · refine .inr ⟨z, e1, ?_⟩
      rcases h with h | ⟨n, h1, h⟩
      · exact .inl h
      · refine .inr ⟨n, h1, ?_⟩
        rcases h with h | ⟨h2, ts, h3, h4, h5⟩
        · exact .inl h
        · exact .inr ⟨h2, ts, h3, fun i v b a c => (h4 i v b a c).same s, h5⟩
theorem Fct.same {K : PySem.W.Frag} {C : Addr} {H H' : Hp} {v : V} {t : Bool} (s : Same H H') (h : Fct K C H v t) : Fct K C H' v t := by
  rcases h with ⟨ty, h1, h2⟩ | ⟨a, l, e, h1, h2⟩
  · exact .inl ⟨ty, ty_at (fun a _ o e => s a o e) h1, h2⟩
  · exact .inr ⟨a, l, e, s _ _ h1, h2.same s⟩
def fcF (rl ul : Addr) : List (Str × V) := putF "_unknowns" (.ref ul) (putF "_rows" (.ref rl) [])
theorem fcF_rows {rl ul : Addr} : (fcF rl ul).lookup ("_rows" : Str) = some (.ref rl) := by
  unfold fcF
  rw [lookup_putF, if_neg (by decide +kernel), lookup_putF, if_pos rfl]
theorem fcF_unk {rl ul : Addr} : (fcF rl ul).lookup ("_unknowns" : Str) = some (.ref ul) := by
  unfold fcF
  rw [lookup_putF, if_pos rfl]
/-- facts, by their rows -/
def Fac (F C : Addr) (H : Hp) (f : Addr) (rws : List Row) : Prop := ∃ (dx rl ul : Addr) (as : List Addr) (ys : List Str), H f = some (.ins F dx (fcF rl ul)) ∧ H rl = some (.lst (as.map V.ref)) ∧ Lk (RwP C H) as rws ∧ H ul = some (.lst (ys.map V.str)) ∧ Unk (plsOf rws) ys ∧ ys.length ≤ 2 ∧ rws.length ≤ 20
theorem Fac.same {F C : Addr} {H H' : Hp} {f : Addr} {rws : List Row} (s : Same H H') (h : Fac F C H f rws) : Fac F C H' f rws := by
  obtain ⟨dx, rl, ul, as, ys, h1, h2, h3, h4, h5⟩ := h
  exact ⟨dx, rl, ul, as, ys, s _ _ h1, s _ _ h2, h3.imp fun _ _ x => x.same s, s _ _ h4, h5⟩
/-- facts just made: their lists are new -/
def FacN (F C : Addr) (H0 H : Hp) (f : Addr) (rws : List Row) : Prop := ∃ (dx rl ul : Addr) (as : List Addr) (ys : List Str), H f = some (.ins F dx (fcF rl ul)) ∧ H rl = some (.lst (as.map V.ref)) ∧ Lk (RwP C H) as rws ∧ H ul = some (.lst (ys.map V.str)) ∧ Unk (plsOf rws) ys ∧ ys.length ≤ 2 ∧ rws.length ≤ 20 ∧ H0 rl = none ∧ H0 ul = none
theorem FacN.fac {F C : Addr} {H0 H : Hp} {f : Addr} {rws : List Row} (h : FacN F C H0 H f rws) : Fac F C H f rws := by
  obtain ⟨dx, rl, ul, as, ys, h1, h2, h3, h4, h5, h6, h7, _⟩ := h
  exact ⟨dx, rl, ul, as, ys, h1, h2, h3, h4, h5, h6, h7⟩
theorem FacN.old {F C : Addr} {H0 H1 H : Hp} {f : Addr} {rws : List Row} (s : Same H0 H1) (h : FacN F C H1 H f rws) : FacN F C H0 H f rws := by
  obtain ⟨dx, rl, ul, as, ys, h1, h2, h3, h4, h5, h6, h7, h8, h9⟩ := h
  exact ⟨dx, rl, ul, as, ys, h1, h2, h3, h4, h5, h6, h7, s.free h8, s.free h9⟩
structure Fcl (K : PySem.W.Frag) (mg : Str → Option Value) (F : Addr) : Prop where
  cl : Cls K F
  nR : NoAttr K F "_rows"
  nU : NoAttr K F "_unknowns"
  mgF : mg "Facts" = some (.ref F)
def spInitF (K : PySem.W.Frag) (C F cR cF : Addr) : Sp := fun vs H Q E => ∃ (p dx tp : Addr) (vals : List V), vs = [.ref p, .ref tp] ∧ H p = some (.ins F dx []) ∧ H tp = some (.tup vals) ∧ vals.length ≤ 20 ∧
  ((∃ (as : List Addr) (rws : List Row), vals = as.map V.ref ∧ Lk (RwG K C H) as rws ∧
      (((∀ ys, Unk (plsOf rws) ys → ys.length ≤ 2) ∧ ∀ H', (∀ q o, q ≠ p → H q = some o → H' q = some o) → FacN F C H H' p rws → Q .non H') ∨
        ((∀ ys, Unk (plsOf rws) ys → ¬ ys.length ≤ 2) ∧ ∀ d H', H d = none → Same H H' → H' d = some (.xd [("value", .ref tp)]) → E (.ref cF) (some d) H'))) ∨
    ∃ (i : Nat) (v : V), vals[i]? = some v ∧ (∀ (j : Nat) (u : V), j < i → vals[j]? = some u → Fct K C H u true) ∧ Fct K C H v false ∧ ∀ d H', H d = none → Same H H' → H' d = some (.xd [("value", v)]) → E (.ref cR) (some d) H')
section
variable {P : Program} {w : World} {K : PySem.W.Frag} {mg : Str → Option Value} {base : Heap}
theorem scXinitR : FnScope ["self", "value"] ["self", "value"] (defScope (inClass sInvFact 0)) := ⟨rfl, rfl, rfl, by decide +kernel, rfl, by decide +kernel, by decide +kernel⟩
theorem ok_xinitR {f C cM : Addr} {fd : FuncData} (F : Fun K "__init__" "InvalidFact.__init__" (inClass sInvFact 0) f fd) (T : Xcl K mg "InvalidFact" C "value") (mM : mg "MapError" = some (.ref cM)) (rd : ClX.CRead K cM (.type "type"))
    (fc : PySem.W.findCls K (.ref cM) (.type "type") "__init__" = some (.val (.builtin "ValueError.__init__"))) : FnOk P w K mg base CX0 1 f fd ["self", "value"] (spX1 K C "value") := by
  refine F.ok scXinitR (fun vs H Q E h => ?_) (fun cdv A outer s H vs Q E hr h => ?_)
  · obtain ⟨a, v, rfl, _⟩ := h
    rfl
  · obtain ⟨a, v, rfl, ha, q⟩ := h
    refine ⟨_, pss_cons (ps_expr (pe_meinit (by rfl) mM rd fc (pa_cons (pv 0) (pa_cons pe_str pa_nil)))) (pss_one (ps_ost (pv 0) (pv 1))), ?_⟩
    refine ⟨_, rfl, a, C, _, rfl, (by show 1 ≤ 1000; decide), T.ox, ha, ?_⟩
    exact ⟨_, rfl, _, rfl, a, C, rfl, T.ox, T.no, .inl ⟨ha, fun dx n1 n2 => q dx n1 n2⟩⟩
theorem scXinitFs : FnScope ["self", "value"] ["self", "value"] (defScope (inClass sInvFacts 0)) := ⟨rfl, rfl, rfl, by decide +kernel, rfl, by decide +kernel, by decide +kernel⟩
theorem ok_xinitFs {f C cM : Addr} {fd : FuncData} (F : Fun K "__init__" "InvalidFacts.__init__" (inClass sInvFacts 0) f fd) (T : Xcl K mg "InvalidFacts" C "value") (mM : mg "MapError" = some (.ref cM)) (rd : ClX.CRead K cM (.type "type"))
    (fc : PySem.W.findCls K (.ref cM) (.type "type") "__init__" = some (.val (.builtin "ValueError.__init__"))) : FnOk P w K mg base CX0 1 f fd ["self", "value"] (spX1 K C "value") := by
  refine F.ok scXinitFs (fun vs H Q E h => ?_) (fun cdv A outer s H vs Q E hr h => ?_)
  · obtain ⟨a, v, rfl, _⟩ := h
    rfl
  · obtain ⟨a, v, rfl, ha, q⟩ := h
    refine ⟨_, pss_cons (ps_expr (pe_meinit (by rfl) mM rd fc (pa_cons (pv 0) (pa_cons pe_str pa_nil)))) (pss_one (ps_ost (pv 0) (pv 1))), ?_⟩
    refine ⟨_, rfl, a, C, _, rfl, (by show 1 ≤ 1000; decide), T.ox, ha, ?_⟩
    exact ⟨_, rfl, _, rfl, a, C, rfl, T.ox, T.no, .inl ⟨ha, fun dx n1 n2 => q dx n1 n2⟩⟩
theorem scInitF : FnScope ["self", "rows", "row", "placed", "unknowns"] ["self", "rows"] (defScope (inClass sFacts 0)) := ⟨rfl, rfl, rfl, by decide +kernel, rfl, by decide +kernel, by decide +kernel⟩
/-- what a class with one exception wants for a raise -/
structure Xr (P : Program) (w : World) (K : PySem.W.Frag) (mg : Str → Option Value) (base : Heap) (x : Str) (c f : Addr) (fd : FuncData) : Prop where
  T : Xcl K mg x c "value"
  G : FnOk P w K mg base CX0 1 f fd ["self", "value"] (spX1 K c "value")
  i : PySem.W.findIn K (.ref c) "__init__" = some (some (.ref f))
  t : PySem.W.typeIn K (.ref f) = some (.type "function")
  b : Binds K fd ["self", "value"] []
/-- a def of the module by its name -/
structure D1 (P : Program) (w : World) (K : PySem.W.Frag) (mg : Str → Option Value) (base : Heap) (x : Str) (k : Nat) (ps : List Str) (sp : Sp) (f : Addr) (fd : FuncData) : Prop where
  ok : FnOk P w K mg base CX0 k f fd ps sp
  m : mg x = some (.ref f)
  k : PySem.W.keepIn K (.ref f) = true
  b : Binds K fd ps []
theorem ok_initF {f C F cR cF fR fF f1 f2 f3 f4 : Addr} {fd fdR fdF fd1 fd2 fd3 fd4 : FuncData} {t : Tok} (F0 : Fun K "__init__" "Facts.__init__" (inClass sFacts 0) f fd) (T : Fcl K mg F) (XR : Xr P w K mg base "InvalidFact" cR fR fdR) (XF : Xr P w K mg base "InvalidFacts" cF fF fdF) (B : Blt mg)
    (G1 : D1 P w K mg base "is_fact" 7 ["value"] (spIsFact K C) f1 fd1) (G2 : D1 P w K mg base "placed_row" 6 ["row"] (spPlaced K C) f2 fd2) (G3 : D1 P w K mg base "places_of_rows" 1 ["rows"] (spPlacesOf K C) f3 fd3) (G4 : D1 P w K mg base "unknowns_of" 3 ["places"] (spUnkOf K C) f4 fd4)
    (mU : mg "MOST_UNKNOWNS" = some (.int 2 t))
    (hb : ∀ us rest : List Value, us.length = (["self"] : List Str).length → bindArgs fd ⟨us ++ rest, []⟩ = (newTuple rest >>= fun t => pure ((["self"] : List Str).zip us ++ [(("rows" : Str), t)]))) :
    FnR P w K mg base (L2.CX P w) 8 f (fun vs H Q E => ∃ ws rest, vs = ws ++ rest ∧ ws.length = (["self"] : List Str).length ∧ rest.length ≤ sizeLine ∧ ∀ p, H p = Option.none → spInitF K C F cR cF (ws ++ [V.ref p]) (upd H p (.tup rest)) Q E) := by
  obtain ⟨oc, od, kV, doc, pm, an, cdv, ct, osl, rfl, lk, hcd⟩ := F0.ex
  refine StX.fn_star (k := 7) lk hcd scInitF StX.cxUp hb fun A outer s H vs Q E hr h => ?_
  obtain ⟨p, dx, tp, vals, rfl, hp, ht, hn, h⟩ := h
  have nd := scInitF.nd
  have hr1 : Room 1 _ := hr.mono (by decide)
  have hr2 : Room 2 _ := hr.mono (by decide)
  have hr3 : Room 3 _ := hr.mono (by decide)
  have hr6 : Room 6 _ := hr.mono (by decide)
  refine ⟨_, pss_cons (ps_for (passes_of rfl) rfl (pi_tup (pv 1)) (pg_name (i := 2) nd rfl (Or.inl rfl)) (pss_one (ps_if (pt_not (pt_val (pe_call G1.ok hr (by rfl) G1.m G1.k G1.b .nil pass0 (pa_cons (pv 2) pa_nil)))) (pss_one (ps_raise rfl (takes_of rfl rfl rfl rfl) (pmk_oex XR.T.ox XR.i XR.t XR.G hr2 XR.b .nil pass0 (by rfl) XR.T.m (pa_cons (pv 2) pa_nil)))) pss_nil)))
    (pss_cons (ps_setLc (i := 3) (own := [("row", 2)]) (g := gName 2) (tt := tYes) rfl nd rfl rfl (sw_true rfl rfl rfl (by decide +kernel)) (pi_tup (pv 1)) (blkOk_by (N := ["self", "rows", "row", "placed", "unknowns"]) (sc := defScope (inClass sFacts 0)) (by decide +kernel)) (fun _ _ _ _ _ => pg_name (i := 2) nd rfl (Or.inl rfl)) (fun _ _ _ _ _ => pts_nil) (fun _ _ _ _ _ => pe_call G2.ok hr6 (by rfl) G2.m G2.k G2.b .nil pass0 (pa_cons (pv 2) pa_nil)))
    (pss_cons (ps_set (i := 4) nd rfl (Or.inl rfl) (pe_call G4.ok hr3 (by rfl) G4.m G4.k G4.b .nil pass0 (pa_cons (pe_call G3.ok hr1 (by rfl) G3.m G3.k G3.b .nil pass0 (pa_cons (pv 3) pa_nil)) pa_nil)))
    (pss_cons (ps_if (pt_cmpR op_gt (pe_callB call_len_seq (by rfl) B.len PySem.boot_len (pa_cons (pv 4) pa_nil)) (pe_glob (v := .int 2) rfl mU ⟨_, rfl⟩) (nomark _)) (pss_one (ps_raise rfl (takes_of rfl rfl rfl rfl) (pmk_oex XF.T.ox XF.i XF.t XF.G hr2 XF.b .nil pass0 (by rfl) XF.T.m (pa_cons (pv 1) pa_nil)))) pss_nil)
    (pss_cons (ps_fld (pv 0) (pv 3) rfl) (pss_one (ps_fld (pv 0) (pv 4) rfl)))))), ?_⟩
  refine ⟨_, rfl, tp, rfl, ⟨_, SqT.of ht⟩, ?_⟩
  -- the first row that is none, or all are rows
  obtain ⟨ib, hg, hbad, hgood⟩ : ∃ ib : Nat, (∀ (j : Nat) (u : V), j < ib → vals[j]? = some u → Fct K C H u true) ∧
      (∀ v, vals[ib]? = some v → Fct K C H v false ∧ ∀ d H', H d = none → Same H H' → H' d = some (.xd [("value", v)]) → E (.ref cR) (some d) H') ∧
      (vals[ib]? = none → ∃ (as : List Addr) (rws : List Row), vals = as.map V.ref ∧ Lk (RwG K C H) as rws ∧
        (((∀ ys, Unk (plsOf rws) ys → ys.length ≤ 2) ∧ ∀ H', (∀ q o, q ≠ p → H q = some o → H' q = some o) → FacN F C H H' p rws → Q .non H') ∨
          ((∀ ys, Unk (plsOf rws) ys → ¬ ys.length ≤ 2) ∧ ∀ d H', H d = none → Same H H' → H' d = some (.xd [("value", .ref tp)]) → E (.ref cF) (some d) H'))) := by
    rcases h with ⟨as, rws, e, hR, h⟩ | ⟨i, v, hi, hg, hf, q⟩
    · refine ⟨vals.length, fun j u hj hu => ?_, fun v hv => ?_, fun _ => ⟨as, rws, e, hR, h⟩⟩
      · rw [e, List.getElem?_map] at hu
        obtain ⟨a, ha, rfl⟩ := Option.map_eq_some_iff.mp hu
        obtain ⟨rw, _, r⟩ := hR.get ha
        exact r.fct
      · rw [List.getElem?_eq_none (Nat.le_refl _)] at hv
        cases hv
    · refine ⟨i, hg, fun u hu => ?_, fun e => ?_⟩
      · rw [hi] at hu
        cases hu
        exact ⟨hf, q⟩
      · rw [hi] at e
        cases e
  clear h
  refine for_tup (K := K) (a := tp) (xs := vals) (fun j σ H' => ∃ x2 : Option V, σ = [some (.ref p), some (.ref tp), x2, none, none] ∧ Same H H' ∧ j ≤ ib) ⟨_, rfl, Same.refl _, Nat.zero_le _⟩ (fun j σ H' _ ⟨_, _, s, _⟩ => SqT.of (s _ _ ht)) ?_ ?_
  · rintro j x σ H1 hx ⟨x2, rfl, s1, hj⟩
    generalize hDE : ({ nx := _, rt := _, bk := _, ct := _ } : Ends) = DE
    have enx : ∀ σ' H', (∃ x2 : Option V, σ' = [some (.ref p), some (.ref tp), x2, none, none] ∧ Same H H' ∧ j + 1 ≤ ib) → DE.nx σ' H' := fun σ' H' h => by
      rw [← hDE]
      exact h
    clear hDE
    rcases Nat.lt_or_ge j ib with lt | ge
    · refine ⟨_, rfl, x, true, rfl, (hg j x lt hx).same s1, fun H2 s2 => ⟨_, rfl, iteF ?_⟩⟩
      exact enx _ _ ⟨_, rfl, s1.trans s2, lt⟩
    · have ej : j = ib := by omega
      subst ej
      obtain ⟨hf, q⟩ := hbad x hx
      refine ⟨_, rfl, x, false, rfl, hf.same s1, fun H2 s2 => ⟨_, rfl, iteT (mko_x1 rfl fun d H' nd s3 hd => q d H' ((s1.trans s2).free nd) ((s1.trans s2).trans s3) hd)⟩⟩
  · rintro σ H1 ⟨x2, rfl, s1, hj⟩
    obtain ⟨as, rws, rfl, hR, h⟩ := hgood (List.getElem?_eq_none hj)
    clear hgood hbad hg
    have ht1 := s1 _ _ ht
    have hp1 := s1 _ _ hp
    refine ⟨_, rfl, tp, rfl, ⟨_, SqT.of ht1⟩, fun D nD => ?_⟩
    have oldD : ∀ b o, H b = some o → b ≠ D := fun b o e => ne_of_none (s1 _ _ e) nD
    have oldD1 : ∀ b o, H1 b = some o → b ≠ D := fun b o e => ne_of_none e nD
    have lR := hR.length
    rw [List.length_map] at hn
    refine lc_tup (xs := as.map V.ref) (fun i H' => (∀ b o, b ≠ D → H1 b = some o → H' b = some o) ∧ ∃ bs : List Addr, H' D = some (.lst (bs.map V.ref)) ∧ Lk (RwP C H') bs (rws.take i))
      ⟨fun b o n e => by rw [upd_ne n]; exact e, [], upd_same, by rw [List.take_zero]; exact .nil⟩ (fun i H' _ h => SqT.of (h.1 _ _ (oldD1 _ _ ht1) ht1)) ?_ ?_
    · rintro i x H3 hx ⟨keep, bs, hD, hB⟩
      rw [List.getElem?_map] at hx
      obtain ⟨a, ha, rfl⟩ := Option.map_eq_some_iff.mp hx
      obtain ⟨rw, hrw, r⟩ := hR.get ha
      have hi : i < rws.length := (List.getElem?_eq_some_iff.mp hrw).1
      have old : Same H H3 := fun b o e => keep b o (oldD b o e) (s1 _ _ e)
      have lB := hB.length
      rw [List.length_take] at lB
      refine ⟨rfl, yesT ?_⟩
      refine ⟨_, rfl, a, rw, rfl, r.same old, fun q2 H4 s4 nq r4 => ?_⟩
      have hD4 := s4 _ _ hD
      have kp : ∀ {b : Addr} {rw : Row} (o : HO), RwP C H4 b rw → RwP C (upd H4 D o) b rw := fun {b rw} o ⟨qs, e1, e2, e3⟩ => by
        refine ⟨qs, by rw [upd_ne (fun e => by rw [e, hD4] at e1; cases e1)]; exact e1, e2.imp fun y z ⟨dx, e⟩ => ⟨dx, ?_⟩, e3⟩
        rw [upd_ne (fun e0 => by rw [e0, hD4] at e; cases e)]
        exact e
      refine ⟨_, hD4, ?_, fun b o n e => by rw [upd_ne n]; exact s4 _ _ (keep b o n e), bs ++ [q2], by rw [upd_same, List.map_append]; rfl, ?_⟩
      · rw [List.length_map]
        exact Nat.lt_of_lt_of_le (show bs.length < 100 by omega) (by decide)
      · rw [List.take_succ, hrw]
        exact (hB.imp fun _ _ x => kp _ (x.same s4)).append (Lk.one (kp _ r4))
    · rintro H3 ⟨keep, bs, hD, hB⟩
      rw [List.length_map, List.take_of_length_le (by omega)] at hB
      have s13 : Same H1 H3 := fun b o e => keep b o (oldD1 b o e) e
      have lB := hB.length
      refine ⟨_, rfl, D, bs, rws, rfl, SqL.of hD, hB, by omega, fun pl qs H4 s4 npl hpl hq => ?_⟩
      have l2 : (plsOf rws).length ≤ 2 * rws.length := by
        have all : ∀ l : List Row, (∀ rw ∈ l, rw.2.length ≤ 2) → (plsOf l).length ≤ 2 * l.length := by
          intro l
          induction l with
          | nil => intro _; decide
          | cons r l ih =>
            intro h
            have h1 := h r (List.mem_cons_self ..)
            have h2 := ih fun x hx => h x (List.mem_cons_of_mem _ hx)
            show (r.2 ++ plsOf l).length ≤ _
            rw [List.length_append, List.length_cons]
            omega
        refine all _ fun rw hrw => ?_
        obtain ⟨a, _, items, _, _, h3⟩ := hR.memR hrw
        exact (Row.le h3).2
      refine ⟨pl, qs, plsOf rws, rfl, SqL.of hpl, hq, by omega, fun ul ys H5 s5 nul hul hU => ?_⟩
      refine ⟨_, rfl, ul, _, rfl, .inl (SqL.of hul), _, _, rfl, rfl, _, rfl, ?_⟩
      have s35 := s4.trans s5
      have s05 : Same H H5 := (s1.trans s13).trans s35
      rcases h with ⟨two, q⟩ | ⟨more, q⟩
      · have ly := two ys hU
        rw [decide_eq_false (by rw [List.length_map]; omega)]
        refine iteF ?_
        have hp5 := s05 _ _ hp
        have nR := lR
        refine ⟨_, rfl, _, rfl, p, F, dx, _, rfl, hp5, T.cl, T.nR, (by show 0 < 1000; decide), _, rfl, _, rfl, p, F, dx, _, rfl, upd_same, T.cl, T.nU, (by show 1 < 1000; decide), ?_⟩
        rw [upd_upd]
        have other : ∀ b o, b ≠ p → H5 b = some o → upd H5 p (.ins F dx (fcF D ul)) b = some o := fun b o n e => by
          rw [upd_ne n]
          exact e
        have np : ∀ {b : Addr} {o : HO}, H5 b = some o → (∀ z, o ≠ .ins F dx z) → b ≠ p := fun {b o} e n x => by
          rw [x, hp5] at e
          cases e
          exact n _ rfl
        refine q _ (fun b o n e => other b o n (s05 _ _ e)) ⟨dx, D, ul, bs, ys, upd_same, other _ _ (np (s35 _ _ hD) (fun z => by intro e; cases e)) (s35 _ _ hD), hB.imp fun b rw ⟨qs2, e1, e2, e3⟩ => ?_, other _ _ (np hul (fun z => by intro e; cases e)) hul, hU, ly, by omega, s1.free nD, (s1.trans (s13.trans s4)).free nul⟩
        refine ⟨qs2, other _ _ (np (s35 _ _ e1) (fun z => by intro e; cases e)) (s35 _ _ e1), e2.imp fun y z ⟨dy, e⟩ => ⟨dy, ?_⟩, e3⟩
        refine other _ _ (fun x => ?_) (s35 _ _ e)
        have e' := s35 _ _ e
        rw [x, hp5] at e'
        injection e' with e'
        injection e' with _ _ e'
        have pne : ∀ (a : Str) (b : Int), plF a b ≠ [] := fun a b e => by
          have z := congrArg (fun l : List (Str × V) => l.lookup ("_shift" : Str)) e
          unfold plF at z
          rw [lookup_putF, if_pos rfl] at z
          cases z
        exact pne _ _ e'.symm
      · have ly := more ys hU
        rw [decide_eq_true (by rw [List.length_map]; omega)]
        exact iteT (mko_x1 rfl fun d H' nd s6 hd => q d H' (s05.free nd) (s05.trans s6) hd)
end
end Mz
set_option Elab.async false
set_option linter.all false
set_option maxRecDepth 100000
set_option maxHeartbeats 4000000
namespace Mz
open PySem PySem.Spec PyProof.Rows L2
/-- a setting has sizes for all names of rows -/
def hasAll (kvs : List (Key × V)) (rws : List Row) : Bool := (plsOf rws).all fun p => decide (p.1 = "") || (valV kvs (.inr p.1)).isSome
def spHolds (K : PySem.W.Frag) (F S C cS : Addr) : Sp := fun vs H Q E => ∃ (f : Addr) (v : V) (rws : List Row), vs = [.ref f, v] ∧ Fac F C H f rws ∧
  ((∃ (s : Addr) (kvs : List (Key × V)) (pg : Int), v = .ref s ∧ Stg S H s kvs pg ∧ KInt kvs ∧ 1 ≤ pg ∧ hasAll kvs rws = true ∧ ∀ H', Same H H' → Q (.bl (rws.all (keepR kvs pg))) H') ∨
    (((∃ (s : Addr) (kvs : List (Key × V)) (pg : Int), v = .ref s ∧ Stg S H s kvs pg ∧ hasAll kvs rws = false) ∨ Oty K S H v) ∧ ∀ d H', H d = none → Same H H' → H' d = some (.xd [("value", v)]) → E (.ref cS) (some d) H'))
theorem Fac.ok {F C : Addr} {H : Hp} {f : Addr} {rws : List Row} (h : Fac F C H f rws) : ∀ rw ∈ rws, RwOk rw := by
  obtain ⟨dx, rl, ul, as, ys, h1, h2, h3, _⟩ := h
  intro rw hrw
  obtain ⟨a, _, qs, _, _, h4⟩ := h3.memR hrw
  exact h4
theorem has_unk {kvs : List (Key × V)} {rws : List Row} {ys : List Str} (h : Unk (plsOf rws) ys) : (ys.all fun y => (valV kvs (.inr y)).isSome) = hasAll kvs rws := by
  rw [Bool.eq_iff_iff, List.all_eq_true]
  unfold hasAll
  rw [List.all_eq_true]
  constructor
  · intro a p hp
    by_cases e : p.1 = ""
    · rw [decide_eq_true e, Bool.true_or]
    · rw [a p.1 ((h.2.2 p.1).mpr ⟨e, p.2, hp⟩), Bool.or_true]
  · intro a y hy
    obtain ⟨e, k, hk⟩ := (h.2.2 y).mp hy
    have z := a _ hk
    rw [decide_eq_false e, Bool.false_or] at z
    exact z
theorem hasR_of {kvs : List (Key × V)} {rws : List Row} (hk : KInt kvs) (h : hasAll kvs rws = true) : ∀ rw ∈ rws, HasR kvs rw := by
  intro rw hrw p hp
  have m : p ∈ plsOf rws := List.mem_flatMap.mpr ⟨rw, hrw, hp⟩
  have z := List.all_eq_true.mp h p m
  unfold wtK
  by_cases e : p.1 = ""
  · exact ⟨p.2, if_pos e⟩
  · rw [if_neg e]
    rw [decide_eq_false e, Bool.false_or] at z
    obtain ⟨v, hv⟩ := Option.isSome_iff_exists.mp z
    obtain ⟨n, rfl⟩ := hk _ _ hv
    rw [hv]
    exact ⟨_, rfl⟩
section
variable {P : Program} {w : World} {K : PySem.W.Frag} {mg : Str → Option Value} {base : Heap}
theorem scHolds : FnScope ["self", "setting", "row"] ["self", "setting"] (defScope (inClass sFacts 3)) := ⟨rfl, rfl, rfl, by decide +kernel, rfl, by decide +kernel, by decide +kernel⟩
theorem ok_holds {f F S C cS fS f1 f2 : Addr} {fd fdS fd1 fd2 : FuncData} (F0 : Fun K "holds" "Facts.holds" (inClass sFacts 3) f fd) (T : Fcl K mg F) (TS : Scl K mg S) (Y : Pty K S) (XS : Xr P w K mg base "InvalidSetting" cS fS fdS) (D : Blp mg)
    (G1 : D1 P w K mg base "has_sizes" 2 ["setting", "unknowns"] (spHasSizes K S) f1 fd1) (G2 : D1 P w K mg base "keeps" 8 ["setting", "row"] (spKeeps K S C) f2 fd2) :
    FnOk P w K mg base (L2.CX P w) 9 f fd ["self", "setting"] (spHolds K F S C cS) := by
  refine F0.okX scHolds (fun vs H Q E h => ?_) (fun cdv A outer s H vs Q E hr h => ?_)
  · obtain ⟨f, v, rws, rfl, _⟩ := h
    rfl
  · obtain ⟨fa, v, rws, rfl, hf, h⟩ := h
    have nd := scHolds.nd
    have hr2 : Room 2 _ := hr.mono (by decide)
    refine ⟨_, pss_cons (ps_if (PW.pt (pw_or (pt_not (pt_val (pe_callB call_isi (by rfl) D.isi (by decide +kernel) (pa_cons (pv 1) (pa_cons (pe_glob (v := .ref S) rfl TS.mgS rfl) pa_nil))))) (pw_or1 (pt_not (pt_val (pe_call G1.ok hr2 (by rfl) G1.m G1.k G1.b .nil pass0 (pa_cons (pv 1) (pa_cons (pe_fld (pv 0) rfl) pa_nil))))))))
        (pss_one (ps_raise rfl (takes_of rfl rfl rfl rfl) (pmk_oex XS.T.ox XS.i XS.t XS.G hr2 XS.b .nil pass0 (by rfl) XS.T.m (pa_cons (pv 1) pa_nil)))) pss_nil)
      (pss_cons (ps_for (passes_of rfl) rfl (pi_list (pe_fld (pv 0) rfl)) (pg_name (i := 2) nd rfl (Or.inl rfl)) (pss_one (ps_if (pt_not (pt_val (pe_call G2.ok hr (by rfl) G2.m G2.k G2.b .nil pass0 (pa_cons (pv 1) (pa_cons (pv 2) pa_nil))))) (pss_one (ps_ret pe_bl)) pss_nil)))
      (pss_one (ps_ret pe_bl))), ?_⟩
    have hok := hf.ok
    obtain ⟨dx, rl, ul, as, ys, h1, h2, h3, h4, h5, h6, h7⟩ := id hf
    have ysm : ∀ y ∈ ys, Sm 1000 y := fun y hy => by
      obtain ⟨e, k, hk⟩ := (h5.2.2 y).mp hy
      obtain ⟨rw, hrw, hp⟩ := List.mem_flatMap.mp hk
      have g := (hok rw hrw).2 _ hp
      exact ⟨g.1, g.2.1⟩
    refine ⟨_, rfl, ?_⟩
    have isS : ∀ {s : Addr} {kvs : List (Key × V)} {pg : Int}, Stg S H s kvs pg → TyX K H (.ref s) (.ref S) := fun {s kvs pg} ⟨dy, d, hs, _⟩ => .base (.ins hs Y.cl Y.ha Y.hn Y.htk Y.hm)
    rcases h with ⟨s, kvs, pg, rfl, hst, hki, hpg, hall, q⟩ | ⟨h, q⟩
    · refine ⟨.ref s, .ref S, .ref S, .ref S, true, rfl, .own S, isS hst, kit_self, true, rfl, iteF ?_⟩
      refine ⟨_, rfl, _, rfl, fa, F, dx, _, _, rfl, h1, T.cl, T.nU, fcF_unk, s, ul, kvs, pg, ys, rfl, hst, SqL.of h4, ysm, by omega, fun H1 s1 => ⟨_, rfl, ?_⟩⟩
      rw [has_unk h5, hall]
      refine iteF ⟨_, rfl, fa, F, dx, _, _, rfl, s1 _ _ h1, T.cl, T.nR, fcF_rows, rl, rfl, ⟨_, SqL.of (s1 _ _ h2)⟩, ?_⟩
      refine for_list (K := K) (a := rl) (xs := as.map V.ref) (fun j σ H' => ∃ x2 : Option V, σ = [some (.ref fa), some (.ref s), x2] ∧ Same H H' ∧ (rws.take j).all (keepR kvs pg) = true) ⟨_, rfl, s1, rfl⟩ (fun j σ H' _ ⟨_, _, s2, _⟩ => SqL.of (s2 _ _ h2)) ?_ ?_
      · rintro j x σ H2 hx ⟨x2, rfl, s2, hj⟩
        rw [List.getElem?_map] at hx
        obtain ⟨a, ha, rfl⟩ := Option.map_eq_some_iff.mp hx
        obtain ⟨rw, hrw, r⟩ := h3.get ha
        have mem : rw ∈ rws := List.mem_of_getElem? hrw
        generalize hDE : ({ nx := _, rt := _, bk := _, ct := _ } : Ends) = DE
        have enx : ∀ σ' H', (∃ x2 : Option V, σ' = [some (.ref fa), some (.ref s), x2] ∧ Same H H' ∧ (rws.take (j + 1)).all (keepR kvs pg) = true) → DE.nx σ' H' := fun σ' H' h => by
          rw [← hDE]
          exact h
        have ert : DE.rt = Q := by rw [← hDE]
        clear hDE
        refine ⟨_, rfl, _, rfl, s, a, kvs, pg, rw, rfl, hst.same s2, hki, hpg, r.same s2, hasR_of hki hall rw mem, fun H3 s3 => ⟨_, rfl, ?_⟩⟩
        cases hk : keepR kvs pg rw with
        | true =>
          refine iteF (enx _ _ ⟨_, rfl, s2.trans s3, ?_⟩)
          rw [List.take_succ, hrw, List.all_append, hj]
          show (true && (keepR kvs pg rw && true)) = true
          rw [hk]
          rfl
        | false =>
          refine iteT ?_
          show DE.rt (.bl false) H3
          rw [ert]
          have e : rws.all (keepR kvs pg) = false := by
            rw [List.all_eq_false]
            exact ⟨rw, mem, by rw [hk]; decide⟩
          rw [e] at q
          exact q _ (s2.trans s3)
      · rintro σ H2 ⟨x2, rfl, s2, hj⟩
        rw [List.length_map, h3.length, List.take_length] at hj
        rw [hj] at q
        exact q _ s2
    · rcases h with ⟨s, kvs, pg, rfl, hst, hall⟩ | ⟨t, ty, kt⟩
      · refine ⟨.ref s, .ref S, .ref S, .ref S, true, rfl, .own S, isS hst, kit_self, true, rfl, iteF ?_⟩
        refine ⟨_, rfl, _, rfl, fa, F, dx, _, _, rfl, h1, T.cl, T.nU, fcF_unk, s, ul, kvs, pg, ys, rfl, hst, SqL.of h4, ysm, by omega, fun H1 s1 => ⟨_, rfl, ?_⟩⟩
        rw [has_unk h5, hall]
        exact iteT (mko_x1 rfl fun d H' nd2 s2 hd => q d H' (s1.free nd2) (s1.trans s2) hd)
      · exact ⟨v, .ref S, t, .ref S, false, rfl, .own S, ty, kt, false, rfl, iteT (iteT (mko_x1 rfl fun d H' nd2 s2 hd => q d H' nd2 s2 hd))⟩
/-- len -/
def spLenF (F C : Addr) : Sp := fun vs H Q _ => ∃ (f : Addr) (rws : List Row), vs = [.ref f] ∧ Fac F C H f rws ∧ Q (.int (rws.length : Nat)) H
theorem scLenF : FnScope ["self"] ["self"] (defScope (inClass sFacts 5)) := ⟨rfl, rfl, rfl, by decide +kernel, rfl, by decide +kernel, by decide +kernel⟩
theorem ok_lenF {f F C : Addr} {fd : FuncData} (F0 : Fun K "__len__" "Facts.__len__" (inClass sFacts 5) f fd) (T : Fcl K mg F) (B : Blt mg) : FnOk P w K mg base CX0 1 f fd ["self"] (spLenF F C) := by
  refine F0.ok scLenF (fun vs H Q E h => ?_) (fun cdv A outer s H vs Q E hr h => ?_)
  · obtain ⟨f, rws, rfl, _⟩ := h
    rfl
  · obtain ⟨fa, rws, rfl, ⟨dx, rl, ul, as, ys, h1, h2, h3, _⟩, q⟩ := h
    refine ⟨_, pss_one (ps_ret (pe_callB call_len_seq (by rfl) B.len PySem.boot_len (pa_cons (pe_fld (pv 0) rfl) pa_nil))), ?_⟩
    refine ⟨_, rfl, fa, F, dx, _, _, rfl, h1, T.cl, T.nR, fcF_rows, rl, _, rfl, .inl (SqL.of h2), ?_⟩
    rw [List.length_map, h3.length]
    exact q
end
end Mz
set_option Elab.async false
set_option linter.all false
set_option maxRecDepth 100000
set_option maxHeartbeats 4000000
namespace Mz
open PySem PySem.Spec PyProof.Rows L2
theorem RwP.g {K : PySem.W.Frag} {C : Addr} {H : Hp} {a : Addr} {rw : Row} (h : RwP C H a rw) : RwG K C H a rw := by
  obtain ⟨qs, h1, h2, h3⟩ := h
  refine ⟨qs.map V.ref, h1, ?_, h3⟩
  clear h1 h3
  generalize rw.2 = ps at h2
  induction h2 with
  | nil => exact .nil
  | cons h _ ih => exact .cons (.inl ⟨_, rfl, h⟩) ih
/-- the rows have at most two names -/
def Two (rws : List Row) : Prop := ∀ ys, Unk (plsOf rws) ys → ys.length ≤ 2
/-- Facts(..), as its __init__ promises -/
def spMakeF (K : PySem.W.Frag) (C F cR cF : Addr) : Sp := fun vs H Q E => ∃ ws rest, vs = ws ++ rest ∧ ws.length = (["self"] : List Str).length ∧ rest.length ≤ sizeLine ∧ ∀ p, H p = Option.none → spInitF K C F cR cF (ws ++ [V.ref p]) (upd H p (.tup rest)) Q E
theorem mk_facts {K : PySem.W.Frag} {C F cR cF x dx : Addr} {H : Hp} {as : List Addr} {rws : List Row} {R : Addr → Hp → Prop} {E : XK} (nx : H x = Option.none) (ndx : H dx = Option.none) (hR : Lk (RwG K C H) as rws) (hn : rws.length ≤ 20) (h2 : Two rws)
    (q : ∀ f H', Same H H' → H f = none → Fac F C H' f rws → R f H') : spMakeF K C F cR cF (V.ref x :: as.map V.ref) (upd (upd H dx (.own x)) x (.ins F dx [])) (fun v H2 => v = .non ∧ R x H2) E := by
  have sm : Same H (upd (upd H dx (.own x)) x (.ins F dx [])) := fun b o e => by
    rw [upd_ne (ne_of_none e nx), upd_ne (ne_of_none e ndx)]
    exact e
  have tx : upd (upd H dx (.own x)) x (.ins F dx []) x = some (.ins F dx []) := upd_same
  generalize upd (upd H dx (.own x)) x (.ins F dx []) = H1 at sm tx
  have lR := hR.length
  refine ⟨[.ref x], as.map V.ref, rfl, rfl, ?_, fun p np => ?_⟩
  · rw [List.length_map]
    exact Nat.le_trans (show as.length ≤ 100 by omega) (by decide)
  have s2 : Same H1 (upd H1 p (.tup (as.map V.ref))) := same_nw np
  have t2 : upd H1 p (.tup (as.map V.ref)) p = some (.tup (as.map V.ref)) := upd_same
  generalize upd H1 p (.tup (as.map V.ref)) = H2 at s2 t2
  have s02 := sm.trans s2
  refine ⟨x, dx, p, _, rfl, s2 _ _ tx, t2, by rw [List.length_map]; omega, .inl ⟨as, rws, rfl, hR.imp fun _ _ r => r.same s02, .inl ⟨h2, fun H3 k hf => ⟨rfl, q x H3 (fun b o e => k b o (ne_of_none e nx) (s02 _ _ e)) nx hf.fac⟩⟩⟩⟩
theorem mk_factsN0 {K : PySem.W.Frag} {C F cR cF x dx : Addr} {H : Hp} {as : List Addr} {rws : List Row} {R : Addr → Hp → Prop} {E : XK} (nx : H x = Option.none) (ndx : H dx = Option.none) (hR : Lk (RwG K C H) as rws) (hn : rws.length ≤ 20) (h2 : Two rws)
    (q : ∀ f H', Same H H' → H f = none → FacN F C H H' f rws → R f H') : spMakeF K C F cR cF (V.ref x :: as.map V.ref) (upd (upd H dx (.own x)) x (.ins F dx [])) (fun v H2 => v = .non ∧ R x H2) E := by
  have sm : Same H (upd (upd H dx (.own x)) x (.ins F dx [])) := fun b o e => by
    rw [upd_ne (ne_of_none e nx), upd_ne (ne_of_none e ndx)]
    exact e
  have tx : upd (upd H dx (.own x)) x (.ins F dx []) x = some (.ins F dx []) := upd_same
  generalize upd (upd H dx (.own x)) x (.ins F dx []) = H1 at sm tx
  have lR := hR.length
  refine ⟨[.ref x], as.map V.ref, rfl, rfl, ?_, fun p np => ?_⟩
  · rw [List.length_map]
    exact Nat.le_trans (show as.length ≤ 100 by omega) (by decide)
  have s2 : Same H1 (upd H1 p (.tup (as.map V.ref))) := same_nw np
  have t2 : upd H1 p (.tup (as.map V.ref)) p = some (.tup (as.map V.ref)) := upd_same
  generalize upd H1 p (.tup (as.map V.ref)) = H2 at s2 t2
  have s02 := sm.trans s2
  refine ⟨x, dx, p, _, rfl, s2 _ _ tx, t2, by rw [List.length_map]; omega, .inl ⟨as, rws, rfl, hR.imp fun _ _ r => r.same s02, .inl ⟨h2, fun H3 k hf => ⟨rfl, q x H3 (fun b o e => k b o (ne_of_none e nx) (s02 _ _ e)) nx (hf.old s02)⟩⟩⟩⟩
theorem mk_factsA {K : PySem.W.Frag} {C F cR cF : Addr} {H : Hp} {as : List Addr} {rws : List Row} {R : Addr → Hp → Prop} {E : XK} (hR : Lk (RwG K C H) as rws) (hn : rws.length ≤ 20) (h2 : Two rws)
    (q : ∀ f H', Same H H' → H f = none → Fac F C H' f rws → R f H') : ∀ x dx, H x = Option.none → H dx = Option.none → dx ≠ x → spMakeF K C F cR cF (V.ref x :: as.map V.ref) (upd (upd H dx (.own x)) x (.ins F dx [])) (fun v H2 => v = .non ∧ R x H2) E :=
  fun x dx nx ndx _ => mk_facts nx ndx hR hn h2 q
theorem mk_factsN {K : PySem.W.Frag} {C F cR cF : Addr} {H : Hp} {as : List Addr} {rws : List Row} {R : Addr → Hp → Prop} {E : XK} (hR : Lk (RwG K C H) as rws) (hn : rws.length ≤ 20) (h2 : Two rws)
    (q : ∀ f H', Same H H' → H f = none → FacN F C H H' f rws → R f H') : ∀ x dx, H x = Option.none → H dx = Option.none → dx ≠ x → spMakeF K C F cR cF (V.ref x :: as.map V.ref) (upd (upd H dx (.own x)) x (.ins F dx [])) (fun v H2 => v = .non ∧ R x H2) E :=
  fun x dx nx ndx _ => mk_factsN0 nx ndx hR hn h2 q
def spAnd (K : PySem.W.Frag) (F C cF : Addr) : Sp := fun vs H Q E => ∃ (f : Addr) (v : V) (rws : List Row), vs = [.ref f, v] ∧ Fac F C H f rws ∧
  ((∃ (g : Addr) (rws2 : List Row), v = .ref g ∧ Fac F C H g rws2 ∧ (rws ++ rws2).length ≤ 20 ∧ ((Two (rws ++ rws2) ∧ ∀ h H', Same H H' → H h = none → Fac F C H' h (rws ++ rws2) → Q (.ref h) H') ∨
      ((∀ ys, Unk (plsOf (rws ++ rws2)) ys → ¬ ys.length ≤ 2) ∧ ∀ d H', H d = none → Same H H' → H' d = some (.xd [("value", v)]) → E (.ref cF) (some d) H'))) ∨
    (Oty K F H v ∧ ∀ d H', H d = none → Same H H' → H' d = some (.xd [("value", v)]) → E (.ref cF) (some d) H'))
theorem pass_all {X : Cx} : Passes (L2.CX X.prog X.w) X E0 := by
  intro pins σ H s e s2 I c
  obtain ⟨_, _, _, _, _, _, _, _, _, _, _, _, z⟩ := c
  exact z.elim
section
variable {P : Program} {w : World} {K : PySem.W.Frag} {mg : Str → Option Value} {base : Heap}
theorem scAnd : FnScope ["self", "other", "rows"] ["self", "other"] (defScope (inClass sFacts 4)) := ⟨rfl, rfl, rfl, by decide +kernel, rfl, by decide +kernel, by decide +kernel⟩
theorem ok_and {f F C cR cF fI fF f3 f4 : Addr} {fd fdF fd3 fd4 : FuncData} {t : Tok} (F0 : Fun K "__and__" "Facts.__and__" (inClass sFacts 4) f fd) (T : Fcl K mg F) (Y : Pty K F) (XF : Xr P w K mg base "InvalidFacts" cF fF fdF) (B : Blt mg) (D : Blp mg) (M : Mk K F fI) (GI : FnR P w K mg base (L2.CX P w) 8 fI (spMakeF K C F cR cF))
    (G3 : D1 P w K mg base "places_of_rows" 1 ["rows"] (spPlacesOf K C) f3 fd3) (G4 : D1 P w K mg base "unknowns_of" 3 ["places"] (spUnkOf K C) f4 fd4) (mU : mg "MOST_UNKNOWNS" = some (.int 2 t)) :
    FnOk P w K mg base (L2.CX P w) 10 f fd ["self", "other"] (spAnd K F C cF) := by
  refine F0.okX scAnd (fun vs H Q E h => ?_) (fun cdv A outer s H vs Q E hr h => ?_)
  · obtain ⟨f, v, rws, rfl, _⟩ := h
    rfl
  · obtain ⟨fa, v, rws, rfl, hf, h⟩ := h
    have nd := scAnd.nd
    have hr1 : Room 1 _ := hr.mono (by decide)
    have hr2 : Room 2 _ := hr.mono (by decide)
    have hr3 : Room 3 _ := hr.mono (by decide)
    refine ⟨_, pss_cons (ps_if (pt_not (pt_val (pe_callB call_isi (by rfl) D.isi (by decide +kernel) (pa_cons (pv 1) (pa_cons (pe_glob (v := .ref F) rfl T.mgF rfl) pa_nil))))) (pss_one (ps_raise rfl (takes_of rfl rfl rfl rfl) (pmk_oex XF.T.ox XF.i XF.t XF.G hr2 XF.b .nil pass0 (by rfl) XF.T.m (pa_cons (pv 1) pa_nil)))) pss_nil)
      (pss_cons (ps_set (i := 2) nd rfl (Or.inl rfl) (pe_op op_cat (pe_fld (pv 0) rfl) (pe_fld (pv 1) rfl)))
      (pss_cons (ps_if (pt_cmpR op_gt (pe_callB call_len_seq (by rfl) B.len PySem.boot_len (pa_cons (pe_call G4.ok hr3 (by rfl) G4.m G4.k G4.b .nil pass0 (pa_cons (pe_call G3.ok hr1 (by rfl) G3.m G3.k G3.b .nil pass0 (pa_cons (pv 2) pa_nil)) pa_nil)) pa_nil)) (pe_glob (v := .int 2) rfl mU ⟨_, rfl⟩) (nomark _)) (pss_one (ps_raise rfl (takes_of rfl rfl rfl rfl) (pmk_oex XF.T.ox XF.i XF.t XF.G hr2 XF.b .nil pass0 (by rfl) XF.T.m (pa_cons (pv 1) pa_nil)))) pss_nil)
      (pss_one (ps_ret (pe_makeRS (E := E0) M GI hr (by rfl) T.mgF pass_all (pv 2)))))), ?_⟩
    obtain ⟨dx, rl, ul, as, ys, h1, h2, h3, h4, h5, h6, h7⟩ := id hf
    refine ⟨_, rfl, ?_⟩
    rcases h with ⟨g, rws2, rfl, hg, hn, h⟩ | ⟨⟨t0, ty, kt⟩, q⟩
    · obtain ⟨dy, rl2, ul2, as2, ys2, e1, e2, e3, e4, e5, e6, e7⟩ := id hg
      refine ⟨.ref g, .ref F, .ref F, .ref F, true, rfl, .own F, .base (.ins e1 Y.cl Y.ha Y.hn Y.htk Y.hm), kit_self, true, rfl, iteF ?_⟩
      have l1 := h3.length
      have l2 := e3.length
      rw [List.length_append] at hn
      refine ⟨_, rfl, fa, F, dx, _, _, rfl, h1, T.cl, T.nR, fcF_rows, _, rfl, g, F, dy, _, _, rfl, e1, T.cl, T.nR, fcF_rows, rl, rl2, _, _, rfl, rfl, h2, e2, ?_, fun p np => ?_⟩
      · rw [List.length_map, List.length_map]
        exact Nat.le_trans (show as.length + as2.length ≤ 100 by omega) (by decide)
      have s1 : Same H (upd H p (.lst (as.map V.ref ++ as2.map V.ref))) := same_nw np
      have t1 : upd H p (.lst (as.map V.ref ++ as2.map V.ref)) p = some (.lst ((as ++ as2).map V.ref)) := by rw [upd_same, List.map_append]
      generalize upd H p (.lst (as.map V.ref ++ as2.map V.ref)) = H1 at s1 t1
      have hR : Lk (RwP C H1) (as ++ as2) (rws ++ rws2) := (h3.imp fun _ _ x => x.same s1).append (e3.imp fun _ _ x => x.same s1)
      refine ⟨_, rfl, p, as ++ as2, rws ++ rws2, rfl, SqL.of t1, hR, by rw [List.length_append]; omega, fun pl qs H2 s2 npl hpl hq => ?_⟩
      have lp : (plsOf (rws ++ rws2)).length ≤ 2 * (rws ++ rws2).length := by
        have all : ∀ l : List Row, (∀ rw ∈ l, rw.2.length ≤ 2) → (plsOf l).length ≤ 2 * l.length := by
          intro l
          induction l with
          | nil => intro _; decide
          | cons r l ih =>
            intro h
            have h1 := h r (List.mem_cons_self ..)
            have h2 := ih fun x hx => h x (List.mem_cons_of_mem _ hx)
            show (r.2 ++ plsOf l).length ≤ _
            rw [List.length_append, List.length_cons]
            omega
        refine all _ fun rw hrw => ?_
        obtain ⟨a, _, items, _, _, x3⟩ := hR.memR hrw
        exact (Row.le x3).2
      rw [List.length_append] at lp
      refine ⟨pl, qs, _, rfl, SqL.of hpl, hq, by omega, fun u2 zs H3 s3 nu hu hU => ?_⟩
      refine ⟨u2, _, rfl, .inl (SqL.of hu), _, _, rfl, rfl, _, rfl, ?_⟩
      have s03 := s1.trans (s2.trans s3)
      rcases h with ⟨two, q⟩ | ⟨more, q⟩
      · have lz := two zs hU
        rw [decide_eq_false (by rw [List.length_map]; omega)]
        refine iteF ⟨_, rfl, p, _, rfl, .inr (SqL.of (s3 _ _ (s2 _ _ t1))), ?_⟩
        exact fun x dx nx ndx ne => mk_facts nx ndx (hR.imp fun _ _ x => (x.same (s2.trans s3)).g) (by rw [List.length_append]; omega) two fun h H4 s4 nh hh => q h H4 (s03.trans s4) (s03.free nh) hh
      · have lz := more zs hU
        rw [decide_eq_true (by rw [List.length_map]; omega)]
        exact iteT (mko_x1 rfl fun d H' nd2 s4 hd => q d H' (s03.free nd2) (s03.trans s4) hd)
    · exact ⟨v, .ref F, t0, .ref F, false, rfl, .own F, ty, kt, false, rfl, iteT (mko_x1 rfl fun d H' nd2 s2 hd => q d H' nd2 s2 hd)⟩
end
end Mz
set_option Elab.async false
set_option linter.all false
set_option maxRecDepth 100000
set_option maxHeartbeats 4000000
/-! repr of nested lists and tuples that hold instances; defs told what is being shown around them -/
namespace Mz
open PySem PySem.Spec PyProof.Rows L2
/-- nothing that is fresh is being shown -/
def Fr (g : List Code) (H : Hp) : Prop := ∀ b, H b = none → Clear g b
theorem Fr.same {g : List Code} {H H' : Hp} (h : Fr g H) (s : Same H H') : Fr g H' := fun b e => h b (s.free e)
theorem Fr.nil {H : Hp} : Fr [] H := fun b _ => Clear.nil b
theorem Fr.push {g : List Code} {H : Hp} {a : Addr} {o : HO} {id : String} {rest : List Value} {kw : List (Str × Value)} (h : Fr g H) (e : H a = some o) : Fr (.builtin id ⟨.ref a :: rest, kw⟩ :: g) H := fun b hb => (h b hb).cons fun z => by
  rw [z, hb] at e
  cases e
/-- v is shown as t, where the containers as and what is fresh are not being shown -/
def ShW (X : Cx) (k : Nat) (as : List Addr) (Pre : Hp → Prop) (v : V) (t : Str) : Prop :=
  ∀ (base : Nat), base + t.length ≤ sizeLine → ∀ (A : Around) (g : List Code) (pins : List (Addr × Obj)) (σ : L2.St) (H : Hp) (s : Shared) (u : Value) (Q : Str → Shared → Prop), A.frames = some X.stack → A.guards = some g → (∀ b ∈ as, Clear g b) → Fr g H → Room k A →
    Inv X pins σ H s → Pre H → RelV v u → (∀ H' s', Inv X pins σ H' s' → Same H H' → Q t s') → wpAny (model X.prog X.w) A (pyReprUnder base u) Q X.xe s
section
variable {X : Cx} {k : Nat} {as : List Addr} {Pre : Hp → Prop}
theorem ShV.w {v : V} {t : Str} (h : ShV X k as Pre v t) : ShW X k as Pre v t := fun base hb A g pins σ H s u Q f1 f2 f3 _ => h base hb A g pins σ H s u Q f1 f2 f3
theorem ShW.more {as' : List Addr} {v : V} {t : Str} (h : ShW X k as Pre v t) (sub : ∀ b ∈ as, b ∈ as') : ShW X k as' Pre v t := fun base hb A g pins σ H s u Q f1 f2 f3 => h base hb A g pins σ H s u Q f1 f2 fun b m => f3 b (sub b m)
theorem ShW.lift {j : Nat} {v : V} {t : Str} (h : ShW X j as Pre v t) (le : j ≤ k) : ShW X k as Pre v t := fun base hb A g pins σ H s u Q f1 f2 f3 f4 f5 => h base hb A g pins σ H s u Q f1 f2 f3 f4 (f5.mono le)
theorem ShW.pre {Pre2 : Hp → Prop} {v : V} {t : Str} (h : ShW X k as Pre v t) (i : ∀ H, Pre2 H → Pre H) : ShW X k as Pre2 v t := fun base hb A g pins σ H s u Q f1 f2 f3 f4 f5 f6 f7 => h base hb A g pins σ H s u Q f1 f2 f3 f4 f5 f6 (i H f7)
theorem shw_non : ShW X k as Pre .non (PyData.shown .none) := ShV.w (shv_is fun u r => by
  obtain rfl : u = Value.none := r
  simpa only [PyData.shown] using ReprIs.none)
theorem shw_bl {b : Bool} : ShW X k as Pre (.bl b) (PyData.shown (.bool b)) := ShV.w (shv_is fun u r => by
  obtain rfl : u = Value.bool b := r
  simpa only [PyData.shown] using ReprIs.bool b)
/-! tuples -/
theorem frames_code {A : Around} {l : List Env} {id : String} {args : Args} (hid : Code.isFrame (.builtin id args) = false) (h : A.frames = some l) : (A.under (.builtin id args)).frames = some l := by
  first | exact h | (simpa [Around.under, Code.envs, hid, pushEnvs] using h)
theorem room_code {A : Around} {j : Nat} {id : String} {args : Args} (hcu : (A.under (.builtin id args)).units = A.units + 1) (hcd : (A.under (.builtin id args)).depth ≤ A.depth + 1) (r : Room (j + 1) A) : Room j (A.under (.builtin id args)) :=
  ⟨r.hd, by have := r.dp; omega, by have := r.un; rw [hcu]; omega⟩
theorem fold_own {A : Around} {g : List Code} {pins : List (Addr × Obj)} {σ : L2.St} (hfr : A.frames = some X.stack) (hg : A.guards = some g) (hcl : ∀ b ∈ as, Clear g b) (hr : Room k A) (mono : ∀ H H', Same H H' → Pre H → Pre H') :
    ∀ (vs : List V) (us : List Value) (ts : List Str) (acc : Array Str) (n : Nat) (H : Hp) (s : Shared) (Q : (Array Str × Nat) → Shared → Prop), Vals vs us → Lk (fun v t => ShW X k as Pre v t) vs ts → n + piled ts ≤ sizeLine → Inv X pins σ H s → Pre H → Fr g H →
    (∀ H' s', Inv X pins σ H' s' → Same H H' → Q ⟨acc ++ ts.toArray, n + piled ts⟩ s') → wpAny (model X.prog X.w) A (forIn us (⟨acc, n⟩ : (Array Str × Nat)) tupBody) Q X.xe s := by
  intro vs
  induction vs with
  | nil =>
    intro us ts acc n H s Q rv hT _ I _ _ h
    cases hT
    cases rv
    rw [List.forIn_nil]
    refine wpAny_pure ?_
    have z := h H s I (Same.refl H)
    simpa [piled] using z
  | cons v vs ih =>
    intro us ts acc n H s Q rv hT hn I pre fr h
    cases hT with
    | @cons _ t _ ts2 hv hl =>
    cases rv with
    | @cons _ u _ us2 r1 r2 =>
    have ep : n + piled (t :: ts2) = n + (t.length + 2) + piled ts2 := by
      rw [piled_cons]
      omega
    rw [ep] at hn
    rw [List.forIn_cons]
    refine wpAny_bind (wpAny_bind (hv (n + 1) (by omega) A g pins σ H s u (fun t2 s2 => t2 = t ∧ ∃ H', Inv X pins σ H' s2 ∧ Same H H') hfr hg hcl fr hr I pre r1 (fun H' s' I' sm => ⟨rfl, H', I', sm⟩) |> fun z => wpAny_mono z (fun t2 s2 hh => ?_) fun _ _ e => e))
    obtain ⟨rfl, H', I', sm⟩ := hh
    refine wpAny_pure (ih us2 ts2 (acc.push t2) _ H' s2 Q r2 hl hn I' (mono _ _ sm pre) (fr.same sm) fun H2 s3 I2 sm2 => ?_)
    have z := h H2 s3 I2 (sm.trans sm2)
    rw [ep] at z
    simpa using z
/-- the body of tuple.__repr__ -/
theorem tup_own {A : Around} {g : List Code} {pins : List (Addr × Obj)} {σ : L2.St} {a : Addr} {vs : List V} {ts : List Str} {base : Nat} {id : String} {rest : List Value} {R : Result → Shared → Prop} {H : Hp} {s : Shared} (hcg : (Code.builtin id ⟨.ref a :: rest, []⟩).isGuard = true)
    (hcf : Code.isFrame (.builtin id ⟨.ref a :: rest, []⟩) = false) (hcu : (A.under (.builtin id ⟨.ref a :: rest, []⟩)).units = A.units + 1) (hcd : (A.under (.builtin id ⟨.ref a :: rest, []⟩)).depth ≤ A.depth + 1) (hfr : A.frames = some X.stack) (hg : A.guards = some g) (hcl : ∀ b ∈ a :: as, Clear g b) (hr : Room (k + 1) A) (hna : a ∉ as)
    (mono : ∀ H H', Same H H' → Pre H → Pre H') (hT : Lk (fun v t => ShW X k as Pre v t) vs ts) (hsz : base + (tupleText ts).length ≤ sizeLine) (hE : ∀ e s', X.xe e s' → R (.error e) s') (I : Inv X pins σ H s) (pre : Pre H) (fr : Fr g H) (hA : H a = some (.tup vs))
    (q : ∀ H' s' u, Inv X pins σ H' s' → Same H H' → R (.ok (.ret (.str (tupleText ts) u))) s') :
    wpOwn (model X.prog X.w) A (.builtin id ⟨.ref a :: rest, []⟩) (Builtin.tupleReprAt base ⟨[.ref a], []⟩) (fun fin s' => match fin with | .done f => R (.ok f) s' | .again c' => c'.quiet = true ∧ codeAny (model X.prog X.w) A c' R s') (fun e s' => R (.error e) s') s := by
  have cl : Clear g a := hcl a List.mem_cons_self
  obtain ⟨_, its, rv, o, ho, hc, n, hd⟩ := (show ObjOk X.prog X.w H s.heap a (.tup vs) from I.hok a _ hA)
  have pl := piled_le_tupleText ts
  have len : ts.length = its.length := by rw [← hT.length, rv.length]
  have way : (g.any fun c => tupGuardF (.ref a) (c, default)) = false := List.any_eq_false.mpr fun c hm => by
    rw [tupGuardF_of_clear cl c hm]
    exact Bool.false_ne_true
  rw [tuple_repr_tree, tupleReprUnderWay_eq]
  refine wpOwn_bind (wpOwn_stackTailAny hg (tupGuardF_off _) (tupGuardF_pos _) (by
    rw [way]
    refine wpOwn_of_wpAny ?_
    show wpAny _ _ (tupleReprRest base (.ref a)) _ _ s
    unfold tupleReprRest Builtin.Tuple.tupleItemsOf
    refine wpAny_bind (wpAny_bind (wpAny_seqItems ho hd (wpAny_pure ?_)))
    rw [← Array.forIn_toList]
    refine wpAny_bind (wpAny_mono (fold_own (frames_code hcf hfr) (guards_under_guard hcg hg) (fun b hb => (hcl b (.tail _ hb)).cons (a := a) fun e => hna (e ▸ hb)) (room_code hcu hcd hr) mono vs its ts #[] base H s (fun x s2 => x = ⟨#[] ++ ts.toArray, base + piled ts⟩ ∧ ∃ H', Inv X pins σ H' s2 ∧ Same H H') rv hT (by omega) I pre (fr.push hA) fun H' s' I' sm => ⟨rfl, H', I', sm⟩) (fun x s2 hx => ?_) fun e s2 z => hE e s2 z)
    obtain ⟨rfl, H', I', sm⟩ := hx
    refine wpAny_bind (wpAny_mkStr (wpAny_pure ?_) (by simpa [tupleText, len] using (show (tupleText ts).length ≤ sizeLine by omega)))
    have z := q H' { s2 with toks := s2.toks + 1 } s2.toks (I'.tok _) sm
    simpa [tupleText, len] using z))
theorem tup_depth {A : Around} {args : Args} : (A.under (.builtin "tuple.__repr__" args)).depth ≤ A.depth + 1 := by
  first | exact Nat.le_refl _ | (simp [Around.under, Code.weight, Code.isCreation, Code.isGuard, Code.isCaller, Code.frames, Code.isFrame, guardIds])
theorem tupu_depth {A : Around} {args : Args} : (A.under (.builtin "tuple.__repr__.under" args)).depth ≤ A.depth + 1 := by
  first | exact Nat.le_refl _ | (simp [Around.under, Code.weight, Code.isCreation, Code.isGuard, Code.isCaller, Code.frames, Code.isFrame, guardIds])
/-- a tuple in a container -/
theorem shw_tup {a : Addr} {vs : List V} {ts : List Str} (hna : a ∉ as) (mono : ∀ H H', Same H H' → Pre H → Pre H') (hT : Lk (fun v t => ShW X k as Pre v t) vs ts) (hA : ∀ H, Pre H → H a = some (.tup vs)) : ShW X (k + 1) (a :: as) Pre (.ref a) (tupleText ts) := by
  intro base hb A g pins σ H s u Q hfr hg hcl fr hr I pre r q
  obtain rfl : u = Value.ref a := r
  obtain ⟨_, its, rv, o, ho, hc, n, hd⟩ := (show ObjOk X.prog X.w H s.heap a (.tup vs) from I.hok a _ (hA H pre))
  have hun := hr.units
  refine wpAny_pyReprUnder_ref (by omega) (wpAny_pyReprObjUnder_twin (twin := "tuple.__repr__.under") ⟨o, ho, hc⟩ PySem.F.slot_tuple_repr rfl (by omega) ?_)
  exact call_twin_own (PySem.F.quiet_tuple_repr_under _) PySem.F.entry_tuple_repr_under PySem.F.check_tuple_repr_under ⟨o, ho, hc⟩ PySem.F.slot_tuple_repr (PySem.F.args_tuple_repr_1 _)
    (tup_own (R := callEnd (fun v s' => (∃ x u, v = Value.str x u) ∧ ∃ x u, v = .str x u ∧ Q x s') X.xe) (isGuard_tuple_repr_under _) rfl (units_under_tuple_repr_under _ _) tupu_depth hfr hg hcl hr hna mono hT hb (fun _ _ z => z) I pre fr (hA H pre) fun H' s' u I' sm => ⟨⟨_, _, rfl⟩, _, _, rfl, q H' s' I' sm⟩)
/-- repr of a tuple as a call of pyReprObj -/
theorem objRepr_tup {A : Around} {g : List Code} {pins : List (Addr × Obj)} {σ : L2.St} {H : Hp} {s : Shared} {Q : Value → Shared → Prop} {a : Addr} {vs : List V} {ts : List Str} (hna : a ∉ as) (mono : ∀ H H', Same H H' → Pre H → Pre H') (hT : Lk (fun v t => ShW X k as Pre v t) vs ts) (hsz : (tupleText ts).length ≤ sizeLine)
    (hfr : A.frames = some X.stack) (hg : A.guards = some g) (hcl : ∀ b ∈ a :: as, Clear g b) (fr : Fr g H) (hr : Room (k + 1) A) (I : Inv X pins σ H s) (pre : Pre H) (hA : H a = some (.tup vs)) (q : ∀ H' s' u, Inv X pins σ H' s' → Same H H' → Q (.str (tupleText ts) u) s') : wpAny (model X.prog X.w) A (pyReprObj (.ref a)) Q X.xe s := by
  obtain ⟨_, its, rv, o, ho, hc, n, hd⟩ := (show ObjOk X.prog X.w H s.heap a (.tup vs) from I.hok a _ hA)
  have hTy : s.TypeIs (.ref a) "tuple" := ⟨o, ho, hc⟩
  have hun := hr.units
  unfold pyReprObj
  refine wpAny_bind (wpAny_cRoomFor (by omega) ?_)
  refine wpAny_bind (wpAny_specialOf (name := Str.ofString "__repr__") hTy PySem.F.slot_tuple_repr.lookup ?_)
  have fin : ∀ H' s' u, Inv X pins σ H' s' → Same H H' → wpAny (model X.prog X.w) A (do if ← isInstance (.str (tupleText ts) u) (.type "str") then pure (Value.str (tupleText ts) u) else raiseError "TypeError" s!"__repr__ returned non-string (type {← typeNameOf (.str (tupleText ts) u)})") Q X.xe s' := fun H' s' u I' sm =>
    wpAny_bind (wpAny_isInstance (T := "str") (b := true) rfl isSubtype_str_str (wpAny_pure (q H' s' u I' sm)))
  refine wpAny_bind (m := callSpecialIfBound? (.ref a) (Str.ofString "__repr__")) (wpAny_callSpecialIfBound?_slotG (name := Str.ofString "__repr__") hTy PySem.F.slot_tuple_repr (wpAny_call (codeAny_call_builtin_own (Code.quiet_builtin _ (by decide +kernel)) PySem.F.entry_tuple_repr (PySem.F.slot_tuple_repr.check _ _ _ _ _ _ _ _ hTy (PySem.F.args_tuple_repr_1 _)
    (tup_own (base := 0) (R := callEnd _ X.xe) (isGuard_tuple_repr _) rfl (units_under_tuple_repr _ _) tup_depth hfr hg hcl hr hna mono hT (by omega) (fun _ _ z => z) I pre fr hA fun H' s' u I' sm => fin H' s' u I' sm)))))
end
end Mz
set_option Elab.async false
set_option linter.all false
set_option maxRecDepth 100000
set_option maxHeartbeats 4000000
/-! repr of lists whose items are shown as MzReprT says -/
namespace Mz
open PySem PySem.Spec PyProof.Rows L2
theorem Fr.upd {g : List Code} {H : Hp} {P : Addr} {o : HO} (h : Fr g H) : Fr g (L2.upd H P o) := fun b hb => h b (by
  by_cases e : b = P
  · rw [e, upd_same] at hb
    cases hb
  · rw [upd_ne e] at hb
    exact hb)
section
variable {X : Cx} {k : Nat} {as : List Addr} {Pre : Hp → Prop}
/-- the loop of list.__repr__ -/
theorem loop_ownW {A : Around} {g : List Code} {pins : List (Addr × Obj)} {σ : L2.St} {a P : Addr} {vs : List V} {ts : List Str} {base : Nat} {R : Result → Shared → Prop} (hfr : A.frames = some X.stack) (hg : A.guards = some g) (hcl : ∀ b ∈ as, Clear g b) (hr : Room (k + 1) A) (hna : a ∉ as)
    (mono : ∀ H H', Same H H' → Pre H → Pre H') (hne : a ≠ P) (hlen : ts.length = vs.length) (hT : ∀ (i : Nat) (v : V), vs[i]? = some v → ∃ t, ts[i]? = some t ∧ ShW X k as Pre v t) (hsz : base + (listText ts).length ≤ sizeLine) (hE : ∀ e s', X.xe e s' → R (.error e) s') :
    ∀ (n i : Nat) (H : Hp) (s : Shared), vs.length - i = n → i ≤ vs.length → Inv X pins σ H s → (∀ H', (∀ p o, p ≠ P → H p = some o → H' p = some o) → Pre H') → H a = some (.lst vs) → H P = some (.lst ((ts.take i).map V.str)) → Fr g H →
    (∀ H' s' u, Inv X pins σ H' s' → (∀ p o, p ≠ P → H p = some o → H' p = some o) → R (.ok (.ret (.str (listText ts) u))) s') →
    codeAny (model X.prog X.w) A (.builtin "list.__repr__.loop" ⟨[.ref a, rawInt i, .ref P, rawInt ((base + piled (ts.take i) : Nat) : Int)], []⟩) R s := by
  have hL := textFrom_len ts 0 "["
  have hX : (listText ts).length = (textFrom 0 "[" ts).length + 1 := by
    show (textFrom 0 "[" ts ++ "]").length = _
    rw [strLen_append]; rfl
  have hsz1 : vs.length ≤ sizeLine := by
    have h1 := hL.1
    rw [if_neg (Nat.lt_irrefl 0)] at h1
    omega
  have hsz2 : ∀ t ∈ ts, t.length ≤ sizeLine := fun t ht => by
    have h2 := hL.2.1 t ht
    omega
  have hsz3 : (listText ts).length ≤ sizeLine := by omega
  have hp3 := piled_le_listText ts
  intro n
  induction n with
  | zero =>
    intro i H s hk hi I pre hA hP fr q
    obtain ⟨_, its, na, rv, l1, ha⟩ := I.lstM hA
    obtain ⟨_, its2, nc, rv2, l2, hP2⟩ := I.lstM hP
    obtain ⟨done, rfl, hdone⟩ := strs_done rv2
    have hin : i = vs.length := by omega
    refine codeAny_builtin PySem.F.entry_list_repr_loop ?_
    show wpAny _ _ (Builtin.«list.__repr__.loop» ⟨[.ref a, .int i 0, .ref P, .int ((base + piled (ts.take i) : Nat) : Int) 0], []⟩) _ _ s
    rw [repr_loop_tree]
    refine wpAny_bind (wpAny_listItems ha rfl ?_)
    have hnone : its.toArray[(i : Int).toNat]? = none := by simp [hin, l1]
    simp only [hnone]
    unfold reprEnd
    refine wpAny_bind (wpAny_listItems hP2 rfl ?_)
    rw [show (strValues done).toArray.toList = strValues done from rfl, repr_fold]
    refine wpAny_bind (wpAny_pure ?_)
    have hall : done.map (·.1) = ts := by rw [hdone, hin, ← hlen, List.take_length]
    rw [hall]
    refine wpAny_bind (wpAny_mkStr (wpAny_pure ?_) hsz3)
    exact q H _ _ (I.tok _) fun _ _ _ e => e
  | succ n ih =>
    intro i H s hk hi I pre hA hP fr q
    obtain ⟨_, its, na, rv, l1, ha⟩ := I.lstM hA
    have hlt : i < vs.length := by omega
    obtain ⟨t, ht, hrep⟩ := hT i vs[i] (List.getElem?_eq_getElem hlt)
    obtain ⟨u, hu, rel⟩ := rv.get (List.getElem?_eq_getElem hlt)
    have hp1 := piled_take_succ ht
    have hp2 := piled_take_le ts (i + 1)
    refine codeAny_builtin PySem.F.entry_list_repr_loop ?_
    show wpAny _ _ (Builtin.«list.__repr__.loop» ⟨[.ref a, .int i 0, .ref P, .int ((base + piled (ts.take i) : Nat) : Int) 0], []⟩) _ _ s
    rw [repr_loop_tree]
    refine wpAny_bind (wpAny_listItems ha rfl ?_)
    have hsome : its.toArray[(i : Int).toNat]? = some u := by simpa using hu
    simp only [hsome]
    rw [Int.toNat_natCast]
    have hpre : Pre H := pre H fun _ _ _ e => e
    refine wpAny_bind (wpAny_holding (wpAny_mono (hrep (base + piled (ts.take i) + 1) (by omega) _ _ pins σ H s u (fun t' s' => t' = t ∧ ∃ H', Inv X pins σ H' s' ∧ Same H H') (frames_list_loop hfr) (guards_under_guard (isGuard_list_loop _) hg) (fun b hb => (hcl b hb).cons (a := a) fun e => hna (e ▸ hb)) (fr.push hA) (hr.list_loop _) I hpre rel fun H' s' I' sm => ⟨rfl, H', I', sm⟩) (fun t' s' hh => ?_) fun e s' z => hE e s' z))
    obtain ⟨rfl, H', I', sm⟩ := hh
    refine wpAny_bind (wpAny_mkStr ?_ (hsz2 t' (List.mem_of_getElem? ht)))
    refine wpAny_bind ?_
    show wpAny _ _ (updateSeq P _) _ _ _
    have hP' := sm _ _ hP
    obtain ⟨_, its2, nc, rv2, l2, hP2⟩ := I'.lstM hP'
    have take_len : (ts.take i).length ≤ i := by rw [List.length_take]; omega
    have asz : its2.toArray.size ≤ sizeLine := by
      rw [List.size_toArray, ← l2, List.length_map]
      omega
    refine wpAny_updateSeq hP2 rfl (wpAny_pure ⟨PySem.F.quiet_list_repr_loop _, ?_⟩) asz
    have e1 : ((i : Int) + 1) = ((i + 1 : Nat) : Int) := by omega
    have e2 : base + piled (ts.take i) + (t'.length + 2) = base + piled (ts.take (i + 1)) := by omega
    rw [e1, e2]
    have e3 : (ts.take i).map V.str ++ [V.str t'] = (ts.take (i + 1)).map V.str := by
      rw [List.take_add_one, ht, List.map_append]
      rfl
    have I2 : Inv X pins σ (upd H' P (.lst ((ts.take (i + 1)).map V.str))) _ := I'.lset (its' := its2 ++ [.str t' s'.toks]) (f := fun xs => xs.push (.str t' s'.toks)) (t' := s'.toks + 1) hP' hP2 (by simp) (by rw [← e3]; exact rv2.append (.cons ⟨_, rfl⟩ .nil)) (by rw [List.length_map, List.length_take]; omega)
    have keepP : ∀ p o, p ≠ P → H p = some o → (upd H' P (.lst ((ts.take (i + 1)).map V.str))) p = some o := fun p o np e => by
      rw [upd_ne np]
      exact sm p o e
    refine ih (i + 1) _ _ (by omega) hlt I2 (fun H2 k2 => pre H2 fun p o np e => k2 p o np (keepP p o np e)) (keepP a _ hne hA) upd_same ((fr.same sm).upd) fun H2 s2 u2 I3 k3 => ?_
    exact q H2 s2 u2 I3 fun p o np e => k3 p o np (keepP p o np e)
/-- the head of list.__repr__ -/
theorem lst_ownW {A : Around} {g : List Code} {pins : List (Addr × Obj)} {σ : L2.St} {a : Addr} {v0 : V} {vr : List V} {ts : List Str} {base : Nat} {R : Result → Shared → Prop} {H : Hp} {s : Shared} (hfr : A.frames = some X.stack) (hg : A.guards = some g) (hcl : ∀ b ∈ a :: as, Clear g b) (hr : Room (k + 1) A) (hna : a ∉ as)
    (mono : ∀ H H', Same H H' → Pre H → Pre H') (hT : Lk (fun v t => ShW X k as Pre v t) (v0 :: vr) ts) (hsz : base + (listText ts).length ≤ sizeLine) (hE : ∀ e s', X.xe e s' → R (.error e) s') (I : Inv X pins σ H s) (pre : Pre H) (fr : Fr g H) (hA : H a = some (.lst (v0 :: vr)))
    (q : ∀ H' s' u, Inv X pins σ H' s' → Same H H' → R (.ok (.ret (.str (listText ts) u))) s') :
    wpAny (model X.prog X.w) A.in1 (Builtin.listReprAt base ⟨[.ref a], []⟩) (fun fin s' => match fin with | .done f => R (.ok f) s' | .again c' => c'.quiet = true ∧ codeAny (model X.prog X.w) A c' R s') (fun e s' => R (.error e) s') s := by
  have cl : Clear g a := hcl a List.mem_cons_self
  obtain ⟨z, its, n, rv, l1, ha⟩ := I.lstM hA
  match its, rv with
  | x :: l, rv =>
  refine wpAny_list_repr_head (A := A.in1) (g := g) (b := base) hg (fun v rest kw hm => listSameRef_of_ne (cl _ _ _ _ hm)) ha rfl ?_
  refine wpAny_bind (m := newList []) (wpAny_newObj_type ?_)
  refine wpAny_pure ⟨PySem.F.quiet_list_repr_loop _, ?_⟩
  have I1 := I.lnew (ys := []) (its := []) (t' := s.toks) .nil (Nat.zero_le _)
  have nP : H s.heap.objs.size = none := I.hok.fresh (Nat.le_refl _)
  have neP : a ≠ s.heap.objs.size := ne_of_none hA nP
  have same : ∀ {H' : Hp}, (∀ p o, p ≠ s.heap.objs.size → (L2.upd H s.heap.objs.size (.lst [])) p = some o → H' p = some o) → Same H H' := fun k2 p o e => k2 p o (ne_of_none e nP) (by rw [upd_ne (ne_of_none e nP)]; exact e)
  have e0 : base + piled (ts.take 0) = base := by
    rw [List.take_zero]
    rfl
  have run := loop_ownW (X := X) (k := k) (as := as) (Pre := Pre) (A := A) (g := g) (pins := pins) (σ := σ) (a := a) (P := s.heap.objs.size) (vs := v0 :: vr) (ts := ts) (base := base) (R := R) hfr hg (fun b hb => hcl b (.tail _ hb)) hr hna mono neP hT.length.symm (fun i v e => hT.get e) hsz hE _ 0 (L2.upd H s.heap.objs.size (.lst [])) _ rfl (Nat.zero_le _) I1
    (fun H' k2 => mono H H' (same k2) pre) (by rw [upd_ne neP]; exact hA) (by rw [upd_same, List.take_zero]; rfl) fr.upd fun H' s' u2 I2 k2 => q H' s' u2 I2 (same k2)
  rw [e0] at run
  exact run
/-- a list in a container -/
theorem shw_lst {a : Addr} {v0 : V} {vr : List V} {ts : List Str} (hna : a ∉ as) (mono : ∀ H H', Same H H' → Pre H → Pre H') (hT : Lk (fun v t => ShW X k as Pre v t) (v0 :: vr) ts) (hA : ∀ H, Pre H → H a = some (.lst (v0 :: vr))) : ShW X (k + 1) (a :: as) Pre (.ref a) (listText ts) := by
  intro base hb A g pins σ H s u Q hfr hg hcl fr hr I pre r q
  obtain rfl : u = Value.ref a := r
  obtain ⟨z, its, n, rv, l1, ha⟩ := I.lstM (hA H pre)
  have hun := hr.units
  refine wpAny_pyReprUnder_ref (by omega) (wpAny_pyReprObjUnder_twin (twin := "list.__repr__.under") ⟨_, ha, rfl⟩ PySem.F.slot_list_repr.toG rfl (by omega) ?_)
  exact call_twin_plain PySem.F.plain_list_repr_under PySem.F.entry_list_repr_under PySem.F.check_list_repr_under ⟨_, ha, rfl⟩ PySem.F.slot_list_repr.toG (PySem.F.args_list_repr_1 _)
    (lst_ownW (R := callEnd (fun v s' => (∃ x u, v = Value.str x u) ∧ ∃ x u, v = .str x u ∧ Q x s') X.xe) hfr hg hcl hr hna mono hT hb (fun _ _ z => z) I pre fr (hA H pre) fun H' s' u I' sm => ⟨⟨_, _, rfl⟩, _, _, rfl, q H' s' I' sm⟩)
/-- repr of a list whose items are shown so -/
def rReprW (X : Cx) (k : Nat) : List V → Hp → VK → Prop := fun xs H Q => ∃ (a : Addr) (as : List Addr) (v0 : V) (vr : List V) (ts : List Str) (Pre : Hp → Prop), xs = [.ref a] ∧ H a = some (.lst (v0 :: vr)) ∧ a ∉ as ∧ (∀ H H', Same H H' → Pre H → Pre H') ∧ Pre H ∧
  Lk (fun v t => ShW X k as Pre v t) (v0 :: vr) ts ∧ (listText ts).length ≤ sizeLine ∧ ∀ H', Same H H' → Q (.str (listText ts)) H'
theorem call_reprW (g0 : X.A.guards = some []) (hr : Room (k + 2) X.A) : CallR X (.builtin "repr") (rReprW X k) := by
  intro pins s σ H xs us Q I r h
  obtain ⟨a, as, v0, vr, ts, Pre, rfl, hA, hna, mono, pre, hT, hsz, q⟩ := h
  obtain ⟨u, rfl, rx⟩ := vals1 r
  obtain rfl : u = Value.ref a := rx
  obtain ⟨z, its, n, rv, l1, ha⟩ := I.lstM hA
  have hun := hr.units
  refine call_repr_slot (T := "list") (by omega) ⟨_, ha, rfl⟩ PySem.F.slot_list_repr.toG ?_
  exact wpAny_call (codeAny_call_builtin PySem.F.slot_list_repr.plain PySem.F.entry_list_repr (PySem.F.slot_list_repr.check _ _ _ _ _ _ _ _ ⟨_, ha, rfl⟩ (PySem.F.args_list_repr_1 _)
    (lst_ownW (A := X.A.in1) (base := 0) (R := callEnd _ X.xe) I.env0.frames g0 (fun b _ => Clear.nil b) hr.in1 hna mono hT (by omega) (fun _ _ z => z) I pre Fr.nil hA fun H' s' u I' sm => ⟨_, _, rfl, .str _, H', I', ⟨u, rfl⟩, q H' sm⟩)))
/-- the same, not to be unfolded -/
structure rReprWS (X : Cx) (k : Nat) (xs : List V) (H : Hp) (Q : VK) : Prop where
  h : rReprW X k xs H Q
theorem call_reprWS (g0 : X.A.guards = some []) (hr : Room (k + 2) X.A) : CallR X (.builtin "repr") (rReprWS X k) := by
  intro pins s σ H xs us Q I r h
  exact call_reprW g0 hr pins s σ H xs us Q I r h.h
end
end Mz
set_option Elab.async false
set_option linter.all false
set_option maxRecDepth 100000
set_option maxHeartbeats 4000000
/-! defs that are told what is being shown around them: own __repr__ of instances that show containers -/
namespace Mz
open PySem PySem.Spec PyProof.Rows L2
section
variable {P : Program} {w : World} {K : PySem.W.Frag} {mg : Str → Option Value} {base : Heap} {CX : CXT} {k : Nat} {f : Addr} {fd : FuncData} {ps : List Str} {sp : List Code → Sp}
/-- a def's promise, where its wishes may speak of what is being shown -/
structure FnS (P : Program) (w : World) (K : PySem.W.Frag) (mg : Str → Option Value) (base : Heap) (CX : CXT) (k : Nat) (f : Addr) (fd : FuncData) (ps : List Str) (sp : List Code → Sp) : Prop where
  lenS : ∀ g vs H Q E, sp g vs H Q E → vs.length = ps.length
  runS : ∀ (A : Around) (outer : List Env) (s : Shared) (H : Hp) (args : Args) (us : List Value) (vs : List V) (Q : VK) (E : XK) (g : List Code),
    A.guards = some g → Room k A → Env0 P w K mg base A outer s H → BindsTo s fd args (ps.zip us) → Vals vs us → sp g vs H Q E →
    codeAny (model P w) A (.call (.ref f) args) (CR CX outer P w H s Q E) s
theorem FnS.of {sp : Sp} (F : FnOk P w K mg base CX k f fd ps sp) : FnS P w K mg base CX k f fd ps fun _ => sp :=
  ⟨fun _ => F.len, fun A outer s H args us vs Q E _ _ => F.run A outer s H args us vs Q E⟩
/-- the same def by its body -/
theorem fnS_of {name qual : Str} {params : Arguments} {body : List Stmt} {scope : Scope} {dV kV doc pm cdv ct oc : Value} {an od : Option Addr} {osl : Array (Option Value)} {N : List Str}
    (lk : K.lookup f = some ⟨oc, od, .func (PySem.W.fnOf name qual params body scope dV kV doc pm an cdv ct), osl⟩) (hcd : PySem.W.codeIn K cdv qual = true) (S : FnScope N ps scope)
    (len : ∀ g vs H Q E, sp g vs H Q E → vs.length = ps.length)
    (hb : ∀ (A : Around) (outer : List Env) (s : Shared) (H : Hp) (vs : List V) (Q : VK) (E : XK) (g : List Code), A.guards = some g → Room k (A.deeper (envOfC qual scope s.heap.objs.size f cdv)) → sp g vs H Q E →
      ∃ t, PSs (cxOf CX P w K mg base N qual scope f cdv A outer s H E) body t ∧ t { nx := fun _ H' => Q .non H', rt := Q } (start N vs) H) :
    FnS P w K mg base CX (k + 1) f (PySem.W.fnOf name qual params body scope dV kV doc pm an cdv ct) ps sp := by
  refine ⟨len, fun A outer s H args us vs Q E g hg hr e0 hbi r hsp => ?_⟩
  have lenv := len _ _ _ _ _ hsp
  have KX : K.In s.heap := e0.mod.kin.keeps fun b o e => (e0.bs b o e).1
  have lim : s.heap.NoLimit := e0.mod.nolimit.keeps fun b o e => (e0.bs b o e).1
  have kinds : ∀ y ∈ ps.zip us, scope.names.lookup y.1 = some .local ∨ (scope.names.lookup y.1 = some .cell ∧ ((cellsFrom (s.heap.objs.size + 1) scope.names []).lookup y.1).isSome = true) := by
    intro y hy
    obtain ⟨n, v⟩ := y
    rcases S.par n (List.of_mem_zip hy).1 with q | q
    · exact .inl q
    · exact .inr ⟨q, PySem.W.cellsFrom_some _ _ _ (.inl q)⟩
  refine codeAny_call_function hr.depth (KX _ _ lk) rfl S.co S.gen rfl (PySem.W.codeRec_of KX hcd) (hbi _ _ _ _ ?_)
  refine wpAny_newFunctionEnv_cells S.kind kinds fun env he s1 x => ?_
  subst he
  refine ⟨lim.keeps x.toInCall.keep, codeAny_func ?_⟩
  obtain ⟨t, ht, hq⟩ := hb A outer s H vs Q E g hg (hr.deeper _) hsp
  have I : Inv (cxOf CX P w K mg base N qual scope f cdv A outer s H E) [] (start N vs) H s1 := inv_start S hr.hd e0 lenv r x
  refine wpAny_mono (ht.run [] s1 (start N vs) H _ I hq) (fun fl s' hs => ?_) fun e s' hs => hs
  cases fl with
  | ret u =>
    obtain ⟨v, σ', H', J, rv, q⟩ := hs
    exact ⟨v, H', J.os, J.bare, J.base, J.hok, rv, q⟩
  | next =>
    obtain ⟨σ', H', J, q⟩ := hs
    exact ⟨V.non, H', J.os, J.bare, J.base, J.hok, rfl, q⟩
  | brk =>
    obtain ⟨_, _, _, q⟩ := hs
    exact q.elim
  | cont =>
    obtain ⟨_, _, _, q⟩ := hs
    exact q.elim
end
section
variable {P : Program} {w : World} {K : PySem.W.Frag} {mg : Str → Option Value} {base : Heap}
theorem fun_okS {x qual : Str} {st : Stmt} {f : Addr} {fd : FuncData} {N ps : List Str} {k : Nat} {sp : List Code → Sp} (F : Fun K x qual st f fd) (S : FnScope N ps (defScope st)) (len : ∀ g vs H Q E, sp g vs H Q E → vs.length = ps.length)
    (hb : ∀ (cdv : Value) (A : Around) (outer : List Env) (s : Shared) (H : Hp) (vs : List V) (Q : VK) (E : XK) (g : List Code), A.guards = some g → Room k (A.deeper (envOfC qual (defScope st) s.heap.objs.size f cdv)) → sp g vs H Q E →
      ∃ t, PSs (cxOf CX0 P w K mg base N qual (defScope st) f cdv A outer s H E).nox (defBody st) t ∧ t { nx := fun _ H' => Q .non H', rt := Q } (start N vs) H) : FnS P w K mg base CX0 (k + 1) f fd ps sp := by
  obtain ⟨oc, od, kV, doc, pm, an, cdv, ct, osl, rfl, lk, hcd⟩ := F.ex
  refine fnS_of lk hcd S len fun A outer s H vs Q E g hg hr hsp => ?_
  obtain ⟨t, h, q⟩ := hb cdv A outer s H vs Q E g hg hr hsp
  exact ⟨t, h.nox, q⟩
end
section
variable {X : Cx} {k : Nat} {as : List Addr} {Pre : Hp → Prop}
/-- an instance with an own __repr__ in a container -/
theorem shw_own {f C p : Addr} {fd : FuncData} {sp : List Code → Sp} {t : Str} (F : FnS X.prog X.w X.K X.mg X.base CX0 k f fd ["self"] sp) (hb : Binds X.K fd ["self"] []) (hs : PySem.W.findIn X.K (.ref C) "__repr__" = some (some (.ref f))) (hf : PySem.W.isFn X.K (.ref f) = true)
    (hp : ∀ H g, Pre H → (∀ b ∈ as, Clear g b) → Fr g H → ∃ dx fs, H p = some (.ins C dx fs) ∧ sp g [.ref p] H (fun v H2 => v = .str t ∧ Same H H2) E0) : ShW X k as Pre (.ref p) t := by
  intro base hbs A g pins σ H s u Q hfr hg hcl fr hr I pre r q
  obtain rfl : u = Value.ref p := r
  obtain ⟨dx, fs, ha, hsp⟩ := hp H g pre hcl fr
  obtain ⟨mA, O, _⟩ := ins_get I.hok ha
  obtain ⟨od, J, _⟩ := O.look
  refine wpAny_pyReprUnder_ref (by omega) ?_
  unfold pyReprObjUnder pyReprObjBy
  refine wpAny_bind (wpAny_cRoomFor hr.units0 ?_)
  refine wpAny_bind (wpAny_bind (J.type.here ((PySem.W.looks_findIn I.kIn hs).here ?_)))
  refine wpAny_bind (ifBoundBy_K I.kIn J hs hf ?_)
  have hbi := hb s [.ref p] I.kIn rfl
  rw [List.append_nil] at hbi
  have run : wpAny (model X.prog X.w) A (call (.ref f) [.ref p]) (EP X pins σ (fun v H2 => v = .str t ∧ Same H H2)) X.xe s :=
    wpAny_call (codeAny_mono (F.runS A X.stack s H ⟨[.ref p], []⟩ [.ref p] [.ref p] _ _ g hg hr (env_at I hfr) hbi (.cons rfl .nil) hsp) fun r s2 hq => by
      match r, hq with
      | .error e, hq => exact hq.elim
      | .ok (.ret u), hq => exact I.after hq
      | .ok .next, hq => exact hq.elim
      | .ok .brk, hq => exact hq.elim
      | .ok .cont, hq => exact hq.elim)
  refine wpAny_mono run (fun v s2 hv => ?_) fun _ _ z => z
  obtain ⟨w, H2, I2, rv, rfl, sm⟩ := hv
  obtain ⟨tk, rfl⟩ := rv
  exact wpAny_bind (wpAny_isInstance (T := "str") (b := true) rfl isSubtype_str_str (wpAny_pure ⟨_, _, rfl, q _ _ I2 sm⟩))
/-- {x!r} of a tuple -/
theorem pe_fmtRT {g : List Code} {e : Expr} {te : TE} {pos : Pos} (g0 : X.A.guards = some g) (hr : Room (k + 1) X.A) (he : PE X e te) : PE X (.FormattedValue e 114 none pos)
    (fun σ H Q => te σ H fun x H1 => ∃ (a : Addr) (as : List Addr) (vs : List V) (ts : List Str) (Pre : Hp → Prop), x = .ref a ∧ H1 a = some (.tup vs) ∧ a ∉ as ∧ (∀ b ∈ a :: as, Clear g b) ∧ Fr g H1 ∧ (∀ H H', Same H H' → Pre H → Pre H') ∧ Pre H1 ∧ Lk (fun v t => ShW X k as Pre v t) vs ts ∧ (tupleText ts).length ≤ sizeLine ∧ ∀ H', Same H1 H' → Q (.str (tupleText ts)) H') := by
  refine ⟨fun pins s σ H Q I h => ?_⟩
  refine wpAny_FormattedValue_repr (thn (he.run pins s σ H _ I h) fun v s1 hv => ?_)
  obtain ⟨x, H1, I1, r1, a, as, vs, ts, Pre, rfl, hA, hna, hcl, fr, mono, pre, hT, hsz, q⟩ := hv
  obtain rfl : v = Value.ref a := r1
  exact objRepr_tup hna mono hT hsz I.env0.frames g0 hcl fr hr I1 pre hA fun H' s' u I' sm => wpAny_formatField_str ⟨.str (tupleText ts), H', I', ⟨u, rfl⟩, q H' sm⟩ ⟨.str (tupleText ts), H', I'.tok _, ⟨_, rfl⟩, q H' sm⟩ hsz
end
end Mz
set_option Elab.async false
set_option linter.all false
set_option maxRecDepth 100000
set_option maxHeartbeats 4000000
/-! {x!r} of a dict of flat values -/
namespace Mz
open PySem PySem.Spec PyProof.Rows L2
section
variable {X : Cx} {pins : List (Addr × Obj)} {σ : L2.St} {H : Hp} {s : Shared} {qs : List Addr}
theorem ents_shown (I : Inv X pins σ H s) : ∀ (kvs : List (Key × V)) (vs : List (Key × Value)) (l : List DictEntry), KV kvs vs → Pairs (mixKind X.prog X.w) l vs → (∀ kv ∈ kvs, KOk kv.1 ∧ VOk qs H kv.2) → ReprEntriesK X.prog X.w qs s.heap 1 l (kvs.map entT)
  | [], vs, l, kv, pr, _ => by
    match vs, kv, l, pr with
    | [], .nil, _, pr =>
      cases pr
      exact .nil
  | x :: kvs, vs, l, kv, pr, hall => by
    match vs, kv, pr with
    | (k2, v2) :: vs, .cons ⟨ek, rv2⟩ kr, pr =>
      cases pr with
      | @cons en _ es2 _ hk hv hn =>
        obtain ⟨h1, h2⟩ := hall x List.mem_cons_self
        have hk2 : keyIs x.1 en.key = true := by
          rw [show x.1 = k2 from ek]
          exact hk
        exact .cons (k := keyT x.1) (v := itemT x.2) (key_repr hk2 h1) (by
          rw [hv]
          exact item_repr I rv2 h2) (ents_shown I kvs vs es2 kr hn fun y hy => hall y (List.mem_cons_of_mem _ hy))
end
section
variable {X : Cx} {k : Nat}
theorem pe_fmtRDk {g : List Code} {e : Expr} {te : TE} {pos : Pos} (g0 : X.A.guards = some g) (hu : X.A.units + 64 < cLine) (he : PE X e te) : PE X (.FormattedValue e 114 none pos)
    (fun σ H Q => te σ H fun x H1 => ∃ (a : Addr) (kvs : List (Key × V)), x = .ref a ∧ H1 a = some (.dK kvs) ∧ Clear g a ∧ (∀ kv ∈ kvs, KOk kv.1 ∧ VOk [] H1 kv.2) ∧ (dictText (kvs.map entT)).length ≤ sizeLine ∧ Q (.str (dictText (kvs.map entT))) H1) := by
  refine ⟨fun pins s σ H Q I h => ?_⟩
  refine wpAny_FormattedValue_repr (thn (he.run pins s σ H _ I h) fun v s1 hv => ?_)
  obtain ⟨x, H1, I1, r1, a, kvs, rfl, hA, hcl, hall, hsz, q⟩ := hv
  obtain rfl : v = Value.ref a := r1
  obtain ⟨_, hsys, vs, kv, o, es, ep, ho, hx, hd, _, hpair, _⟩ := dk_of I1.hok hA
  refine wpAny_pyReprObj_dictK (as := []) (d := 1) ho hx.1 hd hsys (by simp) (ents_shown I1 kvs vs es.toList kv hpair hall) g0 (fun b hb => by
    rw [List.mem_singleton.mp hb]
    exact hcl) (by omega) (fun _ _ e => e) (fun h' u tk hk => ?_) hsz
  exact wpAny_formatField_str ⟨.str _, H1, I1.kept hk, ⟨u, rfl⟩, q⟩ ⟨.str _, H1, (I1.kept hk).tok _, ⟨_, rfl⟩, q⟩ hsz
end
end Mz
set_option Elab.async false
set_option linter.all false
set_option maxRecDepth 100000
set_option maxHeartbeats 4000000
/-! the reprs of places, settings, facts -/
namespace Mz
open PySem PySem.Spec PyProof.Rows L2
def reprP (z : Str) (k : Int) : Str := Str.empty ++ "Place(" ++ reprText z ++ ", shift=" ++ Str.ofString (toString k) ++ ")"
def spReprP (C : Addr) : Sp := fun vs H Q _ => ∃ a z k, vs = [.ref a] ∧ Pl C H a z k ∧ Good z k ∧ Q (.str (reprP z k)) H
theorem reprP_len {z : Str} {k : Int} (g : Good z k) : (reprP z k).length ≤ 20000 := by
  have h1 := repr_len (z := z) (n := 1000) ⟨g.1, g.2.1⟩
  have h2 := kshift_text g.lo g.hi
  unfold reprP
  simp only [strLen_append]
  have l1 : (Str.empty).length = 0 := rfl
  have l2 : ("Place(" : Str).length = 6 := by decide +kernel
  have l3 : (", shift=" : Str).length = 8 := by decide +kernel
  have l4 : (")" : Str).length = 1 := by decide +kernel
  omega
def rowT (rw : Row) : Str := tupleText (reprText rw.1 :: rw.2.map fun p => reprP p.1 p.2)
def facT (rws : List Row) : Str := Str.empty ++ "Facts" ++ tupleText (rws.map rowT)
theorem word_len {rw : Row} (ok : RwOk rw) : (reprText rw.1).length ≤ 30 := by
  have h := ok.1
  unfold plS at h
  by_cases e1 : rw.1 = "at_most"
  · rw [e1]
    decide +kernel
  · by_cases e2 : rw.1 = "page"
    · rw [e2]
      decide +kernel
    · rw [if_neg e1, if_neg e2] at h
      cases h
theorem rowT_len {rw : Row} (ok : RwOk rw) : (rowT rw).length ≤ 50000 := by
  have h1 := word_len ok
  have h2 := (Row.le ok).2
  have h3 := PySem.fmt_text (reprText rw.1 :: rw.2.map fun p => reprP p.1 p.2)
  have h4 : ∀ l : List (Str × Int), (∀ p ∈ l, Good p.1 p.2) → piled (l.map fun p => reprP p.1 p.2) ≤ 20002 * l.length := by
    intro l
    induction l with
    | nil => intro _; exact Nat.le_refl _
    | cons p l ih =>
      intro h
      have z1 := reprP_len (h p List.mem_cons_self)
      have z2 := ih fun q hq => h q (List.mem_cons_of_mem _ hq)
      rw [List.map_cons, piled_cons, List.length_cons]
      omega
  have h5 := h4 rw.2 ok.2
  rw [piled_cons] at h3
  unfold rowT
  omega
theorem facT_len {rws : List Row} (ok : ∀ rw ∈ rws, RwOk rw) (h : rws.length ≤ 20) : (facT rws).length ≤ 1100000 ∧ (tupleText (rws.map rowT)).length ≤ 1100000 := by
  have h4 : ∀ l : List Row, (∀ p ∈ l, RwOk p) → piled (l.map rowT) ≤ 50002 * l.length := by
    intro l
    induction l with
    | nil => intro _; exact Nat.le_refl _
    | cons p l ih =>
      intro h
      have z1 := rowT_len (h p List.mem_cons_self)
      have z2 := ih fun q hq => h q (List.mem_cons_of_mem _ hq)
      rw [List.map_cons, piled_cons, List.length_cons]
      omega
  have h5 := h4 rws ok
  have h3 := PySem.fmt_text (rws.map rowT)
  have l1 : (Str.empty ++ ("Facts" : Str)).length = 5 := by decide +kernel
  unfold facT
  rw [strLen_append, l1]
  omega
/-- the rows of facts, by their addresses -/
def FacA (F C : Addr) (H : Hp) (f : Addr) (rws : List Row) (as : List Addr) : Prop := ∃ (dx rl ul : Addr), H f = some (.ins F dx (fcF rl ul)) ∧ H rl = some (.lst (as.map V.ref)) ∧ Lk (RwP C H) as rws ∧ rws.length ≤ 20
theorem Fac.addr {F C : Addr} {H : Hp} {f : Addr} {rws : List Row} (h : Fac F C H f rws) : ∃ as, FacA F C H f rws as := by
  obtain ⟨dx, rl, ul, as, ys, h1, h2, h3, _, _, _, h7⟩ := h
  exact ⟨as, dx, rl, ul, h1, h2, h3, h7⟩
theorem FacA.same {F C : Addr} {H H' : Hp} {f : Addr} {rws : List Row} {as : List Addr} (s : Same H H') (h : FacA F C H f rws as) : FacA F C H' f rws as := by
  obtain ⟨dx, rl, ul, h1, h2, h3, h7⟩ := h
  exact ⟨dx, rl, ul, s _ _ h1, s _ _ h2, h3.imp fun _ _ x => x.same s, h7⟩
def spReprF (F C : Addr) : List Code → Sp := fun g vs H Q _ => ∃ (f : Addr) (rws : List Row) (as : List Addr), vs = [.ref f] ∧ FacA F C H f rws as ∧ (∀ b ∈ as, Clear g b) ∧ Fr g H ∧ ∀ H', Same H H' → Q (.str (facT rws)) H'
/-- sizes that a setting shows -/
def SzOk (kvs : List (Key × V)) : Prop := kvs.length ≤ 2 ∧ ∀ kv ∈ kvs, KOk kv.1 ∧ ∃ i, kv.2 = .int i ∧ i.natAbs.log2 < 1920 ∧ (Str.ofString (toString i)).length ≤ 300
def setT (kvs : List (Key × V)) (pg : Int) : Str := Str.empty ++ "Setting(" ++ dictText (kvs.map entT) ++ ", page=" ++ Str.ofString (toString pg) ++ ")"
theorem SzOk.v {kvs : List (Key × V)} {H : Hp} (h : SzOk kvs) : ∀ kv ∈ kvs, KOk kv.1 ∧ VOk [] H kv.2 := fun kv hk => by
  obtain ⟨h1, i, e, h2, h3⟩ := h.2 kv hk
  exact ⟨h1, .inr (.inr (.inl ⟨i, e, h2, h3⟩))⟩
theorem SzOk.len {kvs : List (Key × V)} (h : SzOk kvs) : (dictText (kvs.map entT)).length ≤ 2000 := by
  have e1 := ent_sum (qs := []) (H := fun _ => none) kvs h.v
  have e2 := StrLaws.join_length_le ", " (kvs.map entT)
  have e3 : (dictText (kvs.map entT)).length = 1 + (Str.join ", " (kvs.map entT)).length + 1 := by
    unfold dictText
    rw [strLen_append, strLen_append]
    rfl
  have e5 : (", " : Str).length = 2 := by decide +kernel
  have e6 := h.1
  rw [e5, List.length_map] at e2
  omega
theorem setT_len {kvs : List (Key × V)} {pg : Int} (h : SzOk kvs) (hp : (Str.ofString (toString pg)).length ≤ 300) : (setT kvs pg).length ≤ 3000 := by
  have h1 := h.len
  unfold setT
  simp only [strLen_append]
  have l1 : (Str.empty).length = 0 := rfl
  have l2 : ("Setting(" : Str).length = 8 := by decide +kernel
  have l3 : (", page=" : Str).length = 7 := by decide +kernel
  have l4 : (")" : Str).length = 1 := by decide +kernel
  omega
/-- a setting, with its dict -/
def StgA (S : Addr) (H : Hp) (s d : Addr) (kvs : List (Key × V)) (pg : Int) : Prop := ∃ dx, H s = some (.ins S dx (stF d pg)) ∧ H d = some (.dK kvs)
def spReprS (S : Addr) : List Code → Sp := fun g vs H Q _ => ∃ (s d : Addr) (kvs : List (Key × V)) (pg : Int), vs = [.ref s] ∧ StgA S H s d kvs pg ∧ SzOk kvs ∧ pg.natAbs.log2 < 1920 ∧ (Str.ofString (toString pg)).length ≤ 300 ∧ Clear g d ∧ Q (.str (setT kvs pg)) H
section
variable {X : Cx}
theorem shw_place {C f a : Addr} {fd : FuncData} {z : Str} {k : Int} {H1 : Hp} (GR : FnOk X.prog X.w X.K X.mg X.base CX0 1 f fd ["self"] (spReprP C)) (bR : Binds X.K fd ["self"] []) (iR : PySem.W.findIn X.K (.ref C) "__repr__" = some (some (.ref f))) (jR : PySem.W.isFn X.K (.ref f) = true)
    (pl : Pl C H1 a z k) (g : Good z k) : ShW X 1 [] (Same H1) (.ref a) (reprP z k) := ShV.w (shv_own (j := 0) GR bR iR jR fun H h => by
  obtain ⟨dx, hx⟩ := pl
  exact ⟨dx, _, h _ _ hx, a, z, k, rfl, ⟨dx, h _ _ hx⟩, g, rfl, Same.refl H⟩)
theorem shw_rowP {C f a : Addr} {fd : FuncData} {rw : Row} {H1 : Hp} (GR : FnOk X.prog X.w X.K X.mg X.base CX0 1 f fd ["self"] (spReprP C)) (bR : Binds X.K fd ["self"] []) (iR : PySem.W.findIn X.K (.ref C) "__repr__" = some (some (.ref f))) (jR : PySem.W.isFn X.K (.ref f) = true)
    (h : RwP C H1 a rw) : ShW X 2 [a] (Same H1) (.ref a) (rowT rw) := by
  obtain ⟨qs, ha, hq, ok⟩ := h
  refine shw_tup (by simp) (fun _ _ s h => h.trans s) (.cons (ShV.w (shv_str (Nat.le_trans (word_len ok) (by decide)))) ?_) fun H s => s _ _ ha
  have go : ∀ (qs : List Addr) (ps : List (Str × Int)), Lk (PlR C H1) qs ps → (∀ p ∈ ps, Good p.1 p.2) → Lk (fun v t => ShW X 1 [] (Same H1) v t) (qs.map V.ref) (ps.map fun p => reprP p.1 p.2) := by
    intro qs ps h
    induction h with
    | nil => exact fun _ => .nil
    | cons h _ ih => exact fun g => .cons (shw_place GR bR iR jR h (g _ List.mem_cons_self)) (ih fun p hp => g p (List.mem_cons_of_mem _ hp))
  exact go qs rw.2 hq ok.2
theorem lk_rowsP {C f : Addr} {fd : FuncData} {H1 : Hp} {bs : List Addr} (GR : FnOk X.prog X.w X.K X.mg X.base CX0 1 f fd ["self"] (spReprP C)) (bR : Binds X.K fd ["self"] []) (iR : PySem.W.findIn X.K (.ref C) "__repr__" = some (some (.ref f))) (jR : PySem.W.isFn X.K (.ref f) = true)
    {as : List Addr} {rws : List Row} (h : Lk (RwP C H1) as rws) : (∀ a ∈ as, a ∈ bs) → Lk (fun v t => ShW X 2 bs (Same H1) v t) (as.map V.ref) (rws.map rowT) := by
  induction h with
  | nil => exact fun _ => .nil
  | @cons a _ _ _ h _ ih => exact fun m => .cons ((shw_rowP GR bR iR jR h).more fun b hb => by
      rw [List.mem_singleton.mp hb]
      exact m a List.mem_cons_self) (ih fun b hb => m b (List.mem_cons_of_mem _ hb))
end
section
variable {P : Program} {w : World} {K : PySem.W.Frag} {mg : Str → Option Value} {base : Heap}
theorem scReprP : FnScope ["self"] ["self"] (defScope (inClass sPlace 5)) := ⟨rfl, rfl, rfl, by decide +kernel, rfl, by decide +kernel, by decide +kernel⟩
theorem ok_reprP {f C : Addr} {fd : FuncData} (F : Fun K "__repr__" "Place.__repr__" (inClass sPlace 5) f fd) (T : Cpl K mg C) : FnOk P w K mg base CX0 1 f fd ["self"] (spReprP C) := by
  refine F.ok scReprP (fun vs H Q E h => ?_) (fun cdv A outer s H vs Q E hr h => ?_)
  · obtain ⟨a, z, k, rfl, _⟩ := h
    rfl
  · obtain ⟨a, z, k, rfl, ⟨dx, ha⟩, g, q⟩ := h
    refine ⟨_, pss_one (ps_ret (pe_joined (.cons pe_str (.cons (pe_fmtR (pe_fld (pv 0) rfl)) (.cons pe_str (.cons (pe_fmt (pe_fld (pv 0) rfl)) (.cons pe_str .nil))))))), ?_⟩
    have h1 := repr_len (z := z) (n := 1000) ⟨g.1, g.2.1⟩
    have h2 := kshift_text g.lo g.hi
    have l1 : (Str.empty ++ ("Place(" : Str)).length = 6 := by decide +kernel
    have l2 : (", shift=" : Str).length = 8 := by decide +kernel
    have l3 : (")" : Str).length = 1 := by decide +kernel
    have big : 20000 ≤ sizeLine := by decide
    refine ⟨_, rfl, by rw [l1]; omega, ?_⟩
    refine ⟨_, rfl, a, C, dx, _, _, rfl, ha, T.cl, T.nB, plF_base, .inl ⟨z, rfl, by omega, reprText z, rfl, by rw [strLen_append, l1]; omega, ?_⟩⟩
    refine ⟨_, rfl, by rw [strLen_append, strLen_append, l1, l2]; omega, ?_⟩
    refine ⟨_, rfl, a, C, dx, _, _, rfl, ha, T.cl, T.nS, plF_shift, .inr ⟨k, rfl, int_small g.lo g.hi, _, rfl, ?_, ?_⟩⟩
    · rw [strLen_append, strLen_append, strLen_append, l1, l2]
      have e : (Str.ofString (toString k)).length = ((toString k : String) : Str).length := rfl
      omega
    · exact ⟨_, rfl, by rw [strLen_append, strLen_append, strLen_append, strLen_append, l1, l2, l3]; have e : (Str.ofString (toString k)).length = ((toString k : String) : Str).length := rfl; omega, q⟩
theorem scReprF : FnScope ["self"] ["self"] (defScope (inClass sFacts 7)) := ⟨rfl, rfl, rfl, by decide +kernel, rfl, by decide +kernel, by decide +kernel⟩
theorem ok_reprF {f F C fP : Addr} {fd fdP : FuncData} (F0 : Fun K "__repr__" "Facts.__repr__" (inClass sFacts 7) f fd) (T : Fcl K mg F) (mTup : mg "tuple" = none) (GR : FnOk P w K mg base CX0 1 fP fdP ["self"] (spReprP C)) (bR : Binds K fdP ["self"] []) (iR : PySem.W.findIn K (.ref C) "__repr__" = some (some (.ref fP))) (jR : PySem.W.isFn K (.ref fP) = true) :
    FnS P w K mg base CX0 4 f fd ["self"] (spReprF F C) := by
  refine fun_okS F0 scReprF (fun g vs H Q E h => ?_) (fun cdv A outer s H vs Q E g hg hr h => ?_)
  · obtain ⟨f, rws, as, rfl, _⟩ := h
    rfl
  · obtain ⟨f, rws, as, rfl, ⟨dx, rl, ul, hf, hl, hL, hn⟩, hcl, fr, q⟩ := h
    have ok : ∀ rw ∈ rws, RwOk rw := fun rw hrw => by
      obtain ⟨a, _, qs, _, _, h4⟩ := hL.memR hrw
      exact h4
    obtain ⟨t1, t2⟩ := facT_len ok hn
    have big : 1200000 ≤ sizeLine := by decide
    have l1 : (Str.empty ++ ("Facts" : Str)).length = 5 := by decide +kernel
    refine ⟨_, pss_one (ps_ret (pe_joined (.cons pe_str (.cons (pe_fmtRT (k := 2) hg hr (pe_callTy call_tuple_of (by rfl) mTup (by decide +kernel) (pa_cons (pe_fld (pv 0) rfl) pa_nil))) .nil)))), ?_⟩
    refine ⟨_, rfl, by rw [l1]; omega, ?_⟩
    refine ⟨_, rfl, f, F, dx, _, _, rfl, hf, T.cl, T.nR, fcF_rows, rl, as.map V.ref, rfl, .inl ⟨SqL.of hl, fun t nt => ?_⟩⟩
    have s1 : Same H (upd H t (.tup (as.map V.ref))) := same_nw nt
    have ht : upd H t (.tup (as.map V.ref)) t = some (.tup (as.map V.ref)) := upd_same
    generalize upd H t (.tup (as.map V.ref)) = H1 at s1 ht
    have nta : t ∉ as := fun hm => by
      obtain ⟨rw, _, qs, h1, _⟩ := hL.memL hm
      rw [nt] at h1
      cases h1
    refine ⟨t, as, as.map V.ref, rws.map rowT, Same H1, rfl, ht, nta, fun b hb => ?_, fr.same s1, fun _ _ s h => h.trans s, Same.refl H1, ?_, by omega, fun H' s' => ?_⟩
    · rcases List.mem_cons.mp hb with e | e
      · rw [e]
        exact fr t nt
      · exact hcl b e
    · exact lk_rowsP GR bR iR jR (hL.imp fun _ _ x => x.same s1) fun a h => h
    · refine ⟨_, rfl, ?_, q H' (s1.trans s')⟩
      rw [strLen_append, l1]
      omega
theorem scReprS : FnScope ["self"] ["self"] (defScope (inClass sSetting 8)) := ⟨rfl, rfl, rfl, by decide +kernel, rfl, by decide +kernel, by decide +kernel⟩
theorem ok_reprS {f S : Addr} {fd : FuncData} (F0 : Fun K "__repr__" "Setting.__repr__" (inClass sSetting 8) f fd) (T : Scl K mg S) : FnS P w K mg base CX0 2 f fd ["self"] (spReprS S) := by
  refine fun_okS F0 scReprS (fun g vs H Q E h => ?_) (fun cdv A outer s H vs Q E g hg hr h => ?_)
  · obtain ⟨s, d, kvs, pg, rfl, _⟩ := h
    rfl
  · obtain ⟨st, d, kvs, pg, rfl, ⟨dx, hs, hd⟩, ok, hp1, hp2, hcl, q⟩ := h
    have t1 := ok.len
    have t2 := setT_len ok hp2
    have big : 20000 ≤ sizeLine := by decide
    refine ⟨_, pss_one (ps_ret (pe_joined (.cons pe_str (.cons (pe_fmtRDk hg hr.units (pe_fld (pv 0) rfl)) (.cons pe_str (.cons (pe_fmt (pe_fld (pv 0) rfl)) (.cons pe_str .nil))))))), ?_⟩
    have l1 : (Str.empty ++ ("Setting(" : Str)).length = 8 := by decide +kernel
    have l2 : (", page=" : Str).length = 7 := by decide +kernel
    have l3 : (")" : Str).length = 1 := by decide +kernel
    have e : (Str.ofString (toString pg)).length = ((toString pg : String) : Str).length := rfl
    refine ⟨_, rfl, by rw [l1]; omega, ?_⟩
    refine ⟨_, rfl, st, S, dx, _, _, rfl, hs, T.cl, T.nZ, stF_sizes, d, kvs, rfl, hd, hcl, ok.v, by omega, _, rfl, by rw [strLen_append, l1]; omega, ?_⟩
    refine ⟨_, rfl, by rw [strLen_append, strLen_append, l1, l2]; omega, ?_⟩
    refine ⟨_, rfl, st, S, dx, _, _, rfl, hs, T.cl, T.nP, stF_page, .inr ⟨pg, rfl, hp1, _, rfl, ?_, ?_⟩⟩
    · rw [strLen_append, strLen_append, strLen_append, l1, l2]
      omega
    · exact ⟨_, rfl, by rw [strLen_append, strLen_append, strLen_append, strLen_append, l1, l2, l3]; omega, q⟩
end
end Mz
set_option Elab.async false
set_option linter.all false
set_option maxRecDepth 100000
set_option maxHeartbeats 4000000
/-! a class made by a positional promise of its __init__ where the promise may raise: the wishes may speak of the slots -/
namespace Mz
open PySem PySem.Spec PyProof.Rows L2
section
variable {X : Cx} {CX : CXT} {k : Nat} {f C : Addr} {sp : Sp} {E : L2.St → XK} {x : Str} {e : Expr} {es : List Expr} {t : TA} {p pos : Pos}
theorem pe_makeRE (M : Mk X.K C f) (F : FnR X.prog X.w X.K X.mg X.base CX k f sp) (hr : Room (k + 1) X.A) (hg : Gl X x) (hm : X.mg x = some (.ref C)) (hx : ∀ σ, PassesAt CX X σ (E σ)) (ha : PA X (e :: es) t) (hdb : (x == ("__debug__" : Str)) = false := by decide)
    (he : starEach (e :: es) X.env = (false, eval e X.env) :: starEach es X.env := by rfl) (hpl : (backTo pos (starEach es X.env)).any (·.1) = false := by rfl) : PE X (.Call (.Name x p) (e :: es) [] pos) (fun σ H Q => StX.tMakeR C sp (E σ) t σ H Q) := by
  constructor
  intro pins s σ H Q I h
  refine wpAny_Call_Name_kw (ld_glob I hg hm (PySem.W.callWith_K (h₀ := X.base) I.ok.mod.kin M.kp (thn (ha.run pos pins s σ H _ I h) fun us s1 hv => ?_) he hpl) hdb)
  obtain ⟨vs, H1, I1, r, q⟩ := hv
  refine ⟨I1.kIn, ?_⟩
  have made := q (s1.heap.objs.size + 1) s1.heap.objs.size (I1.hok.fresh (Nat.le_succ _)) (I1.hok.fresh (Nat.le_refl _)) (Nat.ne_of_lt (Nat.lt_succ_self _))
  have J := Inv.made (C := C) I1
  have r2 : Vals (V.ref (s1.heap.objs.size + 1) :: vs) (Value.ref (s1.heap.objs.size + 1) :: us) := .cons rfl r
  refine wpAny_call (make_map (f := f) I1.kIn M.makes M.init (beq_iff_eq.mp M.fn) (codeAny_mono (F _ X.stack _ _ (Value.ref (s1.heap.objs.size + 1) :: us) _ _ (E σ) (hr.make C us []) (J.env0.make C us []) r2 made) fun res s2 hres => ?_))
  match res, hres with
  | .error er, hres => exact hx σ pins _ _ er s2 J hres
  | .ok (.ret u), hres =>
    obtain ⟨v, H2, J2, rv, ev, q2⟩ := J.after hres
    subst ev
    exact ⟨rv, V.ref (s1.heap.objs.size + 1), H2, J2, rfl, q2⟩
  | .ok .next, hres => exact hres.elim
  | .ok .brk, hres => exact hres.elim
  | .ok .cont, hres => exact hres.elim
end
end Mz
set_option Elab.async false
set_option linter.all false
set_option maxRecDepth 100000
set_option maxHeartbeats 4000000
/-! Facts(..) of rows that may be none -/
namespace Mz
open PySem PySem.Spec PyProof.Rows L2
/-- what Facts(*vals) does -/
def Mkd (K : PySem.W.Frag) (C F cR cF : Addr) (vals : List V) (H : Hp) (R : Addr → Hp → Prop) (E : XK) : Prop := vals.length ≤ 20 ∧
  ((∃ (as : List Addr) (rws : List Row), vals = as.map V.ref ∧ Lk (RwG K C H) as rws ∧
      ((Two rws ∧ ∀ f H', Same H H' → H f = none → Fac F C H' f rws → R f H') ∨
        ((∀ ys, Unk (plsOf rws) ys → ¬ ys.length ≤ 2) ∧ ∀ d tp H', H d = none → H tp = none → Same H H' → H' tp = some (.tup vals) → H' d = some (.xd [("value", .ref tp)]) → E (.ref cF) (some d) H'))) ∨
    ∃ (i : Nat) (v : V), vals[i]? = some v ∧ (∀ (j : Nat) (u : V), j < i → vals[j]? = some u → Fct K C H u true) ∧ Fct K C H v false ∧ ∀ d H', H d = none → Same H H' → H' d = some (.xd [("value", v)]) → E (.ref cR) (some d) H')
theorem mk_any {K : PySem.W.Frag} {C F cR cF : Addr} {H : Hp} {vals : List V} {R : Addr → Hp → Prop} {E : XK} (h : Mkd K C F cR cF vals H R E) :
    ∀ x dx, H x = Option.none → H dx = Option.none → dx ≠ x → spMakeF K C F cR cF (V.ref x :: vals) (upd (upd H dx (.own x)) x (.ins F dx [])) (fun v H2 => v = .non ∧ R x H2) E := by
  intro x dx nx ndx _
  obtain ⟨hn, h⟩ := h
  have sm : Same H (upd (upd H dx (.own x)) x (.ins F dx [])) := fun b o e => by
    rw [upd_ne (ne_of_none e nx), upd_ne (ne_of_none e ndx)]
    exact e
  have tx : upd (upd H dx (.own x)) x (.ins F dx []) x = some (.ins F dx []) := upd_same
  generalize upd (upd H dx (.own x)) x (.ins F dx []) = H1 at sm tx
  refine ⟨[.ref x], vals, rfl, rfl, Nat.le_trans hn (by decide), fun p np => ?_⟩
  have s2 : Same H1 (upd H1 p (.tup vals)) := same_nw np
  have t2 : upd H1 p (.tup vals) p = some (.tup vals) := upd_same
  generalize upd H1 p (.tup vals) = H2 at s2 t2
  have s02 := sm.trans s2
  refine ⟨x, dx, p, _, rfl, s2 _ _ tx, t2, hn, ?_⟩
  rcases h with ⟨as, rws, e, hR, h⟩ | ⟨i, v, hv, before, odd, q⟩
  · refine .inl ⟨as, rws, e, hR.imp fun _ _ r => r.same s02, ?_⟩
    rcases h with ⟨two, q⟩ | ⟨more, q⟩
    · exact .inl ⟨two, fun H3 k hf => ⟨rfl, q x H3 (fun b o e => k b o (ne_of_none e nx) (s02 _ _ e)) nx hf.fac⟩⟩
    · exact .inr ⟨more, fun d H3 nd s3 hd => q d p H3 (s02.free nd) (sm.free np) (s02.trans s3) (s3 _ _ t2) hd⟩
  · exact .inr ⟨i, v, hv, fun j u l e => (before j u l e).same s02, odd.same s02, fun d H3 nd s3 hd => q d H3 (s02.free nd) (s02.trans s3) hd⟩
def spCalled (K : PySem.W.Frag) (C F cR cF : Addr) : Sp := fun vs H Q E => ∃ (l : Addr) (vals : List V), vs = [.ref l] ∧ H l = some (.lst vals) ∧ 2 ≤ vals.length ∧ vals.length ≤ 5 ∧ Mkd K C F cR cF vals H (fun f H' => Q (.ref f) H') E
def spMade9 (K : PySem.W.Frag) (C F : Addr) : Sp := fun vs H Q _ => ∃ (l : Addr) (vals : List V), vs = [.ref l] ∧ H l = some (.lst vals) ∧ 2 ≤ vals.length ∧ vals.length ≤ 5 ∧
  ((∃ (as : List Addr) (rws : List Row), vals = as.map V.ref ∧ Lk (RwG K C H) as rws ∧
      ((Two rws ∧ ∀ p H', Same H H' → H p = none → H' p = some (.lst [.str "made"]) → Q (.ref p) H') ∨
        ((∀ ys, Unk (plsOf rws) ys → ¬ ys.length ≤ 2) ∧ ∀ p tp H', Same H H' → H p = none → H tp = none → H' tp = some (.tup vals) → H' p = some (.lst [.str "facts", .ref tp]) → Q (.ref p) H'))) ∨
    ∃ (i : Nat) (v : V), vals[i]? = some v ∧ (∀ (j : Nat) (u : V), j < i → vals[j]? = some u → Fct K C H u true) ∧ Fct K C H v false ∧ ∀ p H', Same H H' → H p = none → H' p = some (.lst [.str "fact", v]) → Q (.ref p) H')
section
variable {P : Program} {w : World} {K : PySem.W.Frag} {mg : Str → Option Value} {base : Heap}
theorem scCalled : FnScope ["_law_rows"] ["_law_rows"] (defScope sCalled) := ⟨rfl, rfl, rfl, by decide +kernel, rfl, by decide +kernel, by decide +kernel⟩
theorem ok_called {f fI C F cR cF : Addr} {fd : FuncData} (F0 : Fun K "_law_called" "_law_called" sCalled f fd) (B : Blt mg) (T : Fcl K mg F) (MF : Mk K F fI) (GI : FnR P w K mg base (L2.CX P w) 8 fI (spMakeF K C F cR cF)) : FnOk P w K mg base (L2.CX P w) 10 f fd ["_law_rows"] (spCalled K C F cR cF) := by
  refine F0.okX scCalled (fun vs H Q E h => ?_) (fun cdv A outer s H vs Q E hr h => ?_)
  · obtain ⟨l, vals, rfl, _⟩ := h
    rfl
  · obtain ⟨l, vals, rfl, hl, l2, l5, h⟩ := h
    refine ⟨_, (pss_cons (ps_if (pt_cmpR op_eq (pe_callB call_len_seq (by rfl) B.len PySem.boot_len (pa_cons (pv 0) pa_nil)) pe_int (nomark _)) (pss_one (ps_ret (pe_makeRE MF GI hr (by rfl) T.mgF (fun σ => passAt (takes_of rfl rfl rfl rfl) σ) (pa_cons (pe_ix ix_list (pv 0) pe_int (fun _ _ => rfl)) (pa_cons (pe_ix ix_list (pv 0) pe_int (fun _ _ => rfl)) pa_nil))))) pss_nil)
      (pss_cons (ps_if (pt_cmpR op_eq (pe_callB call_len_seq (by rfl) B.len PySem.boot_len (pa_cons (pv 0) pa_nil)) pe_int (nomark _)) (pss_one (ps_ret (pe_makeRE MF GI hr (by rfl) T.mgF (fun σ => passAt (takes_of rfl rfl rfl rfl) σ) (pa_cons (pe_ix ix_list (pv 0) pe_int (fun _ _ => rfl)) (pa_cons (pe_ix ix_list (pv 0) pe_int (fun _ _ => rfl)) (pa_cons (pe_ix ix_list (pv 0) pe_int (fun _ _ => rfl)) pa_nil)))))) pss_nil)
      (pss_cons (ps_if (pt_cmpR op_eq (pe_callB call_len_seq (by rfl) B.len PySem.boot_len (pa_cons (pv 0) pa_nil)) pe_int (nomark _)) (pss_one (ps_ret (pe_makeRE MF GI hr (by rfl) T.mgF (fun σ => passAt (takes_of rfl rfl rfl rfl) σ) (pa_cons (pe_ix ix_list (pv 0) pe_int (fun _ _ => rfl)) (pa_cons (pe_ix ix_list (pv 0) pe_int (fun _ _ => rfl)) (pa_cons (pe_ix ix_list (pv 0) pe_int (fun _ _ => rfl)) (pa_cons (pe_ix ix_list (pv 0) pe_int (fun _ _ => rfl)) pa_nil))))))) pss_nil)
      (pss_one (ps_ret (pe_makeRE MF GI hr (by rfl) T.mgF (fun σ => passAt (takes_of rfl rfl rfl rfl) σ) (pa_cons (pe_ix ix_list (pv 0) pe_int (fun _ _ => rfl)) (pa_cons (pe_ix ix_list (pv 0) pe_int (fun _ _ => rfl)) (pa_cons (pe_ix ix_list (pv 0) pe_int (fun _ _ => rfl)) (pa_cons (pe_ix ix_list (pv 0) pe_int (fun _ _ => rfl)) (pa_cons (pe_ix ix_list (pv 0) pe_int (fun _ _ => rfl)) pa_nil))))))))))), ?_⟩
    have at_ : ∀ (i : Nat) (v : V), vals[i]? = some v → atI vals (i : Int) = some v := fun i v e => atI_nat (xs := vals) (j := i) e
    match vals, l2, l5, hl, h, at_ with
    | [a, b], _, _, hl, h, at_ =>
      refine ⟨_, rfl, l, _, rfl, .inl (SqL.of hl), rfl, _, rfl, iteT ?_⟩
      refine ⟨_, rfl, l, _, _, _, rfl, rfl, SqL.of hl, at_ 0 a rfl, ?_⟩
      refine ⟨_, rfl, l, _, _, _, rfl, rfl, SqL.of hl, at_ 1 b rfl, ?_⟩
      exact mk_any h
    | [a, b, c], _, _, hl, h, at_ =>
      refine ⟨_, rfl, l, _, rfl, .inl (SqL.of hl), rfl, _, rfl, iteF ?_⟩
      refine ⟨_, rfl, l, _, rfl, .inl (SqL.of hl), rfl, _, rfl, iteT ?_⟩
      refine ⟨_, rfl, l, _, _, _, rfl, rfl, SqL.of hl, at_ 0 a rfl, ?_⟩
      refine ⟨_, rfl, l, _, _, _, rfl, rfl, SqL.of hl, at_ 1 b rfl, ?_⟩
      refine ⟨_, rfl, l, _, _, _, rfl, rfl, SqL.of hl, at_ 2 c rfl, ?_⟩
      exact mk_any h
    | [a, b, c, d], _, _, hl, h, at_ =>
      refine ⟨_, rfl, l, _, rfl, .inl (SqL.of hl), rfl, _, rfl, iteF ?_⟩
      refine ⟨_, rfl, l, _, rfl, .inl (SqL.of hl), rfl, _, rfl, iteF ?_⟩
      refine ⟨_, rfl, l, _, rfl, .inl (SqL.of hl), rfl, _, rfl, iteT ?_⟩
      refine ⟨_, rfl, l, _, _, _, rfl, rfl, SqL.of hl, at_ 0 a rfl, ?_⟩
      refine ⟨_, rfl, l, _, _, _, rfl, rfl, SqL.of hl, at_ 1 b rfl, ?_⟩
      refine ⟨_, rfl, l, _, _, _, rfl, rfl, SqL.of hl, at_ 2 c rfl, ?_⟩
      refine ⟨_, rfl, l, _, _, _, rfl, rfl, SqL.of hl, at_ 3 d rfl, ?_⟩
      exact mk_any h
    | [a, b, c, d, e], _, _, hl, h, at_ =>
      refine ⟨_, rfl, l, _, rfl, .inl (SqL.of hl), rfl, _, rfl, iteF ?_⟩
      refine ⟨_, rfl, l, _, rfl, .inl (SqL.of hl), rfl, _, rfl, iteF ?_⟩
      refine ⟨_, rfl, l, _, rfl, .inl (SqL.of hl), rfl, _, rfl, iteF ?_⟩
      refine ⟨_, rfl, l, _, _, _, rfl, rfl, SqL.of hl, at_ 0 a rfl, ?_⟩
      refine ⟨_, rfl, l, _, _, _, rfl, rfl, SqL.of hl, at_ 1 b rfl, ?_⟩
      refine ⟨_, rfl, l, _, _, _, rfl, rfl, SqL.of hl, at_ 2 c rfl, ?_⟩
      refine ⟨_, rfl, l, _, _, _, rfl, rfl, SqL.of hl, at_ 3 d rfl, ?_⟩
      refine ⟨_, rfl, l, _, _, _, rfl, rfl, SqL.of hl, at_ 4 e rfl, ?_⟩
      exact mk_any h
end
end Mz
set_option Elab.async false
set_option linter.all false
set_option maxRecDepth 100000
set_option maxHeartbeats 4000000
/-! what is made of rows, what is asked of facts: refused or not -/
namespace Mz
open PySem PySem.Spec PyProof.Rows L2
/-- the same, not to be unfolded -/
structure spMade9S (K : PySem.W.Frag) (C F : Addr) (vs : List V) (H : Hp) (Q : VK) (E : XK) : Prop where
  h : spMade9 K C F vs H Q E
section
variable {P : Program} {w : World} {K : PySem.W.Frag} {mg : Str → Option Value} {base : Heap}
theorem scMade9 : FnScope ["_law_rows", "e"] ["_law_rows"] (defScope sMade9) := ⟨rfl, rfl, rfl, by decide +kernel, rfl, by decide +kernel, by decide +kernel⟩
theorem ok_made9 {f fC C F cR cF : Addr} {fd fdC : FuncData} (F0 : Fun K "_law_made" "_law_made" sMade9 f fd) (GC : FnOk P w K mg base (L2.CX P w) 10 fC fdC ["_law_rows"] (spCalled K C F cR cF)) (mC : mg "_law_called" = some (.ref fC)) (kC : PySem.W.keepIn K (.ref fC) = true) (bC : Binds K fdC ["_law_rows"] [])
    (TR : Xcl K mg "InvalidFact" cR "value") (TF : Xcl K mg "InvalidFacts" cF "value") (eR : PySem.W.exmOne K (.ref cR) (.ref cR) = some true) (eF : PySem.W.exmOne K (.ref cF) (.ref cF) = some true) (eX : PySem.W.exmOne K (.ref cF) (.ref cR) = some false) :
    FnOk P w K mg base CX0 11 f fd ["_law_rows"] (spMade9 K C F) := by
  refine F0.ok scMade9 (fun vs H Q E h => ?_) (fun cdv A outer s H vs Q E hr h => ?_)
  · obtain ⟨l, vals, rfl, _⟩ := h
    rfl
  · obtain ⟨l, vals, rfl, hl, l2, l5, h⟩ := h
    have nd := scMade9.nd
    refine ⟨_, pss_cons (ps_try_named rfl rfl nd (fun W pn xe tk _ => pss_one (ps_expr (pe_callS GC hr (by rfl) mC kC bC (fun σ => passAt tk σ) (pa_cons (pv 0) pa_nil))))
        (.one (i := 1) rfl rfl ⟨rfl, by decide, .inl TR.m⟩ (fun a oe cls d pn hz hf => pss_one (ps_ret (pe_lst (pa_cons pe_str (pa_cons (pe_xf TR.xf TR.no hz hf (pv 1)) pa_nil)))))
        (.one (i := 1) rfl rfl ⟨rfl, by decide, .inl TF.m⟩ (fun a oe cls d pn hz hf => pss_one (ps_ret (pe_lst (pa_cons pe_str (pa_cons (pe_xf TF.xf TF.no hz hf (pv 1)) pa_nil))))) (.any _))))
      (pss_one (ps_ret (pe_lst (pa_cons pe_str pa_nil)))), ?_⟩
    refine ⟨_, rfl, l, vals, rfl, hl, l2, l5, by omega, ?_⟩
    rcases h with ⟨as, rws, e, hR, h⟩ | ⟨i, v, hv, before, odd, q⟩
    · refine .inl ⟨as, rws, e, hR, ?_⟩
      rcases h with ⟨two, q⟩ | ⟨more, q⟩
      · exact .inl ⟨two, fun f1 H1 s1 _ _ => ⟨(by show 1 ≤ sizeLine; decide), fun p np => q p _ (s1.trans (same_nw np)) (s1.free np) upd_same⟩⟩
      · refine .inr ⟨more, fun d tp H1 nd2 ntp s1 htp hd => ?_⟩
        exact ⟨false, eX, fun y => Bool.noConfusion y, fun _ => ⟨true, eF, fun _ a na => ⟨_, rfl, rfl, rfl, d, _, .ref tp, rfl, hd, rfl, (by show 2 ≤ sizeLine; decide), fun p np => q p tp _ (s1.trans (same_nw np)) (s1.free np) ntp (same_nw np _ _ htp) upd_same⟩, fun y => Bool.noConfusion y⟩⟩
    · refine .inr ⟨i, v, hv, before, odd, fun d H1 nd2 s1 hd => ?_⟩
      exact ⟨true, eR, fun _ a na => ⟨_, rfl, rfl, rfl, d, _, v, rfl, hd, rfl, (by show 2 ≤ sizeLine; decide), fun p np => q p _ (s1.trans (same_nw np)) (s1.free np) upd_same⟩, fun y => Bool.noConfusion y⟩
theorem fnOk_sub {CX : CXT} {k : Nat} {f : Addr} {fd : FuncData} {ps : List Str} {sp sp2 : Sp} (F : FnOk P w K mg base CX k f fd ps sp) (h : ∀ vs H Q E, sp2 vs H Q E → sp vs H Q E) : FnOk P w K mg base CX k f fd ps sp2 :=
  ⟨fun vs H Q E x => F.len vs H Q E (h _ _ _ _ x), fun A outer s H args us vs Q E r e b v x => F.run A outer s H args us vs Q E r e b v (h _ _ _ _ x)⟩
end
end Mz
set_option Elab.async false
set_option linter.all false
set_option maxRecDepth 100000
set_option maxHeartbeats 4000000
/-! rows as the law draws them -/
namespace Mz
open PySem PySem.Spec PyProof.Rows L2
theorem Bx.off {H : Hp} {b p : Addr} {n : Nat} {o : HO} (B : Bx H b n) (e : H p = some o) (h : ∀ x y z : Int, o ≠ .lst [.int x, .int y, .int z]) : p ≠ b := by
  obtain ⟨x, y, z, hb, _⟩ := B
  intro e2
  rw [e2, hb] at e
  cases e
  exact h _ _ _ rfl
theorem Kp.free {b q : Addr} {H G : Hp} (kp : Kp b H G) (nq : q ≠ b) (e : G q = none) : H q = none := by
  cases x : H q with
  | none => rfl
  | some o =>
    rw [kp q o nq x] at e
    cases e
theorem Bx.new {G : Hp} {b p : Addr} {m : Nat} (hb : Bx G b m) (hp : G p = none) : p ≠ b := by
  obtain ⟨_, _, _, e, _⟩ := hb
  exact (ne_of_none e hp).symm
theorem nodup_sub {α : Type} [DecidableEq α] : ∀ (l D : List α), l.Nodup → (∀ x ∈ l, x ∈ D) → l.length ≤ D.length
  | [], _, _, _ => Nat.zero_le _
  | x :: l, D, nd, h => by
    obtain ⟨n1, n2⟩ := List.nodup_cons.mp nd
    have hx := h x (List.mem_cons_self ..)
    have ih := nodup_sub l (D.erase x) n2 fun y hy => (List.mem_erase_of_ne (fun e => n1 (by rw [← e]; exact hy))).mpr (h y (List.mem_cons_of_mem _ hy))
    rw [List.length_erase_of_mem hx] at ih
    have := List.length_pos_of_mem hx
    rw [List.length_cons]
    omega
def Bsn (z : Str) : Prop := z = "" ∨ z = "n" ∨ z = "m" ∨ z = "k"
/-- what the law passes for a place -/
def Pv9 (C : Addr) (H : Hp) (v : V) (z : Str) (k : Int) : Prop := ((∃ a, v = .ref a ∧ Pl C H a z k) ∨ (∃ s, v = .str s ∧ Sm 20 s ∧ partsS s = some (z, k) ∧ strP z k = s) ∨ (v = .int k ∧ z = "" ∧ 0 ≤ k ∧ k ≤ 3)) ∧ Good z k ∧ Bsn z
theorem Pv9.same {C : Addr} {H H' : Hp} {v : V} {z : Str} {k : Int} (s : Same H H') (h : Pv9 C H v z k) : Pv9 C H' v z k := by
  obtain ⟨h, g⟩ := h
  refine ⟨?_, g⟩
  rcases h with ⟨a, e, dx, h⟩ | h
  · exact .inl ⟨a, e, dx, s _ _ h⟩
  · exact .inr h
theorem pl_ne {C a b : Addr} {H : Hp} {n : Nat} {z : Str} {k : Int} (B : Bx H b n) (h : Pl C H a z k) : a ≠ b := by
  obtain ⟨x, y, w, e, _⟩ := B
  obtain ⟨dx, h⟩ := h
  intro z
  rw [z, e] at h
  cases h
theorem Pv9.kp {C b : Addr} {H H' : Hp} {n : Nat} {v : V} {z : Str} {k : Int} (B : Bx H b n) (kp : Kp b H H') (h : Pv9 C H v z k) : Pv9 C H' v z k := by
  obtain ⟨h, g⟩ := h
  refine ⟨?_, g⟩
  rcases h with ⟨a, e, p⟩ | h
  · have ne := pl_ne B p
    obtain ⟨dx, p⟩ := p
    exact .inl ⟨a, e, dx, kp _ _ ne p⟩
  · exact .inr h
theorem nopl_str {K : PySem.W.Frag} {C : Addr} {H : Hp} {s : Str} (N : Npl K C) (h : Sm 1000 s) : NoPl K C H (.str s) := ⟨.str s h.1 h.2, _, .base (.str s), N.str⟩
theorem nopl_int {K : PySem.W.Frag} {C : Addr} {H : Hp} {i : Int} (N : Npl K C) : NoPl K C H (.int i) := ⟨.int i, _, .base (.int i), N.int⟩
theorem Pv9.pv6 {K : PySem.W.Frag} {C : Addr} {H : Hp} {v : V} {z : Str} {k : Int} (N : Npl K C) (h : Pv9 C H v z k) : Pv6 K C H v z k := by
  obtain ⟨h, _⟩ := h
  rcases h with ⟨a, e, p⟩ | ⟨s, rfl, hs, e, _⟩ | ⟨rfl, rfl, h0, h1⟩
  · exact .inl ⟨a, e, p⟩
  · exact .inr ⟨nopl_str N ⟨Nat.le_trans hs.1 (by decide), hs.2⟩, e⟩
  · exact .inr ⟨nopl_int N, if_pos ⟨h0, h1⟩⟩
/-- a row that the law draws -/
def Row9 (C : Addr) (H : Hp) (a : Addr) (rw : Row) : Prop := ∃ items, H a = some (.tup (.str rw.1 :: items)) ∧ Lk (fun v (p : Str × Int) => Pv9 C H v p.1 p.2) items rw.2 ∧ RwOk rw
theorem Row9.same {C a : Addr} {H H' : Hp} {rw : Row} (s : Same H H') (h : Row9 C H a rw) : Row9 C H' a rw := by
  obtain ⟨items, h1, h2, h3⟩ := h
  exact ⟨items, s _ _ h1, h2.imp fun _ _ x => x.same s, h3⟩
theorem Row9.kp {C a b : Addr} {H H' : Hp} {n : Nat} {rw : Row} (B : Bx H b n) (kp : Kp b H H') (h : Row9 C H a rw) : Row9 C H' a rw := by
  obtain ⟨items, h1, h2, h3⟩ := h
  refine ⟨items, kp _ _ ?_ h1, h2.imp fun _ _ x => x.kp B kp, h3⟩
  obtain ⟨x, y, w, e, _⟩ := B
  intro z
  rw [z, e] at h1
  cases h1
theorem Row9.g {K : PySem.W.Frag} {C a : Addr} {H : Hp} {rw : Row} (N : Npl K C) (h : Row9 C H a rw) : RwG K C H a rw := by
  obtain ⟨items, h1, h2, h3⟩ := h
  exact ⟨items, h1, h2.imp fun _ _ x => x.pv6 N, h3⟩
/-- a row of one place, of two -/
theorem row_page {C a : Addr} {H : Hp} {v : V} {z : Str} {k : Int} (h : H a = some (.tup [.str "page", v])) (p : Pv9 C H v z k) : Row9 C H a ("page", [(z, k)]) :=
  ⟨[v], h, .cons p .nil, rfl, fun q hq => by
    rw [List.mem_singleton.mp hq]
    exact p.2.1⟩
theorem row_most {C a : Addr} {H : Hp} {v u : V} {z y : Str} {k i : Int} (h : H a = some (.tup [.str "at_most", v, u])) (p : Pv9 C H v z k) (q : Pv9 C H u y i) : Row9 C H a ("at_most", [(z, k), (y, i)]) :=
  ⟨[v, u], h, .cons p (.cons q .nil), rfl, fun r hr => by
    rcases List.mem_cons.mp hr with e | e
    · rw [e]
      exact p.2.1
    · rw [List.mem_singleton.mp e]
      exact q.2.1⟩
def spGood9 (C : Addr) : Sp := fun vs H Q _ => ∃ (b : Addr) (n : Nat), vs = [.ref b] ∧ Bx H b n ∧ n ≤ 900000 ∧ ∀ (a : Addr) (rw : Row) (H' : Hp), Row9 C H' a rw → H a = none → a ≠ b → Bx H' b (n + 3) → Kp b H H' → Q (.ref a) H'
theorem good_txt {C : Addr} {H : Hp} {s z : Str} {k : Int} (h : Sm 20 s) (e : partsS s = some (z, k)) (g : Good z k) (b : Bsn z) (hs : strP z k = s := by decide +kernel) : Pv9 C H (.str s) z k := ⟨.inr (.inl ⟨s, rfl, h, e, hs⟩), g, b⟩
theorem good_nb {z : Str} (h : Bsn z) : z.length ≤ 1000 ∧ PyData.strOk z = true ∧ (z = "" ∨ nameS z = true) := by
  rcases h with rfl | rfl | rfl | rfl <;> exact ⟨by decide +kernel, by decide +kernel, by decide +kernel⟩
theorem good_of {z : Str} {k : Int} (b : Bsn z) (h : lowS z ≤ k) (h2 : k ≤ 3) : Good z k := ⟨(good_nb b).1, (good_nb b).2.1, (good_nb b).2.2, h, h2⟩
section
variable {P : Program} {w : World} {K : PySem.W.Frag} {mg : Str → Option Value} {base : Heap}
theorem scGood9 : FnScope ["_law_box_here", "_law_one", "_law_other"] ["_law_box_here"] (defScope sGood9) := ⟨rfl, rfl, rfl, by decide +kernel, rfl, by decide +kernel, by decide +kernel⟩
theorem ok_good9 {f f1 fI C : Addr} {fd fd1 fdI : FuncData} {ds : List Value} {g g2 : List Value → List Value → List Value} (F : Fun K "_law_good" "_law_good" sGood9 f fd) (T : Tk P w K mg base f1 fd1)
    (M : Mk K C fI) (Z : Cpl K mg C) (GI : FnOk P w K mg base CX0 3 fI fdI ["self", "base", "shift"] (spInit C)) (hds : Vals [.int 0] ds) (bI : Binds K fdI ["self", "base", "shift"] ds)
    (kI : KBn K fdI ["self", "base", "shift"] 1 ["shift"] g (fun vs zs => vs ++ [.str ""] ++ zs)) (kI2 : KBn K fdI ["self", "base", "shift"] 2 ["shift"] g2 (fun vs zs => vs ++ zs)) : FnOk P w K mg base CX0 5 f fd ["_law_box_here"] (spGood9 C) := by
  refine F.ok scGood9 (fun vs H Q E h => ?_) (fun cdv A outer s H vs Q E hr4 h => ?_)
  · obtain ⟨b, n, rfl, _⟩ := h
    rfl
  · obtain ⟨b, n, rfl, hB, hn, q⟩ := h
    have nd := scGood9.nd
    have hr : Room 1 _ := hr4.mono (by decide)
    refine ⟨_, (pss_cons (ps_set (i := 1) nd rfl (Or.inl rfl) (pe_ix ix_list (pe_lst (pa_cons pe_str (pa_cons pe_str (pa_cons pe_str (pa_cons pe_str (pa_cons pe_int (pa_cons pe_str (pa_cons (pe_make M GI hr4 (by rfl) Z.mgC bI hds pass0 (pa_cons pe_str pa_nil)) (pa_cons (pe_makeK0 M GI hr4 (by rfl) Z.mgC kI pass0 (pk_cons pe_int pk_nil)) pa_nil))))))))) (pe_call T.ok hr (by rfl) T.m T.k T.b .nil pass0 (pa_cons (pv 0) (pa_cons pe_int pa_nil))) (fun _ _ => rfl)))
      (pss_cons (ps_set (i := 2) nd rfl (Or.inl rfl) (pe_ix ix_list (pe_lst (pa_cons pe_str (pa_cons pe_str (pa_cons pe_str (pa_cons pe_int (pa_cons (pe_makeK M GI hr4 (by rfl) Z.mgC kI2 pass0 (pa_cons pe_str pa_nil) (pk_cons pe_int pk_nil)) pa_nil)))))) (pe_call T.ok hr (by rfl) T.m T.k T.b .nil pass0 (pa_cons (pv 0) (pa_cons pe_int pa_nil))) (fun _ _ => rfl)))
      (pss_one (ps_ret (pe_ix ix_list (pe_lst (pa_cons (pe_tup (pa_cons pe_str (pa_cons (pv 1) pa_nil))) (pa_cons (pe_tup (pa_cons pe_str (pa_cons (pv 1) (pa_cons (pv 2) pa_nil)))) pa_nil))) (pe_call T.ok hr (by rfl) T.m T.k T.b .nil pass0 (pa_cons (pv 0) (pa_cons pe_int pa_nil))) (fun _ _ => rfl)))))), ?_⟩
    have off : ∀ {G : Hp} {p : Addr} {m : Nat}, Bx G b m → G p = none → p ≠ b := fun hb hp => by
      obtain ⟨_, _, _, e, _⟩ := hb
      exact (ne_of_none e hp).symm
    have one : ∀ {H1 : Hp} {p : Addr} (o : HO), H1 p = none → ∃ H2, H2 = upd H1 p o ∧ Same H1 H2 ∧ H2 p = some o := fun o n => ⟨_, rfl, same_nw n, upd_same⟩
    have sm : ∀ {G G' : Hp} {x dx : Addr} {o o2 : HO}, G x = none → G dx = none → (∀ q u, q ≠ x → (upd (upd G dx o) x o2) q = some u → G' q = some u) → Same G G' := fun nx nd u r o h => u r o (ne_of_none h nx) (by
      rw [upd_ne (ne_of_none h nx), upd_ne (ne_of_none h nd)]
      exact h)
    have sm20 : ∀ {y : Str}, (decide (y.length ≤ 20) && PyData.strOk y) = true → Sm 20 y := fun {y} h => by
      rw [Bool.and_eq_true] at h
      exact ⟨of_decide_eq_true h.1, h.2⟩
    refine fun x1 d1 nx1 nd1 _ => ?_
    refine ⟨x1, d1, "m", 0, rfl, upd_same, by decide +kernel, by decide +kernel, .inr (by decide +kernel), by decide +kernel, by decide, fun H1 u1 t1 => ⟨rfl, ?_⟩⟩
    have s1 := sm nx1 nd1 u1
    refine ⟨rfl, rfl, fun x2 d2 nx2 nd2 _ => ?_⟩
    refine ⟨x2, d2, "", 1, rfl, upd_same, by decide +kernel, by decide +kernel, .inl rfl, by decide +kernel, by decide, fun H2 u2 t2 => ⟨rfl, ?_⟩⟩
    have s2 := sm nx2 nd2 u2
    refine ⟨(by show 8 ≤ sizeLine; decide), fun p3 n3 => ?_⟩
    obtain ⟨H3, e, s3, t3⟩ := one (.lst [V.str "n", V.str "n+3", V.str "m-1", V.str "k", V.int 2, V.str "0", V.ref x1, V.ref x2]) n3
    rw [← e]
    clear e
    have B3 := ((hB.same s1).same s2).same s3
    have s13 := s1.trans (s2.trans s3)
    refine ⟨_, rfl, b, n, 8, rfl, B3, by omega, by decide, by decide, fun r1 H4 r10 r11 B4 K4 => ?_⟩
    obtain ⟨v1, hv1, hm1⟩ := atI_in (l := [V.str "n", V.str "n+3", V.str "m-1", V.str "k", V.int 2, V.str "0", V.ref x1, V.ref x2]) r10 r11
    refine ⟨p3, _, _, _, rfl, rfl, SqL.of (K4 _ _ (off ((hB.same s1).same s2) n3) t3), hv1, ?_⟩
    have P1 : ∃ z k, Pv9 C H4 v1 z k ∧ ∀ a, v1 = .ref a → H a = none := by
      have k1 : H4 x1 = some (.ins C d1 (plF "m" 0)) := K4 _ _ (off hB nx1) (s3 _ _ (s2 _ _ t1))
      have k2 : H4 x2 = some (.ins C d2 (plF "" 1)) := K4 _ _ (off (hB.same s1) nx2) (s3 _ _ t2)
      simp only [List.mem_cons, List.not_mem_nil, or_false] at hm1
      rcases hm1 with rfl | rfl | rfl | rfl | rfl | rfl | rfl | rfl
      · exact ⟨"n", 0, good_txt (sm20 (by decide +kernel)) (by decide +kernel) (good_of (.inr (.inl rfl)) (by decide +kernel) (by decide)) (.inr (.inl rfl)), fun a e => nomatch e⟩
      · exact ⟨"n", 3, good_txt (sm20 (by decide +kernel)) (by decide +kernel) (good_of (.inr (.inl rfl)) (by decide +kernel) (by decide)) (.inr (.inl rfl)), fun a e => nomatch e⟩
      · exact ⟨"m", -1, good_txt (sm20 (by decide +kernel)) (by decide +kernel) (good_of (.inr (.inr (.inl rfl))) (by decide +kernel) (by decide)) (.inr (.inr (.inl rfl))), fun a e => nomatch e⟩
      · exact ⟨"k", 0, good_txt (sm20 (by decide +kernel)) (by decide +kernel) (good_of (.inr (.inr (.inr rfl))) (by decide +kernel) (by decide)) (.inr (.inr (.inr rfl))), fun a e => nomatch e⟩
      · exact ⟨"", 2, ⟨.inr (.inr ⟨rfl, rfl, by decide, by decide⟩), good_of (.inl rfl) (by decide +kernel) (by decide), .inl rfl⟩, fun a e => nomatch e⟩
      · exact ⟨"", 0, good_txt (sm20 (by decide +kernel)) (by decide +kernel) (good_of (.inl rfl) (by decide +kernel) (by decide)) (.inl rfl), fun a e => nomatch e⟩
      · exact ⟨"m", 0, ⟨.inl ⟨x1, rfl, d1, k1⟩, good_of (.inr (.inr (.inl rfl))) (by decide +kernel) (by decide), .inr (.inr (.inl rfl))⟩, fun a e => by cases e; exact nx1⟩
      · exact ⟨"", 1, ⟨.inl ⟨x2, rfl, d2, k2⟩, good_of (.inl rfl) (by decide +kernel) (by decide), .inl rfl⟩, fun a e => by cases e; exact s1.free nx2⟩
    obtain ⟨z1, k1, P1, new1⟩ := P1
    clear hv1 hm1
    have KK4 : Kp b H H4 := (Kp.same s13).trans K4
    refine ⟨rfl, rfl, fun x5 d5 nx5 nd5 _ => ?_⟩
    refine ⟨x5, d5, "n", 2, rfl, upd_same, by decide +kernel, by decide +kernel, .inr (by decide +kernel), by decide +kernel, by decide, fun H5 u5 t5 => ⟨rfl, ?_⟩⟩
    have s5 := sm nx5 nd5 u5
    refine ⟨(by show 5 ≤ sizeLine; decide), fun p6 n6 => ?_⟩
    obtain ⟨H6, e, s6, t6⟩ := one (.lst [V.str "n-3", V.str "m", V.str "n+1", V.int 3, V.ref x5]) n6
    rw [← e]
    clear e
    have B6 := (B4.same s5).same s6
    refine ⟨_, rfl, b, n + 1, 5, rfl, B6, by omega, by decide, by decide, fun r2 H7 r20 r21 B7 K7 => ?_⟩
    obtain ⟨v2, hv2, hm2⟩ := atI_in (l := [V.str "n-3", V.str "m", V.str "n+1", V.int 3, V.ref x5]) r20 r21
    refine ⟨p6, _, _, _, rfl, rfl, SqL.of (K7 _ _ (off (B4.same s5) n6) t6), hv2, ?_⟩
    have P2 : ∃ z k, Pv9 C H7 v2 z k := by
      have k5 : H7 x5 = some (.ins C d5 (plF "n" 2)) := K7 _ _ (off B4 nx5) (s6 _ _ t5)
      simp only [List.mem_cons, List.not_mem_nil, or_false] at hm2
      rcases hm2 with rfl | rfl | rfl | rfl | rfl
      · exact ⟨"n", -3, good_txt (sm20 (by decide +kernel)) (by decide +kernel) (good_of (.inr (.inl rfl)) (by decide +kernel) (by decide)) (.inr (.inl rfl))⟩
      · exact ⟨"m", 0, good_txt (sm20 (by decide +kernel)) (by decide +kernel) (good_of (.inr (.inr (.inl rfl))) (by decide +kernel) (by decide)) (.inr (.inr (.inl rfl)))⟩
      · exact ⟨"n", 1, good_txt (sm20 (by decide +kernel)) (by decide +kernel) (good_of (.inr (.inl rfl)) (by decide +kernel) (by decide)) (.inr (.inl rfl))⟩
      · exact ⟨"", 3, ⟨.inr (.inr ⟨rfl, rfl, by decide, by decide⟩), good_of (.inl rfl) (by decide +kernel) (by decide), .inl rfl⟩⟩
      · exact ⟨"n", 2, ⟨.inl ⟨x5, rfl, d5, k5⟩, good_of (.inr (.inl rfl)) (by decide +kernel) (by decide), .inr (.inl rfl)⟩⟩
    obtain ⟨z2, k2, P2⟩ := P2
    clear hv2 hm2
    have P1' : Pv9 C H7 v1 z1 k1 := ((P1.same s5).same s6).kp B6 K7
    have KK7 : Kp b H H7 := KK4.trans ((Kp.same (s5.trans s6)).trans K7)
    refine ⟨_, rfl, (by show 2 ≤ sizeLine; decide), fun p8 n8 => ?_⟩
    obtain ⟨H8, e, s8, t8⟩ := one (.tup [V.str "page", v1]) n8
    rw [← e]
    clear e
    refine ⟨_, rfl, _, rfl, (by show 3 ≤ sizeLine; decide), fun p9 n9 => ?_⟩
    obtain ⟨H9, e, s9, t9⟩ := one (.tup [V.str "at_most", v1, v2]) n9
    rw [← e]
    clear e
    refine ⟨(by show 2 ≤ sizeLine; decide), fun p10 n10 => ?_⟩
    obtain ⟨H10, e, s10, t10⟩ := one (.lst [V.ref p8, V.ref p9]) n10
    rw [← e]
    clear e
    have B10 := ((B7.same s8).same s9).same s10
    refine ⟨_, rfl, b, n + 2, 2, rfl, B10, by omega, by decide, by decide, fun r3 H11 r30 r31 B11 K11 => ?_⟩
    have i2 : r3 = 0 ∨ r3 = 1 := by omega
    have b8 := off B7 n8
    have b9 := off (B7.same s8) n9
    have b10 := off ((B7.same s8).same s9) n10
    have Q1 : Pv9 C H11 v1 z1 k1 := (((P1'.same s8).same s9).same s10).kp B10 K11
    have Q2 : Pv9 C H11 v2 z2 k2 := (((P2.same s8).same s9).same s10).kp B10 K11
    have KK : Kp b H H11 := KK7.trans ((Kp.same (s8.trans (s9.trans s10))).trans K11)
    have h10 := K11 _ _ b10 t10
    have f7 : ∀ {p : Addr}, H7 p = none → p ≠ b → H p = none := fun {p} e ne => KK7.free ne e
    rcases i2 with rfl | rfl
    · exact ⟨p10, _, _, _, rfl, rfl, SqL.of h10, rfl, q p8 _ H11 (row_page (K11 _ _ b8 (s10 _ _ (s9 _ _ t8))) Q1) (f7 n8 b8) b8 B11 KK⟩
    · exact ⟨p10, _, _, _, rfl, rfl, SqL.of h10, rfl, q p9 _ H11 (row_most (K11 _ _ b9 (s10 _ _ t9)) Q1 Q2) (f7 (s8.free n9) b9) b9 B11 KK⟩
end
end Mz
set_option Elab.async false
set_option linter.all false
set_option maxRecDepth 100000
set_option maxHeartbeats 4000000
/-! a dict, an empty list, flat values in a container -/
namespace Mz
open PySem PySem.Spec PyProof.Rows L2
section
variable {X : Cx} {k : Nat} {as : List Addr} {Pre : Hp → Prop}
theorem shw_nil {a : Addr} (hA : ∀ H, Pre H → H a = some (.lst [])) : ShW X k as Pre (.ref a) "[]" := by
  intro base hb A g pins σ H s u Q hfr hg hcl fr hr I pre r q
  obtain rfl : u = Value.ref a := r
  obtain ⟨z, its, n, rv, l1, ha⟩ := I.lstM (hA H pre)
  cases rv
  have hun := hr.units
  exact ReprK.listEmpty (as := []) (h₀ := s.heap) (d := 0) ha rfl rfl base hb A g X.xe s Q hg (fun b hb => nomatch hb) (by omega) (fun _ _ e => e) fun h' tk hk => q H _ (I.kept hk) (Same.refl H)
theorem shw_dict {a : Addr} {kvs : List (Key × V)} (hA : ∀ H, Pre H → H a = some (.dK kvs) ∧ ∀ kv ∈ kvs, KOk kv.1 ∧ VOk [] H kv.2) : ShW X k [a] Pre (.ref a) (dictText (kvs.map entT)) := by
  intro base hb A g pins σ H s u Q hfr hg hcl fr hr I pre r q
  obtain rfl : u = Value.ref a := r
  obtain ⟨ha, hall⟩ := hA H pre
  obtain ⟨_, hsys, vs, kv, o, es, ep, ho, hx, hd, _, hpair, _⟩ := dk_of I.hok ha
  have hun := hr.units
  exact ReprK.dict (as := []) (h₀ := s.heap) (d := 1) ho hx.1 hd hsys (by simp) (ents_shown I kvs vs es.toList kv hpair hall) base hb A g X.xe s Q hg hcl (by omega) (fun _ _ e => e) fun h' tk hk => q H _ (I.kept hk) (Same.refl H)
end
/-- flat values of some size -/
def FlatOk (v : V) : Prop := v = .non ∨ (∃ b, v = .bl b) ∨ (∃ i : Int, v = .int i ∧ 0 ≤ i ∧ i < 100) ∨ ∃ s : Str, v = .str s ∧ (reprText s).length ≤ 1000 ∧ s.length ≤ 1000 ∧ PyData.strOk s = true
theorem small_text {i : Int} (h0 : 0 ≤ i) (h1 : i < 100) : i.natAbs.log2 < 1920 ∧ (Str.ofString (toString i)).length ≤ 1000 := by
  have h : ∀ n : Nat, n < 100 → (Str.ofString (toString (n : Int))).length ≤ 1000 := by decide +kernel
  obtain ⟨n, rfl⟩ := Int.eq_ofNat_of_zero_le h0
  refine ⟨?_, h n (by omega)⟩
  have h : (n : Int).natAbs < 2 ^ 7 := by omega
  exact Nat.lt_trans (PySem.Flt.log2_lt_of (by decide) h) (by decide)
section
variable {X : Cx} {k : Nat} {Pre : Hp → Prop}
theorem shw_flat {v : V} (h : FlatOk v) : ∃ t : Str, t.length ≤ 1000 ∧ ∀ as, ShW X k as Pre v t := by
  rcases h with rfl | ⟨b, rfl⟩ | ⟨i, rfl, h0, h1⟩ | ⟨s, rfl, h, _⟩
  · exact ⟨_, by simp only [PyData.shown]; decide +kernel, fun _ => shw_non⟩
  · exact ⟨_, by cases b <;> simp only [PyData.shown] <;> decide +kernel, fun _ => shw_bl⟩
  · exact ⟨_, (small_text h0 h1).2, fun _ => ShV.w (shv_int (small_text h0 h1).1)⟩
  · exact ⟨_, h, fun _ => ShV.w (shv_str (Nat.le_trans h (by decide)))⟩
theorem lk_flats : ∀ {l : List V}, (∀ v ∈ l, FlatOk v) → ∃ ts : List Str, piled ts ≤ 1002 * l.length ∧ ∀ as, Lk (fun v t => ShW X k as Pre v t) l ts
  | [], _ => ⟨[], Nat.le_refl _, fun _ => .nil⟩
  | v :: l, h => by
    obtain ⟨t, n, ht⟩ := shw_flat (X := X) (k := k) (Pre := Pre) (h v List.mem_cons_self)
    obtain ⟨ts, m, hts⟩ := lk_flats (l := l) fun u hu => h u (List.mem_cons_of_mem _ hu)
    refine ⟨t :: ts, ?_, fun as => .cons (ht as) (hts as)⟩
    rw [piled_cons, List.length_cons]
    omega
/-- list texts -/
theorem list_text (ts : List Str) : (listText ts).length ≤ piled ts + 2 := by
  have e : ∀ (l : List Str) (n : Nat) (acc : Str), (textFrom n acc l).length ≤ acc.length + piled l := by
    intro l
    induction l with
    | nil => intro n acc; exact Nat.le_add_right _ _
    | cons y l ih =>
      intro n acc
      have z := ih (n + 1) (acc ++ (if n > 0 then ", " else "" : String) ++ y)
      have l2 : (((if n > 0 then ", " else "" : String) : Str)).length ≤ 2 := by split <;> decide +kernel
      rw [piled_cons]
      show (textFrom (n + 1) (acc ++ (if n > 0 then ", " else "" : String) ++ y) l).length ≤ _
      rw [strLen_append, strLen_append] at z
      omega
  have h := e ts 0 "["
  have l1 : ("[" : Str).length = 1 := by decide +kernel
  have l2 : ("]" : Str).length = 1 := by decide +kernel
  show (textFrom 0 "[" ts ++ "]").length ≤ _
  rw [strLen_append]
  omega
end
end Mz
set_option Elab.async false
set_option linter.all false
set_option maxRecDepth 100000
set_option maxHeartbeats 4000000
/-! the things that the law passes, and how they are shown -/
namespace Mz
open PySem PySem.Spec PyProof.Rows L2
/-- a flat value, or a list or a tuple of such -/
def Itm (H : Hp) (v : V) : Prop := FlatOk v ∨ ∃ q l, v = .ref q ∧ (H q = some (.lst l) ∨ H q = some (.tup l)) ∧ (∀ x ∈ l, FlatOk x) ∧ l.length ≤ 2
inductive Thing (C F S : Addr) (H : Hp) : V → Prop
  | itm {v : V} (h : Itm H v) : Thing C F S H v
  | tup {a : Addr} {vs : List V} (h : H a = some (.tup vs)) (hv : ∀ v ∈ vs, Itm H v) (n : vs.length ≤ 5) (na : ∀ v ∈ vs, v ≠ .ref a) : Thing C F S H (.ref a)
  | dct {a : Addr} {kvs : List (Key × V)} (h : H a = some (.dK kvs)) (n : kvs.length ≤ 2) (hk : ∀ kv ∈ kvs, KOk kv.1 ∧ VOk [] (fun _ => none) kv.2) : Thing C F S H (.ref a)
  | fac {f : Addr} {rws : List Row} (h : Fac F C H f rws) : Thing C F S H (.ref f)
  | stg {s : Addr} {kvs : List (Key × V)} {pg : Int} (h : Stg S H s kvs pg) (ok : SzOk kvs) (p0 : 0 ≤ pg) (p1 : pg < 100) : Thing C F S H (.ref s)
  | lst {q s : Addr} {kvs : List (Key × V)} {pg : Int} (h : H q = some (.lst [.ref s])) (hs : Stg S H s kvs pg) (ok : SzOk kvs) (p0 : 0 ≤ pg) (p1 : pg < 100) : Thing C F S H (.ref q)
/-- the addresses as are in use -/
def Used (H : Hp) (as : List Addr) : Prop := ∀ b ∈ as, ∃ o, H b = some o
theorem Used.off {H : Hp} {as : List Addr} {p : Addr} (h : Used H as) (n : H p = none) : p ∉ as := fun m => by
  obtain ⟨o, e⟩ := h p m
  rw [n] at e
  cases e
/-- the own reprs, as the written part has them -/
structure Shows (P : Program) (w : World) (K : PySem.W.Frag) (mg : Str → Option Value) (base : Heap) (C F S fP fF fS : Addr) (dP dF dS : FuncData) : Prop where
  rP : FnOk P w K mg base CX0 1 fP dP ["self"] (spReprP C)
  bP : Binds K dP ["self"] []
  iP : PySem.W.findIn K (.ref C) "__repr__" = some (some (.ref fP))
  jP : PySem.W.isFn K (.ref fP) = true
  rF : FnS P w K mg base CX0 4 fF dF ["self"] (spReprF F C)
  bF : Binds K dF ["self"] []
  iF : PySem.W.findIn K (.ref F) "__repr__" = some (some (.ref fF))
  jF : PySem.W.isFn K (.ref fF) = true
  rS : FnS P w K mg base CX0 2 fS dS ["self"] (spReprS S)
  bS : Binds K dS ["self"] []
  iS : PySem.W.findIn K (.ref S) "__repr__" = some (some (.ref fS))
  jS : PySem.W.isFn K (.ref fS) = true
section
variable {X : Cx} {H : Hp} {C F S fP fF fS : Addr} {dP dF dS : FuncData}
theorem shw_itm {v : V} (h : Itm H v) : ∃ (as : List Addr) (t : Str), Used H as ∧ t.length ≤ 4000 ∧ (∀ b ∈ as, v = .ref b) ∧ ShW X 1 as (Same H) v t := by
  rcases h with h | ⟨q, l, rfl, hq, hl, n⟩
  · obtain ⟨t, m, ht⟩ := shw_flat (X := X) (k := 1) (Pre := Same H) h
    exact ⟨[], t, (fun b hb => nomatch hb), by omega, (fun b hb => nomatch hb), ht []⟩
  · obtain ⟨ts, m, ht⟩ := lk_flats (X := X) (k := 0) (Pre := Same H) hl
    have u : Used H [q] := fun b hb => by
      rw [List.mem_singleton.mp hb]
      rcases hq with e | e
      · exact ⟨_, e⟩
      · exact ⟨_, e⟩
    have m2 : ∀ b ∈ [q], V.ref q = .ref b := fun b hb => by rw [List.mem_singleton.mp hb]
    rcases hq with e | e
    · cases l with
      | nil => exact ⟨[q], "[]", u, by decide +kernel, m2, (shw_nil (as := [q]) fun H' s => s _ _ e)⟩
      | cons x l =>
        have tl := list_text ts
        rw [List.length_cons] at n m
        exact ⟨[q], _, u, by omega, m2, shw_lst (by simp) (fun _ _ s h => h.trans s) (ht []) fun H' s => s _ _ e⟩
    · have tl := PySem.fmt_text ts
      exact ⟨[q], _, u, by omega, m2, shw_tup (by simp) (fun _ _ s h => h.trans s) (ht []) fun H' s => s _ _ e⟩
theorem lk_itms : ∀ {l : List V}, (∀ v ∈ l, Itm H v) → ∃ (as : List Addr) (ts : List Str), Used H as ∧ piled ts ≤ 4002 * l.length ∧ (∀ b ∈ as, .ref b ∈ l) ∧ Lk (fun v t => ShW X 1 as (Same H) v t) l ts
  | [], _ => ⟨[], [], (fun b hb => nomatch hb), Nat.le_refl _, (fun b hb => nomatch hb), .nil⟩
  | v :: l, h => by
    obtain ⟨as, t, u, n, m, ht⟩ := shw_itm (X := X) (h v List.mem_cons_self)
    obtain ⟨bs, ts, u2, n2, m2, hts⟩ := lk_itms (l := l) fun u hu => h u (List.mem_cons_of_mem _ hu)
    refine ⟨as ++ bs, t :: ts, fun b hb => ?_, ?_, fun b hb => ?_, .cons (ht.more fun b hb => List.mem_append_left _ hb) (hts.imp fun _ _ z => z.more fun b hb => List.mem_append_right _ hb)⟩
    · rcases List.mem_append.mp hb with e | e
      · exact u b e
      · exact u2 b e
    · rw [piled_cons, List.length_cons]
      omega
    · rcases List.mem_append.mp hb with e | e
      · rw [m b e]
        exact List.mem_cons_self
      · exact List.mem_cons_of_mem _ (m2 b e)
theorem shw_stg {s : Addr} {kvs : List (Key × V)} {pg : Int} (R : Shows X.prog X.w X.K X.mg X.base C F S fP fF fS dP dF dS) (h : Stg S H s kvs pg) (ok : SzOk kvs) (p0 : 0 ≤ pg) (p1 : pg < 100) : ∃ d, (∃ o, H d = some o) ∧ (∃ l, H d = some (.dK l)) ∧ (setT kvs pg).length ≤ 3000 ∧ ShW X 2 [d] (Same H) (.ref s) (setT kvs pg) := by
  obtain ⟨dx, d, h1, h2⟩ := h
  obtain ⟨t1, t2⟩ := small_text p0 p1
  have hp : (Str.ofString (toString pg)).length ≤ 300 := by
    have h : ∀ n : Nat, n < 100 → (Str.ofString (toString (n : Int))).length ≤ 300 := by decide +kernel
    obtain ⟨n, rfl⟩ := Int.eq_ofNat_of_zero_le p0
    exact h n (by omega)
  refine ⟨d, ⟨_, h2⟩, ⟨_, h2⟩, setT_len ok hp, shw_own R.rS R.bS R.iS R.jS fun H' g sm hcl fr => ?_⟩
  exact ⟨dx, _, sm _ _ h1, s, d, kvs, pg, rfl, ⟨dx, sm _ _ h1, sm _ _ h2⟩, ok, t1, hp, hcl d (List.mem_singleton.mpr rfl), rfl, Same.refl H'⟩
/-- each thing is shown as some text -/
theorem Thing.shw {v : V} (R : Shows X.prog X.w X.K X.mg X.base C F S fP fF fS dP dF dS) (h : Thing C F S H v) : ∃ (as : List Addr) (t : Str), Used H as ∧ t.length ≤ 1200000 ∧ ShW X 4 as (Same H) v t := by
  cases h with
  | itm h =>
    obtain ⟨as, t, u, n, _, ht⟩ := shw_itm (X := X) h
    exact ⟨as, t, u, by omega, ht.lift (by decide)⟩
  | @tup a vs h hv n na =>
    obtain ⟨as, ts, u, m, mm, ht⟩ := lk_itms (X := X) hv
    have tl := PySem.fmt_text ts
    refine ⟨a :: as, _, fun b hb => ?_, by omega, (shw_tup (k := 1) (fun hm => na _ (mm a hm) rfl) (fun _ _ s h => h.trans s) ht fun H' s => s _ _ h).lift (by decide)⟩
    rcases List.mem_cons.mp hb with e | e
    · rw [e]
      exact ⟨_, h⟩
    · exact u b e
  | @dct a kvs h n hk =>
    have l2 : (dictText (kvs.map entT)).length ≤ 5000 := by
      have e1 := ent_sum (qs := []) (H := fun _ => none) kvs hk
      have e2 := StrLaws.join_length_le ", " (kvs.map entT)
      have e3 : (dictText (kvs.map entT)).length = 1 + (Str.join ", " (kvs.map entT)).length + 1 := by
        unfold dictText
        rw [strLen_append, strLen_append]
        rfl
      have e5 : (", " : Str).length = 2 := by decide +kernel
      rw [e5, List.length_map] at e2
      omega
    refine ⟨[a], _, fun b hb => ?_, by omega, shw_dict fun H' s => ⟨s _ _ h, fun kv m => ⟨(hk kv m).1, ?_⟩⟩⟩
    · rw [List.mem_singleton.mp hb]
      exact ⟨_, h⟩
    · rcases (hk kv m).2 with e | e | e | e | ⟨q, _, m, _⟩
      · exact .inl e
      · exact .inr (.inl e)
      · exact .inr (.inr (.inl e))
      · exact .inr (.inr (.inr (.inl e)))
      · exact nomatch m
  | @fac f rws h =>
    obtain ⟨as, hA⟩ := h.addr
    obtain ⟨dx, rl, ul, h1, h2, h3, h4⟩ := id hA
    refine ⟨as, _, fun b hb => ?_, Nat.le_trans (facT_len h.ok h4).1 (by decide), shw_own R.rF R.bF R.iF R.jF fun H' g sm hcl fr => ?_⟩
    · obtain ⟨rw, _, qs, e, _⟩ := h3.memL hb
      exact ⟨_, e⟩
    · exact ⟨dx, _, sm _ _ h1, f, rws, as, rfl, hA.same sm, hcl, fr, fun H2 s2 => ⟨rfl, s2⟩⟩
  | @stg s kvs pg h ok p0 p1 =>
    obtain ⟨d, u, _, n, hs⟩ := shw_stg R h ok p0 p1
    refine ⟨[d], _, fun b hb => ?_, by omega, hs.lift (by decide)⟩
    rw [List.mem_singleton.mp hb]
    exact u
  | @lst q s kvs pg h hs ok p0 p1 =>
    obtain ⟨d, u, ⟨l, ud⟩, n, hh⟩ := shw_stg R hs ok p0 p1
    have qd : q ∉ [d] := fun m => by
      rw [← List.mem_singleton.mp m, h] at ud
      cases ud
    have tl := list_text [setT kvs pg]
    have e : piled [setT kvs pg] = (setT kvs pg).length + 2 + 0 := rfl
    refine ⟨[q, d], _, fun b hb => ?_, by omega, (shw_lst (k := 2) qd (fun _ _ s h => h.trans s) (.cons hh .nil) fun H' s => s _ _ h).lift (by decide)⟩
    rcases List.mem_cons.mp hb with e | e
    · rw [e]
      exact ⟨_, h⟩
    · rw [List.mem_singleton.mp e]
      exact u
/-- [w, v] is shown as some text, wherever it stands -/
theorem Thing.text {v : V} {w : Str} (R : Shows X.prog X.w X.K X.mg X.base C F S fP fF fS dP dF dS) (hw : (reprText w).length ≤ 20) (h : Thing C F S H v) :
    ∃ t : Str, ∀ (H2 : Hp) (p : Addr) (QQ : VK), Same H H2 → H p = none → H2 p = some (.lst [.str w, v]) → (∀ H', Same H2 H' → QQ (.str t) H') → rReprWS X 4 [.ref p] H2 QQ := by
  obtain ⟨as, t, u, n, ht⟩ := Thing.shw (X := X) R h
  refine ⟨listText [reprText w, t], fun H2 p QQ s np e q => ⟨⟨p, as, .str w, [v], [reprText w, t], Same H, rfl, e, u.off np, fun _ _ s h => h.trans s, s, .cons (ShV.w (shv_str (Nat.le_trans hw (by decide)))) (.cons ht .nil), ?_, q⟩⟩⟩
  have tl := list_text [reprText w, t]
  have e1 : piled [reprText w, t] = (reprText w).length + 2 + (t.length + 2 + 0) := rfl
  have big : 2000000 ≤ sizeLine := by decide
  omega
end
end Mz
set_option Elab.async false
set_option linter.all false
set_option maxRecDepth 100000
set_option maxHeartbeats 4000000
/-! values that are no rows -/
namespace Mz
open PySem PySem.Spec PyProof.Rows L2
theorem Fac.kp {C F b : Addr} {H H' : Hp} {n : Nat} (B : Bx H b n) (k : Kp b H H') {f : Addr} {rws : List Row} (h : Fac F C H f rws) : Fac F C H' f rws := by
  obtain ⟨dx, rl, ul, as, ys, h1, h2, h3, h4, h5⟩ := h
  have nl : ∀ {l : Addr} {xs : List V}, H l = some (.lst xs) → (∀ x y z : Int, xs ≠ [.int x, .int y, .int z]) → l ≠ b := fun e n2 => B.off e (fun x y z e2 => n2 x y z (by injection e2))
  refine ⟨dx, rl, ul, as, ys, k _ _ (B.off h1 (fun _ _ _ x => nomatch x)) h1, k _ _ (nl h2 fun x y z e => ?_) h2, h3.imp fun a rw ⟨qs, e1, e2, e3⟩ => ⟨qs, k _ _ (B.off e1 (fun _ _ _ x => nomatch x)) e1, e2.imp fun q p ⟨dy, e⟩ => ⟨dy, k _ _ (B.off e (fun _ _ _ x => nomatch x)) e⟩, e3⟩, k _ _ (nl h4 fun x y z e => ?_) h4, h5⟩
  · have := congrArg List.head? e
    cases as <;> simp at this
  · have := congrArg List.head? e
    cases ys <;> simp at this
theorem Itm.kp {b : Addr} {H H' : Hp} {n : Nat} {v : V} (B : Bx H b n) (k : Kp b H H') (h : Itm H v) : Itm H' v := by
  rcases h with h | ⟨q, l, e, hq, hl, m⟩
  · exact .inl h
  · refine .inr ⟨q, l, e, ?_, hl, m⟩
    rcases hq with h | h
    · exact .inl (k _ _ (B.off h fun x y z e2 => by
        injection e2 with e3
        rw [e3] at m
        exact absurd m (by show ¬ 3 ≤ 2; decide)) h)
    · exact .inr (k _ _ (B.off h fun _ _ _ x => nomatch x) h)
theorem Itm.same {H H' : Hp} {v : V} (s : Same H H') (h : Itm H v) : Itm H' v := by
  rcases h with h | ⟨q, l, e, hq, hl, m⟩
  · exact .inl h
  · exact .inr ⟨q, l, e, hq.imp (s _ _) (s _ _), hl, m⟩
/-- whether a tuple of such values is a row -/
def fctB : List V → Bool
  | .str z :: r => match plS z with
    | none => false
    | some n => decide (r.length = n.toNat) && r.all fun v => (ofV v).isSome
  | _ => false
theorem fctB_none {z : Str} {r : List V} (e : plS z = none) : fctB (.str z :: r) = false := by simp only [fctB, e]
theorem fctB_some {z : Str} {r : List V} {n : Int} (e : plS z = some n) : fctB (.str z :: r) = (decide (r.length = n.toNat) && r.all fun v => (ofV v).isSome) := by simp only [fctB, e]
/-- lists and tuples are no places -/
structure Npc (K : PySem.W.Frag) (C : Addr) : Prop where
  lst : PySem.W.kitOne K (.type "list") (.ref C) = some false
  tup : PySem.W.kitOne K (.type "tuple") (.ref C) = some false
theorem flat_nopl {K : PySem.W.Frag} {C : Addr} {H : Hp} {v : V} (N : Npl K C) (h : FlatOk v) : NoPl K C H v := by
  rcases h with rfl | ⟨b, rfl⟩ | ⟨i, rfl, _⟩ | ⟨s, rfl, _, h1, h2⟩
  · exact ⟨.non, _, .base .non, N.non⟩
  · exact ⟨.bl b, _, .base (.bl b), N.bool⟩
  · exact nopl_int N
  · exact nopl_str N ⟨h1, h2⟩
theorem itm_nopl {K : PySem.W.Frag} {C : Addr} {H : Hp} {v : V} (N : Npl K C) (NM : Npc K C) (h : Itm H v) : NoPl K C H v := by
  rcases h with h | ⟨q, l, rfl, h | h, _⟩
  · exact flat_nopl N h
  · exact ⟨.oth q _ (.base (.lst h)) (kit_ty (by decide +kernel)) (kit_ty (by decide +kernel)), _, .base (.lst h), NM.lst⟩
  · exact ⟨.oth q _ (.base (.tup h)) (kit_ty (by decide +kernel)) (kit_ty (by decide +kernel)), _, .base (.tup h), NM.tup⟩
theorem fct_tup {K : PySem.W.Frag} {C a : Addr} {H : Hp} {vs : List V} (N : Npl K C) (NM : Npc K C) (h : H a = some (.tup vs)) (hv : ∀ v ∈ vs, Itm H v) (n : vs.length ≤ 5) : Fct K C H (.ref a) (fctB vs) := by
  refine .inr ⟨a, vs, rfl, h, ?_⟩
  match vs, hv, n with
  | [], _, _ => exact .inl ⟨rfl, rfl⟩
  | x :: r, hv, n =>
    refine .inr ⟨x, r, rfl, ?_⟩
    rcases hv x List.mem_cons_self with hx | ⟨q, l, rfl, hq, _⟩
    · rcases hx with rfl | ⟨b, rfl⟩ | ⟨i, rfl, _⟩ | ⟨z, rfl, _⟩
      · exact .inl ⟨_, .base .non, kit_ty (by decide +kernel), rfl⟩
      · exact .inl ⟨_, .base (.bl b), kit_ty (by decide +kernel), rfl⟩
      · exact .inl ⟨_, .base (.int i), kit_ty (by decide +kernel), rfl⟩
      · refine .inr ⟨z, rfl, ?_⟩
        cases e : plS z with
        | none => exact .inl ⟨rfl, fctB_none e⟩
        | some m =>
          refine .inr ⟨m, rfl, ?_⟩
          rw [List.length_cons] at n
          by_cases l : r.length = m.toNat
          · refine .inr ⟨l, r.map fun v => (ofV v).isSome, by rw [List.length_map], fun i v b hi hb => ?_, ?_⟩
            · rw [List.getElem?_map, hi] at hb
              cases hb
              exact .inr ⟨itm_nopl N NM (hv v (List.mem_cons_of_mem _ (List.mem_of_getElem? hi))), rfl⟩
            · rw [fctB_some e, decide_eq_true l, Bool.true_and, List.all_map]
              rfl
          · refine .inl ⟨l, by omega, ?_⟩
            rw [fctB_some e, decide_eq_false l, Bool.false_and]
    · rcases hq with hq | hq
      · exact .inl ⟨_, .base (.lst hq), kit_ty (by decide +kernel), rfl⟩
      · exact .inl ⟨_, .base (.tup hq), kit_ty (by decide +kernel), rfl⟩
inductive Od9 (C F : Addr) (H : Hp) : V → Prop
  | flat {v : V} (h : FlatOk v) : Od9 C F H v
  | lst {q : Addr} {l : List V} (h : H q = some (.lst l)) (hl : ∀ x ∈ l, FlatOk x) (n : l.length ≤ 2) : Od9 C F H (.ref q)
  | tup {a : Addr} {vs : List V} (h : H a = some (.tup vs)) (hv : ∀ v ∈ vs, Itm H v) (n : vs.length ≤ 5) (na : ∀ v ∈ vs, v ≠ .ref a) (odd : fctB vs = false) : Od9 C F H (.ref a)
  | dct {a : Addr} (h : H a = some (.dK [(.inr "page", .str "n")])) : Od9 C F H (.ref a)
  | fac {f : Addr} (h : Fac F C H f []) : Od9 C F H (.ref f)
theorem Od9.same {C F : Addr} {H H' : Hp} {v : V} (s : Same H H') (h : Od9 C F H v) : Od9 C F H' v := by
  cases h with
  | flat h => exact .flat h
  | lst h hl n => exact .lst (s _ _ h) hl n
  | tup h hv n na odd => exact .tup (s _ _ h) (fun v m => (hv v m).same s) n na odd
  | dct h => exact .dct (s _ _ h)
  | fac h => exact .fac (h.same s)
theorem Od9.kp {C F b : Addr} {H H' : Hp} {n : Nat} {v : V} (B : Bx H b n) (k : Kp b H H') (h : Od9 C F H v) : Od9 C F H' v := by
  cases h with
  | flat h => exact .flat h
  | lst h hl m => exact .lst (k _ _ (B.off h fun x y z e2 => by
      injection e2 with e3
      rw [e3] at m
      exact absurd m (by show ¬ 3 ≤ 2; decide)) h) hl m
  | tup h hv m na odd => exact .tup (k _ _ (B.off h fun _ _ _ x => nomatch x) h) (fun v mm => (hv v mm).kp B k) m na odd
  | dct h => exact .dct (k _ _ (B.off h fun _ _ _ x => nomatch x) h)
  | fac h => exact .fac (h.kp B k)
theorem page_ok : ∀ kv ∈ ([(.inr "page", .str "n")] : List (Key × V)), KOk kv.1 ∧ VOk [] (fun _ => none) kv.2 := fun kv m => by
  rw [List.mem_singleton.mp m]
  exact ⟨by show (reprText "page").length ≤ 300; decide +kernel, .inr (.inr (.inr (.inl ⟨"n", rfl, by decide +kernel⟩)))⟩
theorem Od9.thing {C F S : Addr} {H : Hp} {v : V} (h : Od9 C F H v) : Thing C F S H v := by
  cases h with
  | flat h => exact .itm (.inl h)
  | lst h hl n => exact .itm (.inr ⟨_, _, rfl, .inl h, hl, n⟩)
  | tup h hv n na odd => exact .tup h hv n na
  | dct h => exact .dct h (by decide) page_ok
  | fac h => exact .fac h
theorem Od9.fct {K : PySem.W.Frag} {C F : Addr} {H : Hp} {v : V} (N : Npl K C) (NM : Npc K C) (YF : Pty K F) (kF : PySem.W.kitOne K (.ref F) (.type "tuple") = some false) (h : Od9 C F H v) : Fct K C H v false := by
  cases h with
  | flat h =>
    rcases h with rfl | ⟨b, rfl⟩ | ⟨i, rfl, _⟩ | ⟨s, rfl, _⟩
    · exact .inl ⟨_, .base .non, kit_ty (by decide +kernel), rfl⟩
    · exact .inl ⟨_, .base (.bl b), kit_ty (by decide +kernel), rfl⟩
    · exact .inl ⟨_, .base (.int i), kit_ty (by decide +kernel), rfl⟩
    · exact .inl ⟨_, .base (.str s), kit_ty (by decide +kernel), rfl⟩
  | lst h hl n => exact .inl ⟨_, .base (.lst h), kit_ty (by decide +kernel), rfl⟩
  | tup h hv n na odd =>
    rw [← odd]
    exact fct_tup N NM h hv n
  | dct h => exact .inl ⟨_, .base (.dK h), kit_ty (by decide +kernel), rfl⟩
  | fac h =>
    obtain ⟨dx, rl, ul, as, ys, h1, _⟩ := h
    exact .inl ⟨_, .base (.ins h1 YF.cl YF.ha YF.hn YF.htk YF.hm), kF, rfl⟩
/-- H2 keeps what is new in H', b aside -/
def Nw (b : Addr) (H H' H2 : Hp) : Prop := ∀ p o, H p = none → p ≠ b → H' p = some o → H2 p = some o
def spOdd9 (C F : Addr) : Sp := fun vs H Q _ => ∃ (b : Addr) (n : Nat), vs = [.ref b] ∧ Bx H b n ∧ n ≤ 900000 ∧ ∀ (v : V) (H' : Hp), (∀ H2, Nw b H H' H2 → Od9 C F H2 v) → (∀ a, v = .ref a → H a = none ∧ a ≠ b) → Bx H' b (n + 1) → Kp b H H' → Q v H'
end Mz
set_option Elab.async false
set_option linter.all false
set_option maxRecDepth 100000
set_option maxHeartbeats 8000000
/-! values that are no rows, as the law draws them -/
namespace Mz
open PySem PySem.Spec PyProof.Rows L2
theorem fa_cons {α : Type} {R : α → Prop} {x : α} {l : List α} (h : R x) (t : ∀ v ∈ l, R v) : ∀ v ∈ x :: l, R v := fun v m => by
  rcases List.mem_cons.mp m with e | e
  · rw [e]
    exact h
  · exact t v e
theorem fctB_gap {z : Str} {r : List V} (h : ∃ v ∈ r, ofV v = none) : fctB (.str z :: r) = false := by
  cases e : plS z with
  | none => exact fctB_none e
  | some n =>
    rw [fctB_some e]
    have f : (r.all fun v => (ofV v).isSome) = false := by
      obtain ⟨v, m, hv⟩ := h
      rw [List.all_eq_false]
      exact ⟨v, m, by rw [hv]; decide⟩
    rw [f, Bool.and_false]
theorem two_nil : Two [] := fun ys h => by
  cases ys with
  | nil => decide
  | cons y l =>
    obtain ⟨_, k, m⟩ := (h.2.2 y).mp List.mem_cons_self
    exact nomatch m
section
variable {P : Program} {w : World} {K : PySem.W.Frag} {mg : Str → Option Value} {base : Heap}
theorem scOdd9 : FnScope ["_law_box_here", "_law_some"] ["_law_box_here"] (defScope sOdd9) := ⟨rfl, rfl, rfl, by decide +kernel, rfl, by decide +kernel, by decide +kernel⟩
theorem ok_odd9 {f f1 fI C F cR cF : Addr} {fd fd1 : FuncData} (F0 : Fun K "_law_odd" "_law_odd" sOdd9 f fd) (Tk_ : Tk P w K mg base f1 fd1) (T : Fcl K mg F) (MF : Mk K F fI) (GI : FnR P w K mg base (L2.CX P w) 8 fI (spMakeF K C F cR cF)) : FnOk P w K mg base CX0 10 f fd ["_law_box_here"] (spOdd9 C F) := by
  refine F0.ok scOdd9 (fun vs H Q E h => ?_) (fun cdv A outer s H vs Q E hr9 h => ?_)
  · obtain ⟨b, n, rfl, _⟩ := h
    rfl
  · obtain ⟨b, n, rfl, hB, hn, q⟩ := h
    have nd := scOdd9.nd
    have hr1 : Room 1 _ := hr9.mono (by decide)
    refine ⟨_, (pss_cons (ps_set (i := 1) nd rfl (Or.inl rfl) (pe_lst (pa_cons (pe_tup (pa_cons pe_str pa_nil)) (pa_cons (pe_tup (pa_cons pe_str (pa_cons pe_str (pa_cons pe_str pa_nil)))) (pa_cons (pe_tup (pa_cons pe_str (pa_cons pe_str pa_nil))) (pa_cons (pe_tup (pa_cons pe_str (pa_cons pe_str (pa_cons pe_str (pa_cons pe_str pa_nil))))) (pa_cons (pe_lst (pa_cons pe_str (pa_cons pe_str pa_nil))) (pa_cons (pe_tup pa_nil) pa_nil))))))))
      (pss_cons (ps_set (i := 1) nd rfl (Or.inl rfl) (pe_op op_cat (pv 1) (pe_lst (pa_cons (pe_tup (pa_cons pe_str (pa_cons pe_str pa_nil))) (pa_cons (pe_tup (pa_cons pe_str (pa_cons pe_str (pa_cons pe_str pa_nil)))) (pa_cons (pe_tup (pa_cons pe_str (pa_cons pe_str pa_nil))) (pa_cons (pe_tup (pa_cons pe_non (pa_cons pe_str pa_nil))) (pa_cons (pe_tup (pa_cons pe_str (pa_cons pe_int pa_nil))) (pa_cons (pe_tup (pa_cons pe_str (pa_cons pe_bl pa_nil))) pa_nil)))))))))
      (pss_cons (ps_set (i := 1) nd rfl (Or.inl rfl) (pe_op op_cat (pv 1) (pe_lst (pa_cons (pe_tup (pa_cons pe_str (pa_cons pe_str pa_nil))) (pa_cons (pe_tup (pa_cons pe_str (pa_cons pe_str (pa_cons pe_str pa_nil)))) (pa_cons (pe_tup (pa_cons pe_str (pa_cons pe_non (pa_cons pe_str pa_nil)))) (pa_cons pe_str (pa_cons pe_non (pa_cons pe_int pa_nil)))))))))
      (pss_cons (ps_set (i := 1) nd rfl (Or.inl rfl) (pe_op op_cat (pv 1) (pe_lst (pa_cons (pe_tup (pa_cons pe_str (pa_cons pe_str (pa_cons (pe_lst (pa_cons pe_str pa_nil)) pa_nil)))) (pa_cons (pe_tup (pa_cons pe_str (pa_cons (pe_tup (pa_cons pe_str (pa_cons pe_int pa_nil))) pa_nil))) (pa_cons (pe_disp (pps_cons pe_str pe_str pps_nil) (by rfl) (by rfl) (fun z => by cases z) (by decide)) (pa_cons (pe_makeR0 (E := E0) MF GI hr9 (by rfl) T.mgF pass_all) pa_nil)))))))
      (pss_cons (ps_set (i := 1) nd rfl (Or.inl rfl) (pe_op op_cat (pv 1) (pe_lst (pa_cons (pe_tup (pa_cons pe_str (pa_cons pe_str pa_nil))) (pa_cons (pe_tup (pa_cons pe_str (pa_cons pe_str pa_nil))) (pa_cons (pe_tup (pa_cons pe_str (pa_cons pe_str (pa_cons pe_str pa_nil)))) (pa_cons (pe_tup (pa_cons pe_str (pa_cons pe_str pa_nil))) pa_nil)))))))
      (pss_one (ps_ret (pe_ix ix_list (pv 1) (pe_call Tk_.ok hr1 (by rfl) Tk_.m Tk_.k Tk_.b .nil pass0 (pa_cons (pv 0) (pa_cons pe_int pa_nil))) (fun _ _ => rfl))))))))), ?_⟩
    have off : ∀ {G : Hp} {p : Addr} {m : Nat}, Bx G b m → G p = none → p ≠ b := fun hb hp => hb.new hp
    have one : ∀ {H1 : Hp} {p : Addr} (o : HO), H1 p = none → ∃ H2, H2 = upd H1 p o ∧ Same H1 H2 ∧ H2 p = some o := fun o n => ⟨_, rfl, same_nw n, upd_same⟩
    refine ⟨(by show 1 ≤ sizeLine; decide), fun p1 n1 => ?_⟩
    obtain ⟨H1, e, s1, t1⟩ := one (.tup [V.str "page"]) n1
    rw [← e]
    clear e
    refine ⟨(by show 3 ≤ sizeLine; decide), fun p2 n2 => ?_⟩
    obtain ⟨H2, e, s2, t2⟩ := one (.tup [V.str "page", V.str "n", V.str "n"]) n2
    rw [← e]
    clear e
    refine ⟨(by show 2 ≤ sizeLine; decide), fun p3 n3 => ?_⟩
    obtain ⟨H3, e, s3, t3⟩ := one (.tup [V.str "at_most", V.str "n"]) n3
    rw [← e]
    clear e
    refine ⟨(by show 4 ≤ sizeLine; decide), fun p4 n4 => ?_⟩
    obtain ⟨H4, e, s4, t4⟩ := one (.tup [V.str "at_most", V.str "n", V.str "m", V.str "n"]) n4
    rw [← e]
    clear e
    refine ⟨(by show 2 ≤ sizeLine; decide), fun p5 n5 => ?_⟩
    obtain ⟨H5, e, s5, t5⟩ := one (.lst [V.str "page", V.str "n"]) n5
    rw [← e]
    clear e
    refine ⟨(by show 0 ≤ sizeLine; decide), fun p6 n6 => ?_⟩
    obtain ⟨H6, e, s6, t6⟩ := one (.tup []) n6
    rw [← e]
    clear e
    refine ⟨(by show 6 ≤ sizeLine; decide), fun p7 n7 => ?_⟩
    obtain ⟨H7, e, s7, t7⟩ := one (.lst [V.ref p1, V.ref p2, V.ref p3, V.ref p4, V.ref p5, V.ref p6]) n7
    rw [← e]
    clear e
    refine ⟨_, rfl, (by show 2 ≤ sizeLine; decide), fun p8 n8 => ?_⟩
    obtain ⟨H8, e, s8, t8⟩ := one (.tup [V.str "Page", V.str "n"]) n8
    rw [← e]
    clear e
    refine ⟨(by show 3 ≤ sizeLine; decide), fun p9 n9 => ?_⟩
    obtain ⟨H9, e, s9, t9⟩ := one (.tup [V.str "at_least", V.str "n", V.str "m"]) n9
    rw [← e]
    clear e
    refine ⟨(by show 2 ≤ sizeLine; decide), fun p10 n10 => ?_⟩
    obtain ⟨H10, e, s10, t10⟩ := one (.tup [V.str "", V.str "n"]) n10
    rw [← e]
    clear e
    refine ⟨(by show 2 ≤ sizeLine; decide), fun p11 n11 => ?_⟩
    obtain ⟨H11, e, s11, t11⟩ := one (.tup [V.non, V.str "n"]) n11
    rw [← e]
    clear e
    refine ⟨(by show 2 ≤ sizeLine; decide), fun p12 n12 => ?_⟩
    obtain ⟨H12, e, s12, t12⟩ := one (.tup [V.str "page", V.int 4]) n12
    rw [← e]
    clear e
    refine ⟨(by show 2 ≤ sizeLine; decide), fun p13 n13 => ?_⟩
    obtain ⟨H13, e, s13, t13⟩ := one (.tup [V.str "page", V.bl true]) n13
    rw [← e]
    clear e
    refine ⟨(by show 6 ≤ sizeLine; decide), fun p14 n14 => ?_⟩
    obtain ⟨H14, e, s14, t14⟩ := one (.lst [V.ref p8, V.ref p9, V.ref p10, V.ref p11, V.ref p12, V.ref p13]) n14
    rw [← e]
    clear e
    refine ⟨_, _, _, _, rfl, rfl, s14 _ _ (s13 _ _ (s12 _ _ (s11 _ _ (s10 _ _ (s9 _ _ (s8 _ _ (t7))))))), t14, (by show 12 ≤ sizeLine; decide), fun p15 n15 => ?_⟩
    obtain ⟨H15, e, s15, t15⟩ := one (.lst ([V.ref p1, V.ref p2, V.ref p3, V.ref p4, V.ref p5, V.ref p6] ++ [V.ref p8, V.ref p9, V.ref p10, V.ref p11, V.ref p12, V.ref p13])) n15
    rw [← e]
    clear e
    refine ⟨_, rfl, (by show 2 ≤ sizeLine; decide), fun p16 n16 => ?_⟩
    obtain ⟨H16, e, s16, t16⟩ := one (.tup [V.str "page", V.str "n+4"]) n16
    rw [← e]
    clear e
    refine ⟨(by show 3 ≤ sizeLine; decide), fun p17 n17 => ?_⟩
    obtain ⟨H17, e, s17, t17⟩ := one (.tup [V.str "at_most", V.str "n", V.str "N"]) n17
    rw [← e]
    clear e
    refine ⟨(by show 3 ≤ sizeLine; decide), fun p18 n18 => ?_⟩
    obtain ⟨H18, e, s18, t18⟩ := one (.tup [V.str "at_most", V.non, V.str "n"]) n18
    rw [← e]
    clear e
    refine ⟨(by show 6 ≤ sizeLine; decide), fun p19 n19 => ?_⟩
    obtain ⟨H19, e, s19, t19⟩ := one (.lst [V.ref p16, V.ref p17, V.ref p18, V.str "page n", V.non, V.int 7]) n19
    rw [← e]
    clear e
    refine ⟨_, _, _, _, rfl, rfl, s19 _ _ (s18 _ _ (s17 _ _ (s16 _ _ (t15)))), t19, (by show 18 ≤ sizeLine; decide), fun p20 n20 => ?_⟩
    obtain ⟨H20, e, s20, t20⟩ := one (.lst (([V.ref p1, V.ref p2, V.ref p3, V.ref p4, V.ref p5, V.ref p6] ++ [V.ref p8, V.ref p9, V.ref p10, V.ref p11, V.ref p12, V.ref p13]) ++ [V.ref p16, V.ref p17, V.ref p18, V.str "page n", V.non, V.int 7])) n20
    rw [← e]
    clear e
    refine ⟨_, rfl, (by show 1 ≤ sizeLine; decide), fun p21 n21 => ?_⟩
    obtain ⟨H21, e, s21, t21⟩ := one (.lst [V.str "m"]) n21
    rw [← e]
    clear e
    refine ⟨(by show 3 ≤ sizeLine; decide), fun p22 n22 => ?_⟩
    obtain ⟨H22, e, s22, t22⟩ := one (.tup [V.str "at_most", V.str "n", V.ref p21]) n22
    rw [← e]
    clear e
    refine ⟨(by show 2 ≤ sizeLine; decide), fun p23 n23 => ?_⟩
    obtain ⟨H23, e, s23, t23⟩ := one (.tup [V.str "n", V.int 0]) n23
    rw [← e]
    clear e
    refine ⟨(by show 2 ≤ sizeLine; decide), fun p24 n24 => ?_⟩
    obtain ⟨H24, e, s24, t24⟩ := one (.tup [V.str "page", V.ref p23]) n24
    rw [← e]
    clear e
    intro p25 n25
    refine ⟨upd_same, [(Sum.inr "page", V.str "n")], rfl, by decide, ?_⟩
    rw [upd_upd]
    obtain ⟨H25, e, s25, t25⟩ := one (.dK (mergeK [] [(Sum.inr "page", V.str "n")])) n25
    rw [← e]
    clear e
    refine mk_factsN (as := []) (rws := []) .nil (by decide) two_nil fun p26 H26 s26 n26 t26 => ?_
    refine ⟨(by show 4 ≤ sizeLine; decide), fun p27 n27 => ?_⟩
    obtain ⟨H27, e, s27, t27⟩ := one (.lst [V.ref p22, V.ref p24, V.ref p25, V.ref p26]) n27
    rw [← e]
    clear e
    refine ⟨_, _, _, _, rfl, rfl, s27 _ _ (s26 _ _ (s25 _ _ (s24 _ _ (s23 _ _ (s22 _ _ (s21 _ _ (t20))))))), t27, (by show 22 ≤ sizeLine; decide), fun p28 n28 => ?_⟩
    obtain ⟨H28, e, s28, t28⟩ := one (.lst ((([V.ref p1, V.ref p2, V.ref p3, V.ref p4, V.ref p5, V.ref p6] ++ [V.ref p8, V.ref p9, V.ref p10, V.ref p11, V.ref p12, V.ref p13]) ++ [V.ref p16, V.ref p17, V.ref p18, V.str "page n", V.non, V.int 7]) ++ [V.ref p22, V.ref p24, V.ref p25, V.ref p26])) n28
    rw [← e]
    clear e
    refine ⟨_, rfl, (by show 2 ≤ sizeLine; decide), fun p29 n29 => ?_⟩
    obtain ⟨H29, e, s29, t29⟩ := one (.tup [V.str "page", V.str " n"]) n29
    rw [← e]
    clear e
    refine ⟨(by show 2 ≤ sizeLine; decide), fun p30 n30 => ?_⟩
    obtain ⟨H30, e, s30, t30⟩ := one (.tup [V.str "page", V.str "n\n"]) n30
    rw [← e]
    clear e
    refine ⟨(by show 3 ≤ sizeLine; decide), fun p31 n31 => ?_⟩
    obtain ⟨H31, e, s31, t31⟩ := one (.tup [V.str "at_most", V.str "n ", V.str "m"]) n31
    rw [← e]
    clear e
    refine ⟨(by show 2 ≤ sizeLine; decide), fun p32 n32 => ?_⟩
    obtain ⟨H32, e, s32, t32⟩ := one (.tup [V.str "page\n", V.str "n"]) n32
    rw [← e]
    clear e
    refine ⟨(by show 4 ≤ sizeLine; decide), fun p33 n33 => ?_⟩
    obtain ⟨H33, e, s33, t33⟩ := one (.lst [V.ref p29, V.ref p30, V.ref p31, V.ref p32]) n33
    rw [← e]
    clear e
    refine ⟨_, _, _, _, rfl, rfl, s33 _ _ (s32 _ _ (s31 _ _ (s30 _ _ (s29 _ _ (t28))))), t33, (by show 26 ≤ sizeLine; decide), fun p34 n34 => ?_⟩
    obtain ⟨H34, e, s34, t34⟩ := one (.lst (((([V.ref p1, V.ref p2, V.ref p3, V.ref p4, V.ref p5, V.ref p6] ++ [V.ref p8, V.ref p9, V.ref p10, V.ref p11, V.ref p12, V.ref p13]) ++ [V.ref p16, V.ref p17, V.ref p18, V.str "page n", V.non, V.int 7]) ++ [V.ref p22, V.ref p24, V.ref p25, V.ref p26]) ++ [V.ref p29, V.ref p30, V.ref p31, V.ref p32])) n34
    rw [← e]
    clear e
    have a0 : Same H H := Same.refl H
    have a1 := a0.trans s1
    have a2 := a1.trans s2
    have a3 := a2.trans s3
    have a4 := a3.trans s4
    have a5 := a4.trans s5
    have a6 := a5.trans s6
    have a7 := a6.trans s7
    have a8 := a7.trans s8
    have a9 := a8.trans s9
    have a10 := a9.trans s10
    have a11 := a10.trans s11
    have a12 := a11.trans s12
    have a13 := a12.trans s13
    have a14 := a13.trans s14
    have a15 := a14.trans s15
    have a16 := a15.trans s16
    have a17 := a16.trans s17
    have a18 := a17.trans s18
    have a19 := a18.trans s19
    have a20 := a19.trans s20
    have a21 := a20.trans s21
    have a22 := a21.trans s22
    have a23 := a22.trans s23
    have a24 := a23.trans s24
    have a25 := a24.trans s25
    have a26 := a25.trans s26
    have a27 := a26.trans s27
    have a28 := a27.trans s28
    have a29 := a28.trans s29
    have a30 := a29.trans s30
    have a31 := a30.trans s31
    have a32 := a31.trans s32
    have a33 := a32.trans s33
    have a34 := a33.trans s34
    refine ⟨_, rfl, _, rfl, b, n, 26, rfl, hB.same a34, by omega, by decide, by decide, fun r HR r0 r1 BR KR => ?_⟩
    obtain ⟨v, hv, hm⟩ := atI_in (l := (((([V.ref p1, V.ref p2, V.ref p3, V.ref p4, V.ref p5, V.ref p6] ++ [V.ref p8, V.ref p9, V.ref p10, V.ref p11, V.ref p12, V.ref p13]) ++ [V.ref p16, V.ref p17, V.ref p18, V.str "page n", V.non, V.int 7]) ++ [V.ref p22, V.ref p24, V.ref p25, V.ref p26]) ++ [V.ref p29, V.ref p30, V.ref p31, V.ref p32])) r0 r1
    refine ⟨p34, _, _, _, rfl, rfl, SqL.of (KR _ _ (off (hB.same a33) n34) t34), hv, ?_⟩
    have big : Kp b H HR := (Kp.same a34).trans KR
    have k1 := KR _ _ (off (hB.same a0) n1) (s34 _ _ (s33 _ _ (s32 _ _ (s31 _ _ (s30 _ _ (s29 _ _ (s28 _ _ (s27 _ _ (s26 _ _ (s25 _ _ (s24 _ _ (s23 _ _ (s22 _ _ (s21 _ _ (s20 _ _ (s19 _ _ (s18 _ _ (s17 _ _ (s16 _ _ (s15 _ _ (s14 _ _ (s13 _ _ (s12 _ _ (s11 _ _ (s10 _ _ (s9 _ _ (s8 _ _ (s7 _ _ (s6 _ _ (s5 _ _ (s4 _ _ (s3 _ _ (s2 _ _ (t1))))))))))))))))))))))))))))))))))
    have k2 := KR _ _ (off (hB.same a1) n2) (s34 _ _ (s33 _ _ (s32 _ _ (s31 _ _ (s30 _ _ (s29 _ _ (s28 _ _ (s27 _ _ (s26 _ _ (s25 _ _ (s24 _ _ (s23 _ _ (s22 _ _ (s21 _ _ (s20 _ _ (s19 _ _ (s18 _ _ (s17 _ _ (s16 _ _ (s15 _ _ (s14 _ _ (s13 _ _ (s12 _ _ (s11 _ _ (s10 _ _ (s9 _ _ (s8 _ _ (s7 _ _ (s6 _ _ (s5 _ _ (s4 _ _ (s3 _ _ (t2)))))))))))))))))))))))))))))))))
    have k3 := KR _ _ (off (hB.same a2) n3) (s34 _ _ (s33 _ _ (s32 _ _ (s31 _ _ (s30 _ _ (s29 _ _ (s28 _ _ (s27 _ _ (s26 _ _ (s25 _ _ (s24 _ _ (s23 _ _ (s22 _ _ (s21 _ _ (s20 _ _ (s19 _ _ (s18 _ _ (s17 _ _ (s16 _ _ (s15 _ _ (s14 _ _ (s13 _ _ (s12 _ _ (s11 _ _ (s10 _ _ (s9 _ _ (s8 _ _ (s7 _ _ (s6 _ _ (s5 _ _ (s4 _ _ (t3))))))))))))))))))))))))))))))))
    have k4 := KR _ _ (off (hB.same a3) n4) (s34 _ _ (s33 _ _ (s32 _ _ (s31 _ _ (s30 _ _ (s29 _ _ (s28 _ _ (s27 _ _ (s26 _ _ (s25 _ _ (s24 _ _ (s23 _ _ (s22 _ _ (s21 _ _ (s20 _ _ (s19 _ _ (s18 _ _ (s17 _ _ (s16 _ _ (s15 _ _ (s14 _ _ (s13 _ _ (s12 _ _ (s11 _ _ (s10 _ _ (s9 _ _ (s8 _ _ (s7 _ _ (s6 _ _ (s5 _ _ (t4)))))))))))))))))))))))))))))))
    have k5 := KR _ _ (off (hB.same a4) n5) (s34 _ _ (s33 _ _ (s32 _ _ (s31 _ _ (s30 _ _ (s29 _ _ (s28 _ _ (s27 _ _ (s26 _ _ (s25 _ _ (s24 _ _ (s23 _ _ (s22 _ _ (s21 _ _ (s20 _ _ (s19 _ _ (s18 _ _ (s17 _ _ (s16 _ _ (s15 _ _ (s14 _ _ (s13 _ _ (s12 _ _ (s11 _ _ (s10 _ _ (s9 _ _ (s8 _ _ (s7 _ _ (s6 _ _ (t5))))))))))))))))))))))))))))))
    have k6 := KR _ _ (off (hB.same a5) n6) (s34 _ _ (s33 _ _ (s32 _ _ (s31 _ _ (s30 _ _ (s29 _ _ (s28 _ _ (s27 _ _ (s26 _ _ (s25 _ _ (s24 _ _ (s23 _ _ (s22 _ _ (s21 _ _ (s20 _ _ (s19 _ _ (s18 _ _ (s17 _ _ (s16 _ _ (s15 _ _ (s14 _ _ (s13 _ _ (s12 _ _ (s11 _ _ (s10 _ _ (s9 _ _ (s8 _ _ (s7 _ _ (t6)))))))))))))))))))))))))))))
    have k8 := KR _ _ (off (hB.same a7) n8) (s34 _ _ (s33 _ _ (s32 _ _ (s31 _ _ (s30 _ _ (s29 _ _ (s28 _ _ (s27 _ _ (s26 _ _ (s25 _ _ (s24 _ _ (s23 _ _ (s22 _ _ (s21 _ _ (s20 _ _ (s19 _ _ (s18 _ _ (s17 _ _ (s16 _ _ (s15 _ _ (s14 _ _ (s13 _ _ (s12 _ _ (s11 _ _ (s10 _ _ (s9 _ _ (t8)))))))))))))))))))))))))))
    have k9 := KR _ _ (off (hB.same a8) n9) (s34 _ _ (s33 _ _ (s32 _ _ (s31 _ _ (s30 _ _ (s29 _ _ (s28 _ _ (s27 _ _ (s26 _ _ (s25 _ _ (s24 _ _ (s23 _ _ (s22 _ _ (s21 _ _ (s20 _ _ (s19 _ _ (s18 _ _ (s17 _ _ (s16 _ _ (s15 _ _ (s14 _ _ (s13 _ _ (s12 _ _ (s11 _ _ (s10 _ _ (t9))))))))))))))))))))))))))
    have k10 := KR _ _ (off (hB.same a9) n10) (s34 _ _ (s33 _ _ (s32 _ _ (s31 _ _ (s30 _ _ (s29 _ _ (s28 _ _ (s27 _ _ (s26 _ _ (s25 _ _ (s24 _ _ (s23 _ _ (s22 _ _ (s21 _ _ (s20 _ _ (s19 _ _ (s18 _ _ (s17 _ _ (s16 _ _ (s15 _ _ (s14 _ _ (s13 _ _ (s12 _ _ (s11 _ _ (t10)))))))))))))))))))))))))
    have k11 := KR _ _ (off (hB.same a10) n11) (s34 _ _ (s33 _ _ (s32 _ _ (s31 _ _ (s30 _ _ (s29 _ _ (s28 _ _ (s27 _ _ (s26 _ _ (s25 _ _ (s24 _ _ (s23 _ _ (s22 _ _ (s21 _ _ (s20 _ _ (s19 _ _ (s18 _ _ (s17 _ _ (s16 _ _ (s15 _ _ (s14 _ _ (s13 _ _ (s12 _ _ (t11))))))))))))))))))))))))
    have k12 := KR _ _ (off (hB.same a11) n12) (s34 _ _ (s33 _ _ (s32 _ _ (s31 _ _ (s30 _ _ (s29 _ _ (s28 _ _ (s27 _ _ (s26 _ _ (s25 _ _ (s24 _ _ (s23 _ _ (s22 _ _ (s21 _ _ (s20 _ _ (s19 _ _ (s18 _ _ (s17 _ _ (s16 _ _ (s15 _ _ (s14 _ _ (s13 _ _ (t12)))))))))))))))))))))))
    have k13 := KR _ _ (off (hB.same a12) n13) (s34 _ _ (s33 _ _ (s32 _ _ (s31 _ _ (s30 _ _ (s29 _ _ (s28 _ _ (s27 _ _ (s26 _ _ (s25 _ _ (s24 _ _ (s23 _ _ (s22 _ _ (s21 _ _ (s20 _ _ (s19 _ _ (s18 _ _ (s17 _ _ (s16 _ _ (s15 _ _ (s14 _ _ (t13))))))))))))))))))))))
    have k16 := KR _ _ (off (hB.same a15) n16) (s34 _ _ (s33 _ _ (s32 _ _ (s31 _ _ (s30 _ _ (s29 _ _ (s28 _ _ (s27 _ _ (s26 _ _ (s25 _ _ (s24 _ _ (s23 _ _ (s22 _ _ (s21 _ _ (s20 _ _ (s19 _ _ (s18 _ _ (s17 _ _ (t16)))))))))))))))))))
    have k17 := KR _ _ (off (hB.same a16) n17) (s34 _ _ (s33 _ _ (s32 _ _ (s31 _ _ (s30 _ _ (s29 _ _ (s28 _ _ (s27 _ _ (s26 _ _ (s25 _ _ (s24 _ _ (s23 _ _ (s22 _ _ (s21 _ _ (s20 _ _ (s19 _ _ (s18 _ _ (t17))))))))))))))))))
    have k18 := KR _ _ (off (hB.same a17) n18) (s34 _ _ (s33 _ _ (s32 _ _ (s31 _ _ (s30 _ _ (s29 _ _ (s28 _ _ (s27 _ _ (s26 _ _ (s25 _ _ (s24 _ _ (s23 _ _ (s22 _ _ (s21 _ _ (s20 _ _ (s19 _ _ (t18)))))))))))))))))
    have k22 := KR _ _ (off (hB.same a21) n22) (s34 _ _ (s33 _ _ (s32 _ _ (s31 _ _ (s30 _ _ (s29 _ _ (s28 _ _ (s27 _ _ (s26 _ _ (s25 _ _ (s24 _ _ (s23 _ _ (t22)))))))))))))
    have k21 := KR _ _ (off (hB.same a20) n21) (s34 _ _ (s33 _ _ (s32 _ _ (s31 _ _ (s30 _ _ (s29 _ _ (s28 _ _ (s27 _ _ (s26 _ _ (s25 _ _ (s24 _ _ (s23 _ _ (s22 _ _ (t21))))))))))))))
    have k24 := KR _ _ (off (hB.same a23) n24) (s34 _ _ (s33 _ _ (s32 _ _ (s31 _ _ (s30 _ _ (s29 _ _ (s28 _ _ (s27 _ _ (s26 _ _ (s25 _ _ (t24)))))))))))
    have k23 := KR _ _ (off (hB.same a22) n23) (s34 _ _ (s33 _ _ (s32 _ _ (s31 _ _ (s30 _ _ (s29 _ _ (s28 _ _ (s27 _ _ (s26 _ _ (s25 _ _ (s24 _ _ (t23))))))))))))
    have k25 : HR p25 = some (.dK [(.inr "page", .str "n")]) := KR _ _ (off (hB.same a24) n25) (s34 _ _ (s33 _ _ (s32 _ _ (s31 _ _ (s30 _ _ (s29 _ _ (s28 _ _ (s27 _ _ (s26 _ _ (t25))))))))))
    have k26 : ∀ H2, Nw b H HR H2 → Fac F C H2 p26 [] := fun H2 nw => by
      obtain ⟨dx, rl, ul, as, ys, g1, g2, g3, g4, g5, g6, g7, g8, g9⟩ := t26
      cases g3
      have sm := s27|>.trans s28|>.trans s29|>.trans s30|>.trans s31|>.trans s32|>.trans s33|>.trans s34
      have kk : ∀ {p : Addr} {o : HO}, H25 p = none → H26 p = some o → H2 p = some o := fun {p o} n e => nw p o (a25.free n) (off (hB.same a25) n) (KR _ _ (off (hB.same a25) n) (sm _ _ e))
      exact ⟨dx, rl, ul, [], ys, kk n26 g1, kk g8 g2, .nil, kk g9 g4, g5, g6, g7⟩
    have k29 := KR _ _ (off (hB.same a28) n29) (s34 _ _ (s33 _ _ (s32 _ _ (s31 _ _ (s30 _ _ (t29))))))
    have k30 := KR _ _ (off (hB.same a29) n30) (s34 _ _ (s33 _ _ (s32 _ _ (s31 _ _ (t30)))))
    have k31 := KR _ _ (off (hB.same a30) n31) (s34 _ _ (s33 _ _ (s32 _ _ (t31))))
    have k32 := KR _ _ (off (hB.same a31) n32) (s34 _ _ (s33 _ _ (t32)))
    have fs : ∀ y : Str, (decide ((reprText y).length ≤ 1000) && (decide (y.length ≤ 1000) && PyData.strOk y)) = true → FlatOk (.str y) := fun y h => by
      rw [Bool.and_eq_true, Bool.and_eq_true] at h
      exact .inr (.inr (.inr ⟨y, rfl, of_decide_eq_true h.1, of_decide_eq_true h.2.1, h.2.2⟩))
    have rf : ∀ {a p : Addr} {j : Hp}, H p = none → p ≠ b → V.ref p = V.ref a → H a = none ∧ a ≠ b := fun h1 h2 e => by
      cases e
      exact ⟨h1, h2⟩
    simp only [List.mem_append, List.mem_cons, List.not_mem_nil, or_false] at hm
    rcases hm with ((((rfl | rfl | rfl | rfl | rfl | rfl) | (rfl | rfl | rfl | rfl | rfl | rfl)) | (rfl | rfl | rfl | rfl | rfl | rfl)) | (rfl | rfl | rfl | rfl)) | (rfl | rfl | rfl | rfl)
    · exact q _ HR (fun H2 nw => .tup (nw _ _ (a0.free n1) (off (hB.same a0) n1) k1) (fa_cons (.inl (fs _ (by decide +kernel))) (fun v m => nomatch m)) (by show 1 ≤ 5; decide) (fa_cons (fun e => nomatch e) (fun v m => nomatch m)) (by decide +kernel)) (fun a e => rf (j := H) (a0.free n1) (off (hB.same a0) n1) e) BR big
    · exact q _ HR (fun H2 nw => .tup (nw _ _ (a1.free n2) (off (hB.same a1) n2) k2) (fa_cons (.inl (fs _ (by decide +kernel))) (fa_cons (.inl (fs _ (by decide +kernel))) (fa_cons (.inl (fs _ (by decide +kernel))) (fun v m => nomatch m)))) (by show 3 ≤ 5; decide) (fa_cons (fun e => nomatch e) (fa_cons (fun e => nomatch e) (fa_cons (fun e => nomatch e) (fun v m => nomatch m)))) (by decide +kernel)) (fun a e => rf (j := H) (a1.free n2) (off (hB.same a1) n2) e) BR big
    · exact q _ HR (fun H2 nw => .tup (nw _ _ (a2.free n3) (off (hB.same a2) n3) k3) (fa_cons (.inl (fs _ (by decide +kernel))) (fa_cons (.inl (fs _ (by decide +kernel))) (fun v m => nomatch m))) (by show 2 ≤ 5; decide) (fa_cons (fun e => nomatch e) (fa_cons (fun e => nomatch e) (fun v m => nomatch m))) (by decide +kernel)) (fun a e => rf (j := H) (a2.free n3) (off (hB.same a2) n3) e) BR big
    · exact q _ HR (fun H2 nw => .tup (nw _ _ (a3.free n4) (off (hB.same a3) n4) k4) (fa_cons (.inl (fs _ (by decide +kernel))) (fa_cons (.inl (fs _ (by decide +kernel))) (fa_cons (.inl (fs _ (by decide +kernel))) (fa_cons (.inl (fs _ (by decide +kernel))) (fun v m => nomatch m))))) (by show 4 ≤ 5; decide) (fa_cons (fun e => nomatch e) (fa_cons (fun e => nomatch e) (fa_cons (fun e => nomatch e) (fa_cons (fun e => nomatch e) (fun v m => nomatch m))))) (by decide +kernel)) (fun a e => rf (j := H) (a3.free n4) (off (hB.same a3) n4) e) BR big
    · exact q _ HR (fun H2 nw => .lst (nw _ _ (a4.free n5) (off (hB.same a4) n5) k5) (fa_cons (fs _ (by decide +kernel)) (fa_cons (fs _ (by decide +kernel)) (fun v m => nomatch m))) (by decide)) (fun a e => rf (j := H) (a4.free n5) (off (hB.same a4) n5) e) BR big
    · exact q _ HR (fun H2 nw => .tup (nw _ _ (a5.free n6) (off (hB.same a5) n6) k6) (fun v m => nomatch m) (by show 0 ≤ 5; decide) (fun v m => nomatch m) (by decide +kernel)) (fun a e => rf (j := H) (a5.free n6) (off (hB.same a5) n6) e) BR big
    · exact q _ HR (fun H2 nw => .tup (nw _ _ (a7.free n8) (off (hB.same a7) n8) k8) (fa_cons (.inl (fs _ (by decide +kernel))) (fa_cons (.inl (fs _ (by decide +kernel))) (fun v m => nomatch m))) (by show 2 ≤ 5; decide) (fa_cons (fun e => nomatch e) (fa_cons (fun e => nomatch e) (fun v m => nomatch m))) (by decide +kernel)) (fun a e => rf (j := H) (a7.free n8) (off (hB.same a7) n8) e) BR big
    · exact q _ HR (fun H2 nw => .tup (nw _ _ (a8.free n9) (off (hB.same a8) n9) k9) (fa_cons (.inl (fs _ (by decide +kernel))) (fa_cons (.inl (fs _ (by decide +kernel))) (fa_cons (.inl (fs _ (by decide +kernel))) (fun v m => nomatch m)))) (by show 3 ≤ 5; decide) (fa_cons (fun e => nomatch e) (fa_cons (fun e => nomatch e) (fa_cons (fun e => nomatch e) (fun v m => nomatch m)))) (by decide +kernel)) (fun a e => rf (j := H) (a8.free n9) (off (hB.same a8) n9) e) BR big
    · exact q _ HR (fun H2 nw => .tup (nw _ _ (a9.free n10) (off (hB.same a9) n10) k10) (fa_cons (.inl (fs _ (by decide +kernel))) (fa_cons (.inl (fs _ (by decide +kernel))) (fun v m => nomatch m))) (by show 2 ≤ 5; decide) (fa_cons (fun e => nomatch e) (fa_cons (fun e => nomatch e) (fun v m => nomatch m))) (by decide +kernel)) (fun a e => rf (j := H) (a9.free n10) (off (hB.same a9) n10) e) BR big
    · exact q _ HR (fun H2 nw => .tup (nw _ _ (a10.free n11) (off (hB.same a10) n11) k11) (fa_cons (.inl (.inl rfl)) (fa_cons (.inl (fs _ (by decide +kernel))) (fun v m => nomatch m))) (by show 2 ≤ 5; decide) (fa_cons (fun e => nomatch e) (fa_cons (fun e => nomatch e) (fun v m => nomatch m))) (by decide +kernel)) (fun a e => rf (j := H) (a10.free n11) (off (hB.same a10) n11) e) BR big
    · exact q _ HR (fun H2 nw => .tup (nw _ _ (a11.free n12) (off (hB.same a11) n12) k12) (fa_cons (.inl (fs _ (by decide +kernel))) (fa_cons (.inl (.inr (.inr (.inl ⟨_, rfl, by decide, by decide⟩)))) (fun v m => nomatch m))) (by show 2 ≤ 5; decide) (fa_cons (fun e => nomatch e) (fa_cons (fun e => nomatch e) (fun v m => nomatch m))) (by decide +kernel)) (fun a e => rf (j := H) (a11.free n12) (off (hB.same a11) n12) e) BR big
    · exact q _ HR (fun H2 nw => .tup (nw _ _ (a12.free n13) (off (hB.same a12) n13) k13) (fa_cons (.inl (fs _ (by decide +kernel))) (fa_cons (.inl (.inr (.inl ⟨_, rfl⟩))) (fun v m => nomatch m))) (by show 2 ≤ 5; decide) (fa_cons (fun e => nomatch e) (fa_cons (fun e => nomatch e) (fun v m => nomatch m))) (by decide +kernel)) (fun a e => rf (j := H) (a12.free n13) (off (hB.same a12) n13) e) BR big
    · exact q _ HR (fun H2 nw => .tup (nw _ _ (a15.free n16) (off (hB.same a15) n16) k16) (fa_cons (.inl (fs _ (by decide +kernel))) (fa_cons (.inl (fs _ (by decide +kernel))) (fun v m => nomatch m))) (by show 2 ≤ 5; decide) (fa_cons (fun e => nomatch e) (fa_cons (fun e => nomatch e) (fun v m => nomatch m))) (by decide +kernel)) (fun a e => rf (j := H) (a15.free n16) (off (hB.same a15) n16) e) BR big
    · exact q _ HR (fun H2 nw => .tup (nw _ _ (a16.free n17) (off (hB.same a16) n17) k17) (fa_cons (.inl (fs _ (by decide +kernel))) (fa_cons (.inl (fs _ (by decide +kernel))) (fa_cons (.inl (fs _ (by decide +kernel))) (fun v m => nomatch m)))) (by show 3 ≤ 5; decide) (fa_cons (fun e => nomatch e) (fa_cons (fun e => nomatch e) (fa_cons (fun e => nomatch e) (fun v m => nomatch m)))) (by decide +kernel)) (fun a e => rf (j := H) (a16.free n17) (off (hB.same a16) n17) e) BR big
    · exact q _ HR (fun H2 nw => .tup (nw _ _ (a17.free n18) (off (hB.same a17) n18) k18) (fa_cons (.inl (fs _ (by decide +kernel))) (fa_cons (.inl (.inl rfl)) (fa_cons (.inl (fs _ (by decide +kernel))) (fun v m => nomatch m)))) (by show 3 ≤ 5; decide) (fa_cons (fun e => nomatch e) (fa_cons (fun e => nomatch e) (fa_cons (fun e => nomatch e) (fun v m => nomatch m)))) (by decide +kernel)) (fun a e => rf (j := H) (a17.free n18) (off (hB.same a17) n18) e) BR big
    · exact q _ HR (fun H2 nw => .flat (fs _ (by decide +kernel))) (fun a e => nomatch e) BR big
    · exact q _ HR (fun H2 nw => .flat (.inl rfl)) (fun a e => nomatch e) BR big
    · exact q _ HR (fun H2 nw => .flat (.inr (.inr (.inl ⟨_, rfl, by decide, by decide⟩)))) (fun a e => nomatch e) BR big
    · exact q _ HR (fun H2 nw => .tup (nw _ _ (a21.free n22) (off (hB.same a21) n22) k22) (fa_cons (.inl (fs _ (by decide +kernel))) (fa_cons (.inl (fs _ (by decide +kernel))) (fa_cons (.inr ⟨_, _, rfl, .inl (nw _ _ (a20.free n21) (off (hB.same a20) n21) k21), (fa_cons (fs _ (by decide +kernel)) (fun v m => nomatch m)), by decide⟩) (fun v m => nomatch m)))) (by show 3 ≤ 5; decide) (fa_cons (fun e => nomatch e) (fa_cons (fun e => nomatch e) (fa_cons (fun e => by injection e with e2; rw [e2, k22] at k21; cases k21) (fun v m => nomatch m)))) (fctB_gap ⟨V.ref p21, by simp, rfl⟩)) (fun a e => rf (j := H) (a21.free n22) (off (hB.same a21) n22) e) BR big
    · exact q _ HR (fun H2 nw => .tup (nw _ _ (a23.free n24) (off (hB.same a23) n24) k24) (fa_cons (.inl (fs _ (by decide +kernel))) (fa_cons (.inr ⟨_, _, rfl, .inr (nw _ _ (a22.free n23) (off (hB.same a22) n23) k23), (fa_cons (fs _ (by decide +kernel)) (fa_cons (.inr (.inr (.inl ⟨_, rfl, by decide, by decide⟩))) (fun v m => nomatch m))), by decide⟩) (fun v m => nomatch m))) (by show 2 ≤ 5; decide) (fa_cons (fun e => nomatch e) (fa_cons (fun e => by injection e with e2; rw [e2, k24] at k23; cases k23) (fun v m => nomatch m))) (fctB_gap ⟨V.ref p23, by simp, rfl⟩)) (fun a e => rf (j := H) (a23.free n24) (off (hB.same a23) n24) e) BR big
    · exact q _ HR (fun H2 nw => .dct (nw _ _ (a24.free n25) (off (hB.same a24) n25) k25)) (fun a e => rf (j := H) (a24.free n25) (off (hB.same a24) n25) e) BR big
    · exact q _ HR (fun H2 nw => .fac (k26 H2 nw)) (fun a e => rf (j := H) (a25.free n26) (off (hB.same a25) n26) e) BR big
    · exact q _ HR (fun H2 nw => .tup (nw _ _ (a28.free n29) (off (hB.same a28) n29) k29) (fa_cons (.inl (fs _ (by decide +kernel))) (fa_cons (.inl (fs _ (by decide +kernel))) (fun v m => nomatch m))) (by show 2 ≤ 5; decide) (fa_cons (fun e => nomatch e) (fa_cons (fun e => nomatch e) (fun v m => nomatch m))) (by decide +kernel)) (fun a e => rf (j := H) (a28.free n29) (off (hB.same a28) n29) e) BR big
    · exact q _ HR (fun H2 nw => .tup (nw _ _ (a29.free n30) (off (hB.same a29) n30) k30) (fa_cons (.inl (fs _ (by decide +kernel))) (fa_cons (.inl (fs _ (by decide +kernel))) (fun v m => nomatch m))) (by show 2 ≤ 5; decide) (fa_cons (fun e => nomatch e) (fa_cons (fun e => nomatch e) (fun v m => nomatch m))) (by decide +kernel)) (fun a e => rf (j := H) (a29.free n30) (off (hB.same a29) n30) e) BR big
    · exact q _ HR (fun H2 nw => .tup (nw _ _ (a30.free n31) (off (hB.same a30) n31) k31) (fa_cons (.inl (fs _ (by decide +kernel))) (fa_cons (.inl (fs _ (by decide +kernel))) (fa_cons (.inl (fs _ (by decide +kernel))) (fun v m => nomatch m)))) (by show 3 ≤ 5; decide) (fa_cons (fun e => nomatch e) (fa_cons (fun e => nomatch e) (fa_cons (fun e => nomatch e) (fun v m => nomatch m)))) (by decide +kernel)) (fun a e => rf (j := H) (a30.free n31) (off (hB.same a30) n31) e) BR big
    · exact q _ HR (fun H2 nw => .tup (nw _ _ (a31.free n32) (off (hB.same a31) n32) k32) (fa_cons (.inl (fs _ (by decide +kernel))) (fa_cons (.inl (fs _ (by decide +kernel))) (fun v m => nomatch m))) (by show 2 ≤ 5; decide) (fa_cons (fun e => nomatch e) (fa_cons (fun e => nomatch e) (fun v m => nomatch m))) (by decide +kernel)) (fun a e => rf (j := H) (a31.free n32) (off (hB.same a31) n32) e) BR big
end
end Mz
set_option Elab.async false
set_option linter.all false
set_option maxRecDepth 100000
set_option maxHeartbeats 4000000
/-! the names of a row, by the law's own reading -/
namespace Mz
open PySem PySem.Spec PyProof.Rows L2
/-- the names of a row, each time that they stand there -/
def rootsP (l : List (Str × Int)) : List Str := (l.map (·.1)).filter fun z : Str => decide (z ≠ "")
abbrev rootsR (rw : Row) : List Str := rootsP rw.2
theorem rootsP_no {l : List (Str × Int)} {k : Int} : rootsP (l ++ [(("" : Str), k)]) = rootsP l := by
  unfold rootsP
  rw [List.map_append, List.filter_append]
  simp
theorem rootsP_yes {l : List (Str × Int)} {z : Str} {k : Int} (h : z ≠ "") : rootsP (l ++ [(z, k)]) = rootsP l ++ [z] := by
  unfold rootsP
  rw [List.map_append, List.filter_append]
  simp [h]
theorem rootsP_len (l : List (Str × Int)) : (rootsP l).length ≤ l.length := by
  unfold rootsP
  exact Nat.le_trans (List.length_filter_le _ _) (by rw [List.length_map]; exact Nat.le_refl _)
def spLRoots (C : Addr) : Sp := fun vs H Q _ => ∃ (a : Addr) (rw : Row), vs = [.ref a] ∧ Row9 C H a rw ∧ ∀ p H', Same H H' → H p = none → H' p = some (.lst ((rootsR rw).map V.str)) → Q (.ref p) H'
/-- the first sign of a place's text -/
theorem head_txt {z : Str} {k : Int} (b : Bsn z) (g : Good z k) : (strP z k).length ≤ 20 ∧ ∃ c, atI (strP z k).cps.toList 0 = some c ∧ decide (c ∈ ("0123" : Str).cps.toList) = decide (z = "") ∧ (z ≠ "" → (⟨#[c]⟩ : Str) = z) := by
  have lo := g.2.2.2.1
  have hi := g.2.2.2.2
  have all : ∀ j : Nat, j < 7 → ∀ z : Str, z = "n" ∨ z = "m" ∨ z = "k" → (strP z ((j : Int) - 3)).length ≤ 20 ∧ ∃ c, atI (strP z ((j : Int) - 3)).cps.toList 0 = some c ∧ decide (c ∈ ("0123" : Str).cps.toList) = decide (z = "") ∧ (z ≠ "" → (⟨#[c]⟩ : Str) = z) := by
    intro j hj z hz
    have : j = 0 ∨ j = 1 ∨ j = 2 ∨ j = 3 ∨ j = 4 ∨ j = 5 ∨ j = 6 := by omega
    rcases hz with rfl | rfl | rfl
    · rcases this with rfl | rfl | rfl | rfl | rfl | rfl | rfl <;> exact ⟨by decide +kernel, 110, by decide +kernel, by decide +kernel, fun _ => by decide +kernel⟩
    · rcases this with rfl | rfl | rfl | rfl | rfl | rfl | rfl <;> exact ⟨by decide +kernel, 109, by decide +kernel, by decide +kernel, fun _ => by decide +kernel⟩
    · rcases this with rfl | rfl | rfl | rfl | rfl | rfl | rfl <;> exact ⟨by decide +kernel, 107, by decide +kernel, by decide +kernel, fun _ => by decide +kernel⟩
  rcases b with rfl | hz
  · have l0 : lowS "" = 0 := by decide +kernel
    rw [l0] at lo
    have : k = 0 ∨ k = 1 ∨ k = 2 ∨ k = 3 := by omega
    rcases this with rfl | rfl | rfl | rfl
    · exact ⟨by decide +kernel, 48, by decide +kernel, by decide +kernel, fun h => absurd rfl h⟩
    · exact ⟨by decide +kernel, 49, by decide +kernel, by decide +kernel, fun h => absurd rfl h⟩
    · exact ⟨by decide +kernel, 50, by decide +kernel, by decide +kernel, fun h => absurd rfl h⟩
    · exact ⟨by decide +kernel, 51, by decide +kernel, by decide +kernel, fun h => absurd rfl h⟩
  · have lo2 := g.lo
    have e : k = (((k + 3).toNat : Nat) : Int) - 3 := by omega
    rw [e]
    exact all _ (by omega) z hz
/-- str of a place, a number, a text -/
structure rStr9 (C : Addr) (xs : List V) (H : Hp) (Q : VK) : Prop where
  h : (∃ (a dx : Addr) (fs : List (Str × V)), xs = [.ref a] ∧ H a = some (.ins C dx fs) ∧ spStr C [.ref a] H (fun v H2 => ∃ z : Str, v = .str z ∧ Q (.str z) H2) E0) ∨
    (∃ i : Int, xs = [.int i] ∧ i.natAbs.log2 < 1920 ∧ Q (.str (Str.ofString (toString i))) H) ∨ ∃ a : Str, xs = [.str a] ∧ Q (.str a) H
theorem str9 {C : Addr} {H : Hp} {v : V} {z : Str} {k : Int} {R : VK} (hv : Pv9 C H v z k) (hq : R (.str (strP z k)) H) : rStr9 C [v] H R := by
  obtain ⟨h, g, _⟩ := hv
  rcases h with ⟨a, rfl, pa⟩ | ⟨s, rfl, _, _, e⟩ | ⟨rfl, rfl, h0, h1⟩
  · obtain ⟨dx, e⟩ := id pa
    exact ⟨.inl ⟨a, dx, _, rfl, e, a, z, k, rfl, pa, g, _, rfl, hq⟩⟩
  · rw [e] at hq
    exact ⟨.inr (.inr ⟨s, rfl, hq⟩)⟩
  · have e2 : strP "" k = Str.ofString (toString k) := if_pos rfl
    rw [e2] at hq
    exact ⟨.inr (.inl ⟨k, rfl, int_small g.lo g.hi, hq⟩)⟩
theorem call_str9 {X : Cx} {C f : Addr} {fd : FuncData} (F : FnOk X.prog X.w X.K X.mg X.base CX0 1 f fd ["self"] (spStr C)) (hr : Room 3 X.A) (hb : Binds X.K fd ["self"] []) (hs : PySem.W.findIn X.K (.ref C) "__str__" = some (some (.ref f))) (hf : PySem.W.isFn X.K (.ref f) = true) : CallR X (.type "str") (rStr9 C) := by
  intro pins s σ H xs us Q I r h
  rcases h.h with h | h | h
  · exact call_strO F hr hb hs hf pins s σ H xs us Q I r h
  · exact call_str_int pins s σ H xs us Q I r h
  · exact SkE.call_str_str pins s σ H xs us Q I r h
section
variable {P : Program} {w : World} {K : PySem.W.Frag} {mg : Str → Option Value} {base : Heap}
theorem scLRoots : FnScope ["_law_row", "_law_found", "_law_place", "_law_text"] ["_law_row"] (defScope sLRoots) := ⟨rfl, rfl, rfl, by decide +kernel, rfl, by decide +kernel, by decide +kernel⟩
theorem ok_lroots {f C fS : Addr} {fd fdS : FuncData} (F0 : Fun K "_law_roots" "_law_roots" sLRoots f fd) (D : Blp mg) (GS : FnOk P w K mg base CX0 1 fS fdS ["self"] (spStr C)) (bS : Binds K fdS ["self"] []) (iS : PySem.W.findIn K (.ref C) "__str__" = some (some (.ref fS))) (jS : PySem.W.isFn K (.ref fS) = true) :
    FnOk P w K mg base CX0 4 f fd ["_law_row"] (spLRoots C) := by
  refine F0.ok scLRoots (fun vs H Q E h => ?_) (fun cdv A outer s H vs Q E hr h => ?_)
  · obtain ⟨a, rw, rfl, _⟩ := h
    rfl
  · obtain ⟨a, rw, rfl, ⟨items, ha, hI, ok⟩, q⟩ := h
    have nd := scLRoots.nd
    refine ⟨_, (pss_cons (ps_set (i := 1) nd rfl (Or.inl rfl) (pe_lst pa_nil))
      (pss_cons (ps_for PassesOwn.never rfl (pi_tup (pe_slice sl_tup (pv 0) (po_some pe_int) po_none)) (pg_name (i := 2) nd rfl (Or.inl rfl)) (pss_cons (ps_set (i := 3) nd rfl (Or.inl rfl) (pe_callTy (call_str9 GS hr bS iS jS) (by rfl) D.str (by decide +kernel) (pa_cons (pv 2) pa_nil)))
      (pss_one (ps_if (pt_cmpR op_notIn_sign (pe_ix ix_str (pv 3) pe_int (fun _ _ => rfl)) pe_str (by rfl)) (pss_one (ps_expr (pe_bm PySem.F.plainAttrs_list PySem.F.slot_list_append PySem.F.type_list_append mt_append (pv 1) (pa_cons (pe_ix ix_str (pv 3) pe_int (fun _ _ => rfl)) pa_nil)))) pss_nil))))
      (pss_one (ps_ret (pv 1))))), ?_⟩
    have li := hI.length
    have lok := Row.le ok
    have sb : 1000 ≤ sizeLine := by decide
    refine ⟨(by show 0 ≤ sizeLine; decide), fun D_ nD => ?_⟩
    have s1 : Same H (upd H D_ (.lst [])) := same_nw nD
    have t1 : upd H D_ (.lst []) D_ = some (.lst []) := upd_same
    have k1 : ∀ p o, p ≠ D_ → H p = some o → upd H D_ (.lst []) p = some o := fun p o _ e => s1 p o e
    generalize upd H D_ (.lst []) = H1 at s1 t1 k1
    have hcut : cutV (V.str rw.1 :: items) (some (1 : Int)) none = items := cut1
    refine ⟨_, rfl, _, rfl, a, _, rfl, SqT.of (s1 _ _ ha), cut1n, fun p2 n2 => ?_⟩
    rw [hcut]
    have s2 : Same H1 (upd H1 p2 (.tup items)) := same_nw n2
    have t2 : upd H1 p2 (.tup items) p2 = some (.tup items) := upd_same
    generalize upd H1 p2 (.tup items) = H2 at s2 t2
    have p2D : p2 ≠ D_ := fun e => by
      rw [e, t1] at n2
      cases n2
    have tD := s2 _ _ t1
    have s12 := s1.trans s2
    have oldD : ∀ p o, H p = some o → p ≠ D_ := fun p o e => ne_of_none e nD
    refine ⟨p2, rfl, ⟨_, SqT.of t2⟩, for_tup (K := K) (a := p2) (xs := items) (fun j σ H' => ∃ x2 x3 : Option V, σ = [some (.ref a), some (.ref D_), x2, x3] ∧ (∀ p o, p ≠ D_ → H2 p = some o → H' p = some o) ∧ H' D_ = some (.lst ((rootsP (rw.2.take j)).map V.str)))
      ⟨_, _, rfl, fun _ _ _ e => e, by rw [List.take_zero]; exact tD⟩ (fun j σ H' _ ⟨_, _, _, k, _⟩ => SqT.of (k _ _ p2D t2)) ?_ ?_⟩
    · rintro j v σ H3 hv ⟨x2, x3, rfl, kp, hD⟩
      obtain ⟨⟨z, k⟩, hp, pv_⟩ := hI.get hv
      have lj : j < rw.2.length := (List.getElem?_eq_some_iff.mp hp).1
      generalize hDE : ({ nx := _, rt := _, bk := _, ct := _ } : Ends) = DE
      have enx : ∀ σ' H', (∃ x2 x3 : Option V, σ' = [some (.ref a), some (.ref D_), x2, x3] ∧ (∀ p o, p ≠ D_ → H2 p = some o → H' p = some o) ∧ H' D_ = some (.lst ((rootsP (rw.2.take (j + 1))).map V.str))) → DE.nx σ' H' := fun σ' H' h => by
        rw [← hDE]
        exact h
      clear hDE
      have tk : rw.2.take (j + 1) = rw.2.take j ++ [(z, k)] := by
        rw [List.take_succ, hp]
        rfl
      have pv3 : Pv9 C H3 v z k := by
        obtain ⟨h, g⟩ := pv_
        refine ⟨?_, g⟩
        rcases h with ⟨x, e, dx, px⟩ | h
        · exact .inl ⟨x, e, dx, kp _ _ (oldD _ _ px) (s12 _ _ px)⟩
        · exact .inr h
      obtain ⟨hl, c, hc, hin, hz⟩ := head_txt pv_.2.2 pv_.2.1
      refine ⟨_, rfl, str9 pv3 ?_⟩
      have hl : (strP z k).length ≤ 20 := hl
      refine ⟨_, rfl, _, 0, c, rfl, rfl, by omega, hc, c, _, rfl, rfl, ?_⟩
      have hin : decide (c ∈ ("0123" : Str).cps.toList) = decide (z = "") := hin
      rw [hin]
      by_cases ez : z = ""
      · rw [decide_eq_true ez]
        refine ⟨_, rfl, iteF (enx _ _ ⟨_, _, rfl, kp, ?_⟩)⟩
        rw [tk, ez, rootsP_no]
        exact hD
      · rw [decide_eq_false ez]
        refine ⟨_, rfl, iteT ⟨_, rfl, .inl ⟨rfl, _, SqL.of hD⟩, _, rfl, _, 0, c, rfl, rfl, by omega, hc, D_, _, _, rfl, rfl, hD, ?_, ?_⟩⟩
        · have := rootsP_len (rw.2.take j)
          rw [List.length_map]
          rw [List.length_take] at this
          omega
        · refine enx _ _ ⟨_, _, rfl, fun p o np e => ?_, ?_⟩
          · rw [upd_ne np]
            exact kp p o np e
          · rw [upd_same, tk, rootsP_yes ez, List.map_append, hz ez]
            rfl
    · rintro σ H3 ⟨x2, x3, rfl, kp, hD⟩
      rw [List.take_of_length_le (by omega)] at hD
      refine ⟨_, rfl, q D_ H3 (fun p o e => kp p o (oldD p o e) (s12 _ _ e)) nD hD⟩
end
end Mz
set_option Elab.async false
set_option linter.all false
set_option maxRecDepth 100000
set_option maxHeartbeats 4000000
/-! an own operator whose right side is an instance of another own class that knows none -/
namespace Mz
open PySem PySem.Spec PyProof.Rows L2
/-- a class that says nothing of an operator -/
structure Mute (K : PySem.W.Frag) (D C : Addr) (op : Operator) : Prop where
  ne : C ≠ D
  mro : (PySem.W.clsIn K D).map (·.mro) = some [.ref D, .type "object"]
  d1 : PySem.W.findIn K (.ref D) (PySem.dunder op.info.2) = some none
  d2 : PySem.W.findIn K (.ref D) (dunderR op.info.2) = some none
  o1 : PySem.W.findIn K (.type "object") (PySem.dunder op.info.2) = some none
  o2 : PySem.W.findIn K (.type "object") (dunderR op.info.2) = some none
  sub : PySem.W.subIn K (.ref D) (.ref C) = some false
section
open PySem.W
variable {prog : Program} {w : World} {A : Around} {E : Value → Shared → Prop} {s : Shared} {K : Frag} {C D x f : Addr} {ox : Obj} {od : Option Obj}
theorem fills_no {M : Model} {h : Heap} {nm : String} (X : K.In h) (hc : (clsIn K D).map (·.mro) = some [.ref D, .type "object"]) (d1 : findIn K (.ref D) (PySem.dunder nm) = some none) (d2 : findIn K (.ref D) (dunderR nm) = some none)
    (o1 : findIn K (.type "object") (PySem.dunder nm) = some none) (o2 : findIn K (.type "object") (dunderR nm) = some none) : Looks M h (fillsNumberSlot (.ref D) nm) false := by
  obtain ⟨cd, hcd, hm⟩ := Option.map_eq_some_iff.mp hc
  intro A Q E s k q
  have M0 : Looks M h (mroOf (.ref D)) cd.mro := (looks_clsIn X hcd).andThen (f := fun cd => pure cd.mro) .now
  have L1 : Looks M h (typeLookup (.ref D) (PySem.dunder nm)) none := looks_findIn X d1
  have L2 : Looks M h (typeLookup (.ref D) (dunderR nm)) none := looks_findIn X d2
  have L3 : Looks M h (typeLookup (.type "object") (PySem.dunder nm)) none := looks_findIn X o1
  have L4 : Looks M h (typeLookup (.type "object") (dunderR nm)) none := looks_findIn X o2
  have M0 := M0.keeps k
  have L1 := L1.keeps k
  have L2 := L2.keeps k
  have L3 := L3.keeps k
  have L4 := L4.keeps k
  obtain ⟨hp, gn, dp, tk, os⟩ := s
  unfold fillsNumberSlot
  refine wpAny_bind (M0.at ?_)
  rw [hm, List.anyM_cons]
  refine wpAny_bind ?_
  show wpAny M A (List.anyM _ [PySem.dunder nm, dunderR nm]) _ _ _
  rw [List.anyM_cons]
  refine wpAny_bind (wpAny_bind (L1.at (wpAny_pure ?_)))
  rw [if_neg Bool.false_ne_true, List.anyM_cons]
  refine wpAny_bind (wpAny_bind (L2.at (wpAny_pure ?_)))
  rw [if_neg Bool.false_ne_true]
  refine wpAny_pure ?_
  rw [if_neg Bool.false_ne_true, List.anyM_cons]
  refine wpAny_bind (wpAny_bind (L3.at (wpAny_bind (L4.at (wpAny_pure ?_)))))
  exact wpAny_pure q
theorem bin1_mute {op : Operator} {b : Value} {rc : Option Value} {Q : Value → Shared → Prop} (X : K.In s.heap) (J : InstAt s.heap x ox C od) (hb : ∀ h : Heap, s.heap = h → Looks (model prog w) h (typeOf b) (.ref D)) (first : selfFirst K C = true)
    (own : findIn K (.ref C) (PySem.dunder op.info.2) = some (some (.ref f))) (fn : isFn K (.ref f) = true) (back : findIn K (.ref C) (dunderR op.info.2) = some rc) (how : rc = none ∨ ∃ g : Addr, rc = some (.ref g)) (U : Mute K D C op)
    (run : wpAny (model prog w) A (call (.ref f) [.ref x, b]) (PySem.W.CmpBack Q) E s) : wpAny (model prog w) A (binaryOp1 op.info.2 (.ref x) b) (fun r s2 => ∃ v, r = some v ∧ Q v s2) E s := by
  obtain ⟨cd, rest, hcd, hm⟩ := ksp_first first
  obtain ⟨ne, mro, d1, d2, o1, o2, low⟩ := U
  rcases hi : op.info with ⟨sym, nm⟩
  rw [hi] at own back d1 d2 o1 o2
  have tried := ksp_try X J own fn run
  obtain ⟨hp, gn, dp, tk, os⟩ := s
  have K1 : Looks (model prog w) hp (typeOf (.ref x)) (.ref C) := J.type
  have K2 : Looks (model prog w) hp (typeOf b) (.ref D) := hb _ rfl
  have K3 : Looks (model prog w) hp (fillsNumberSlot (.ref C) nm) true := fills_K X hcd hm own
  have K4 : Looks (model prog w) hp (fillsNumberSlot (.ref D) nm) false := fills_no X mro d1 d2 o1 o2
  have K5 : Looks (model prog w) hp (isSubtype (.ref D) (.ref C)) false := looks_subIn X low
  have K6 : Looks (model prog w) hp (numberSlotInPython (.ref C) nm) true := ksp_inPy X own back how
  have K8 : Looks (model prog w) hp (typeLookup (.ref D) (dunderR nm)) none := looks_findIn X d2
  have unlike : (Value.ref C == Value.ref D) = false := by
    cases e : (Value.ref C == Value.ref D) with
    | false => rfl
    | true => exact absurd (Value.ref.inj (beq_iff_eq.mp e)) ne
  show wpAny (model prog w) A (binaryOp1 nm (.ref x) b) _ E _
  unfold binaryOp1
  refine wpAny_bind (K1.at (wpAny_bind (K2.at (wpAny_bind (K3.at ?_)))))
  simp only [unlike, Bool.false_eq_true, if_false]
  ksp_lk
  refine wpAny_mono tried (fun r s2 hr => ?_) fun _ _ z => z
  obtain ⟨v, rfl, hq⟩ := hr
  ksp_lk
  exact ⟨v, rfl, hq⟩
end
/-- what stands on the right: a built-in type, the same class, a class that says nothing -/
def rLeft3 (K : PySem.W.Frag) (C : Addr) (op : Operator) (sp : Sp) (E : XK) : R2 := fun x y H Q => ∃ a dx fs, x = .ref a ∧ H a = some (.ins C dx fs) ∧ ((∃ T, TyX K H y (.type T) ∧ Rty K C op T) ∨ TyX K H y (.ref C) ∨ ∃ D, TyX K H y (.ref D) ∧ Mute K D C op) ∧ sp [.ref a, y] H Q E
section
variable {X : Cx} {CX : CXT} {k : Nat} {f C : Addr} {fd : FuncData} {ps : List Str} {sp : Sp} {op : Operator} {E : L2.St → XK} {ea eb : Expr} {ta tb : TE} {pos : Pos}
theorem op_leftS3 (F : FnOk X.prog X.w X.K X.mg X.base CX k f fd ps sp) (hr : Room k X.A) (hb : Binds X.K fd ps []) (T : Lty X.K C op f) (hx : ∀ σ, PassesAt CX X σ (E σ)) (pins : List (Addr × Obj)) (s : Shared) (σ : L2.St) (H : Hp) (x y : V) (v u : Value) (Q : VK) (I : Inv X pins σ H s) (rx : RelV x v) (ry : RelV y u)
    (h : rLeft3 X.K C op sp (E σ) x y H Q) : wpAny (model X.prog X.w) X.A (binaryOp op v u) (EP X pins σ Q) X.xe s := by
  obtain ⟨a, dx, fs, rfl, ha, hy, q⟩ := h
  rcases hy with hy | hy | ⟨D, ty, U⟩
  · exact op_leftS F hr hb T hx pins s σ H _ y v u Q I rx ry ⟨a, dx, fs, rfl, ha, .inl hy, q⟩
  · exact op_leftS F hr hb T hx pins s σ H _ y v u Q I rx ry ⟨a, dx, fs, rfl, ha, .inr hy, q⟩
  · obtain rfl : v = Value.ref a := rx
    obtain ⟨mA, O, _⟩ := ins_get I.hok ha
    obtain ⟨od, J, _⟩ := O.look
    have run : wpAny (model X.prog X.w) X.A (call (.ref f) [.ref a, u]) (PySem.W.CmpBack (EP X pins σ Q)) X.xe s := wpAny_mono (run_fnS (vs := [.ref a, y]) (us := [.ref a, u]) F hr hb (hx σ) I (.cons rfl (.cons ry .nil)) q) (fun _ _ z => back_of z) fun _ _ z => z
    obtain ⟨P, Z, hp, _⟩ := kit_of I ry ty
    obtain ⟨rc, b1, b2⟩ := T.back
    exact bin_of1 (bin1_mute I.kIn J (fun h e => by rw [← e]; exact Z.ty _ _ I.kIn hp) T.first T.own T.fn b1 b2 U run)
theorem pe_leftS3 {K : PySem.W.Frag} (F : FnOk X.prog X.w X.K X.mg X.base CX k f fd ps sp) (hr : Room k X.A) (hb : Binds X.K fd ps []) (T : Lty K C op f) (hx : ∀ σ, PassesAt CX X σ (E σ)) (ha : PE X ea ta) (hb2 : PE X eb tb) (hK : X.K = K := by rfl) :
    PE X (.BinOp ea op eb pos) (fun σ H Q => ta σ H fun x H1 => tb σ H1 fun y H2 => rLeft3 K C op sp (E σ) x y H2 Q) := by
  subst hK
  exact ⟨fun pins s σ H Q I h => wpAny_BinOp (binT ha hb2 I h fun v u s2 x y H2 I2 rx ry q => op_leftS3 F hr hb T hx pins s2 σ H2 x y v u Q I2 rx ry q)⟩
end
end Mz
set_option Elab.async false
set_option linter.all false
set_option maxRecDepth 100000
set_option maxHeartbeats 4000000
/-! what is asked of facts: refused -/
namespace Mz
open PySem PySem.Spec PyProof.Rows L2
/-- a thing that facts refuse: no setting with the names, no facts that can be joined -/
def spAsked9 (K : PySem.W.Frag) (F S C : Addr) : Sp := fun vs H Q _ => ∃ (f : Addr) (way : Int) (v : V) (rws : List Row), vs = [.ref f, .int way, v] ∧ Fac F C H f rws ∧
  ((way = 0 ∧ ((∃ (s : Addr) (kvs : List (Key × V)) (pg : Int), v = .ref s ∧ Stg S H s kvs pg ∧ hasAll kvs rws = false) ∨ Oty K S H v) ∧ ∀ p H', Same H H' → H p = none → H' p = some (.lst [.str "setting", v]) → Q (.ref p) H') ∨
    (way = 1 ∧ ((∃ (g : Addr) (rws2 : List Row), v = .ref g ∧ Fac F C H g rws2 ∧ (rws ++ rws2).length ≤ 20 ∧ ∀ ys, Unk (plsOf (rws ++ rws2)) ys → ¬ ys.length ≤ 2) ∨ Oty K F H v) ∧ ((∃ T, TyX K H v (.type T) ∧ Rty K F .BitAnd T) ∨ TyX K H v (.ref F) ∨ ∃ D, TyX K H v (.ref D) ∧ Mute K D F .BitAnd) ∧
      ∀ p H', Same H H' → H p = none → H' p = some (.lst [.str "facts", v]) → Q (.ref p) H'))
theorem fcF_holds {rl ul : Addr} : (fcF rl ul).lookup ("holds" : Str) = none := by
  unfold fcF
  rw [lookup_putF, if_neg (by decide +kernel), lookup_putF, if_neg (by decide +kernel)]
  rfl
section
variable {P : Program} {w : World} {K : PySem.W.Frag} {mg : Str → Option Value} {base : Heap}
theorem scAsked9 : FnScope ["_law_facts", "_law_way", "_law_thing", "e"] ["_law_facts", "_law_way", "_law_thing"] (defScope sAsked9) := ⟨rfl, rfl, rfl, by decide +kernel, rfl, by decide +kernel, by decide +kernel⟩
theorem ok_asked9 {f F S C cS cF fH fA fL : Addr} {fd fdH fdA fdL : FuncData} (F0 : Fun K "_law_asked" "_law_asked" sAsked9 f fd) (T : Fcl K mg F)
    (GH : FnOk P w K mg base (L2.CX P w) 9 fH fdH ["self", "setting"] (spHolds K F S C cS)) (bH : Binds K fdH ["self", "setting"] []) (mH : Meth K F "holds" fH)
    (GA : FnOk P w K mg base (L2.CX P w) 10 fA fdA ["self", "other"] (spAnd K F C cF)) (bA : Binds K fdA ["self", "other"] []) (TA : Lty K F .BitAnd fA)
    (GLn : FnOk P w K mg base CX0 1 fL fdL ["self"] (spLenF F C)) (bL : Binds K fdL ["self"] []) (iL : PySem.W.findIn K (.ref F) "__len__" = some (some (.ref fL))) (jL : PySem.W.isFn K (.ref fL) = true) (mLen : mg "len" = none)
    (TS : Xcl K mg "InvalidSetting" cS "value") (TF : Xcl K mg "InvalidFacts" cF "value") (eS : PySem.W.exmOne K (.ref cS) (.ref cS) = some true) (eF : PySem.W.exmOne K (.ref cF) (.ref cF) = some true) (eX : PySem.W.exmOne K (.ref cF) (.ref cS) = some false) :
    FnOk P w K mg base CX0 11 f fd ["_law_facts", "_law_way", "_law_thing"] (spAsked9 K F S C) := by
  refine F0.ok scAsked9 (fun vs H Q E h => ?_) (fun cdv A outer s H vs Q E hr h => ?_)
  · obtain ⟨f, way, v, rws, rfl, _⟩ := h
    rfl
  · obtain ⟨f, way, v, rws, rfl, hf, h⟩ := h
    have nd := scAsked9.nd
    have hr9 : Room 9 _ := hr.mono (by decide)
    have hr2 : Room 2 _ := hr.mono (by decide)
    refine ⟨_, pss_one (ps_try_named rfl rfl nd (fun W pn xe tk _ => pss_cons (ps_if (pt_cmpR op_eq (pv 1) pe_int (nomark _)) (pss_one (ps_ret (pe_lst (pa_cons pe_str (pa_cons (pe_methSS (pv 0) T.cl mH GH hr9 bH (fun σ => passAt tk σ) (pa_cons (pv 2) pa_nil)) pa_nil))))) pss_nil)
          (pss_one (ps_ret (pe_lst (pa_cons pe_str (pa_cons (pe_callB (call_lenO GLn hr2 bL iL jL) (by rfl) mLen PySem.boot_len (pa_cons (pe_leftS3 GA hr bA TA (fun σ => passAt tk σ) (pv 0) (pv 2)) pa_nil)) pa_nil))))))
        (.one (i := 3) rfl rfl ⟨rfl, by decide, .inl TS.m⟩ (fun a oe cls d pn hz hf => pss_one (ps_ret (pe_lst (pa_cons pe_str (pa_cons (pe_xf TS.xf TS.no hz hf (pv 3)) pa_nil)))))
        (.one (i := 3) rfl rfl ⟨rfl, by decide, .inl TF.m⟩ (fun a oe cls d pn hz hf => pss_one (ps_ret (pe_lst (pa_cons pe_str (pa_cons (pe_xf TF.xf TF.no hz hf (pv 3)) pa_nil))))) (.any _)))), ?_⟩
    obtain ⟨dx, rl, ul, as, ys, h1, _⟩ := id hf
    rcases h with ⟨rfl, hv, q⟩ | ⟨rfl, hv, ty, q⟩
    · refine ⟨_, rfl, rfl, _, rfl, iteT ⟨_, rfl, f, dx, _, rfl, h1, fcF_holds, _, rfl, f, v, rws, rfl, hf, .inr ⟨hv, fun d H1 nd2 s1 hd => ?_⟩⟩⟩
      exact ⟨true, eS, fun _ a na => ⟨_, rfl, rfl, rfl, d, _, v, rfl, hd, rfl, (by show 2 ≤ sizeLine; decide), fun p np => q p _ (s1.trans (same_nw np)) (s1.free np) upd_same⟩, fun y => Bool.noConfusion y⟩
    · refine ⟨_, rfl, rfl, _, rfl, iteF ?_⟩
      refine ⟨_, rfl, _, rfl, f, dx, _, rfl, h1, ty, f, v, rws, rfl, hf, ?_⟩
      rcases hv with ⟨g, rws2, rfl, hg, hn, more⟩ | hv
      · exact .inl ⟨g, rws2, rfl, hg, hn, .inr ⟨more, fun d H1 nd2 s1 hd => ⟨false, eX, fun y => Bool.noConfusion y, fun _ => ⟨true, eF, fun _ a na => ⟨_, rfl, rfl, rfl, d, _, _, rfl, hd, rfl, (by show 2 ≤ sizeLine; decide), fun p np => q p _ (s1.trans (same_nw np)) (s1.free np) upd_same⟩, fun y => Bool.noConfusion y⟩⟩⟩⟩
      · exact .inr ⟨hv, fun d H1 nd2 s1 hd => ⟨false, eX, fun y => Bool.noConfusion y, fun _ => ⟨true, eF, fun _ a na => ⟨_, rfl, rfl, rfl, d, _, _, rfl, hd, rfl, (by show 2 ≤ sizeLine; decide), fun p np => q p _ (s1.trans (same_nw np)) (s1.free np) upd_same⟩, fun y => Bool.noConfusion y⟩⟩⟩
end
end Mz
set_option Elab.async false
set_option linter.all false
set_option maxRecDepth 100000
set_option maxHeartbeats 8000000
/-! the things that facts refuse -/
namespace Mz
open PySem PySem.Spec PyProof.Rows L2
theorem ne_not9 (u : V) : (!decide (u = u)) = false := by
  rw [decide_eq_true rfl]
  rfl
/-- sizes that the law makes -/
def Kv9 (kvs : List (Key × V)) : Prop := kvs.length ≤ 2 ∧ ∀ kv ∈ kvs, ∃ (z : Str) (n : Int), kv = (.inr z, .int n) ∧ nameS z = true ∧ Sm 20 z ∧ 0 ≤ n ∧ n < 100
theorem Kv9.szok {kvs : List (Key × V)} (h : Kv9 kvs) : SzOk kvs := by
  refine ⟨h.1, fun kv m => ?_⟩
  obtain ⟨z, n, rfl, _, hs, h0, h1⟩ := h.2 kv m
  refine ⟨Nat.le_trans (repr_len hs) (by decide), n, rfl, (small_text h0 h1).1, ?_⟩
  have h : ∀ n : Nat, n < 100 → (Str.ofString (toString (n : Int))).length ≤ 300 := by decide +kernel
  obtain ⟨j, rfl⟩ := Int.eq_ofNat_of_zero_le h0
  exact h j (by omega)
theorem mk_set9 {K : PySem.W.Frag} {S cS cI gv : Addr} {H : Hp} {kvs : List (Key × V)} {R : Addr → Hp → Prop} {E : XK} (h : Kv9 kvs) (hg : H gv = some (.dK kvs)) (q : ∀ st H', Same H H' → H st = none → Stg S H' st kvs 32 → R st H') :
    ∀ x dx, H x = Option.none → H dx = Option.none → dx ≠ x → spInitS K S cS cI (.ref x :: ([.ref gv] ++ [.int 32])) (L2.upd (L2.upd H dx (.own x)) x (.ins S dx [])) (fun v H2 => v = .non ∧ R x H2) E := by
  intro x dx nx ndx _
  have sm : Same H (L2.upd (L2.upd H dx (.own x)) x (.ins S dx [])) := fun b o e => by
    rw [upd_ne (ne_of_none e nx), upd_ne (ne_of_none e ndx)]
    exact e
  refine ⟨x, dx, .ref gv, .int 32, some (gv, kvs), rfl, upd_same, .inr ⟨gv, kvs, rfl, rfl, sm _ _ hg, fun kv m => ?_⟩, .int 32, .inl ⟨?_, 32, rfl, by decide, fun H2 k st => ⟨rfl, q x H2 (fun b o e => k b o (ne_of_none e nx) (sm _ _ e)) nx (st gv kvs rfl).stg⟩⟩⟩
  · obtain ⟨z, n, rfl, _, hs, _⟩ := h.2 kv m
    exact ⟨⟨fun x e => by cases e; exact ⟨Nat.le_trans hs.1 (by decide), hs.2⟩, .int n⟩, fun e => nomatch e⟩
  · show sizesB kvs = true
    unfold sizesB
    rw [decide_eq_true h.1, Bool.true_and, List.all_eq_true]
    intro kv m
    obtain ⟨z, n, rfl, hz, _, h0, _⟩ := h.2 kv m
    show (nameS z && decide (0 ≤ n)) = true
    rw [hz, decide_eq_true h0]
    rfl
/-- classes that are no settings, no facts -/
structure Nof (K : PySem.W.Frag) (F S : Addr) : Prop where
  sN : PySem.W.kitOne K (.type "NoneType") (.ref S) = some false
  sI : PySem.W.kitOne K (.type "int") (.ref S) = some false
  sB : PySem.W.kitOne K (.type "bool") (.ref S) = some false
  sS : PySem.W.kitOne K (.type "str") (.ref S) = some false
  sD : PySem.W.kitOne K (.type "dict") (.ref S) = some false
  sL : PySem.W.kitOne K (.type "list") (.ref S) = some false
  sF : PySem.W.kitOne K (.ref F) (.ref S) = some false
  fN : PySem.W.kitOne K (.type "NoneType") (.ref F) = some false
  fI : PySem.W.kitOne K (.type "int") (.ref F) = some false
  fT : PySem.W.kitOne K (.type "tuple") (.ref F) = some false
  fL : PySem.W.kitOne K (.type "list") (.ref F) = some false
  fS : PySem.W.kitOne K (.ref S) (.ref F) = some false
  rN : Rty K F .BitAnd "NoneType"
  rI : Rty K F .BitAnd "int"
  rT : Rty K F .BitAnd "tuple"
  rL : Rty K F .BitAnd "list"
  mS : Mute K S F .BitAnd
/-- what stands in the first list -/
def Ask0 (K : PySem.W.Frag) (C F S : Addr) (rws : List Row) (H : Hp) (v : V) : Prop := Thing C F S H v ∧ ((∃ (s : Addr) (kvs : List (Key × V)) (pg : Int), v = .ref s ∧ Stg S H s kvs pg ∧ hasAll kvs rws = false) ∨ Oty K S H v)
/-- what stands in the second list -/
def Ask1 (K : PySem.W.Frag) (C F S : Addr) (rws : List Row) (H : Hp) (v : V) : Prop := Thing C F S H v ∧ ((∃ (g : Addr) (rws2 : List Row), v = .ref g ∧ Fac F C H g rws2 ∧ (rws ++ rws2).length ≤ 20 ∧ ∀ ys, Unk (plsOf (rws ++ rws2)) ys → ¬ ys.length ≤ 2) ∨ Oty K F H v) ∧
  ((∃ T, TyX K H v (.type T) ∧ Rty K F .BitAnd T) ∨ TyX K H v (.ref F) ∨ ∃ D, TyX K H v (.ref D) ∧ Mute K D F .BitAnd)
theorem Thing.same {C F S : Addr} {H H' : Hp} {v : V} (s : Same H H') (h : Thing C F S H v) : Thing C F S H' v := by
  cases h with
  | itm h => exact .itm (h.same s)
  | tup h hv n na => exact .tup (s _ _ h) (fun v m => (hv v m).same s) n na
  | dct h n hk => exact .dct (s _ _ h) n hk
  | fac h => exact .fac (h.same s)
  | stg h ok p0 p1 => exact .stg (h.same s) ok p0 p1
  | lst h hs ok p0 p1 => exact .lst (s _ _ h) (hs.same s) ok p0 p1
theorem Stg.kp {S b : Addr} {H H' : Hp} {n : Nat} (B : Bx H b n) (k : Kp b H H') {s : Addr} {kvs : List (Key × V)} {pg : Int} (h : Stg S H s kvs pg) : Stg S H' s kvs pg := by
  obtain ⟨dx, d, h1, h2⟩ := h
  exact ⟨dx, d, k _ _ (B.off h1 fun _ _ _ x => nomatch x) h1, k _ _ (B.off h2 fun _ _ _ x => nomatch x) h2⟩
theorem Thing.ne {C F S b : Addr} {H : Hp} {n : Nat} {v : V} (B : Bx H b n) (h : Thing C F S H v) : ∀ a, v = .ref a → a ≠ b := by
  cases h with
  | itm h =>
    intro a e
    rcases h with h | ⟨q, l, e2, hq, _, m⟩
    · rcases h with rfl | ⟨_, rfl⟩ | ⟨_, rfl, _⟩ | ⟨_, rfl, _⟩ <;> exact nomatch e
    · rw [e2] at e
      cases e
      rcases hq with h | h
      · exact B.off h fun x y z e2 => by
          injection e2 with e3
          rw [e3] at m
          exact absurd m (by show ¬ 3 ≤ 2; decide)
      · exact B.off h fun _ _ _ x => nomatch x
  | tup h hv n na =>
    intro a e
    cases e
    exact B.off h fun _ _ _ x => nomatch x
  | dct h n hk =>
    intro a e
    cases e
    exact B.off h fun _ _ _ x => nomatch x
  | fac h =>
    intro a e
    cases e
    obtain ⟨dx, rl, ul, as, ys, h1, _⟩ := h
    exact B.off h1 fun _ _ _ x => nomatch x
  | stg h ok p0 p1 =>
    intro a e
    cases e
    obtain ⟨dx, d, h1, _⟩ := h
    exact B.off h1 fun _ _ _ x => nomatch x
  | lst h hs ok p0 p1 =>
    intro a e
    cases e
    exact B.off h fun x y z e2 => by
      injection e2 with e3
      cases e3
theorem Thing.kp {C F S b : Addr} {H H' : Hp} {n : Nat} {v : V} (B : Bx H b n) (k : Kp b H H') (h : Thing C F S H v) : Thing C F S H' v := by
  have ne := h.ne B
  cases h with
  | itm h => exact .itm (h.kp B k)
  | tup h hv n na => exact .tup (k _ _ (ne _ rfl) h) (fun v m => (hv v m).kp B k) n na
  | dct h n hk => exact .dct (k _ _ (ne _ rfl) h) n hk
  | fac h => exact .fac (h.kp B k)
  | stg h ok p0 p1 => exact .stg (h.kp B k) ok p0 p1
  | lst h hs ok p0 p1 => exact .lst (k _ _ (ne _ rfl) h) (hs.kp B k) ok p0 p1
theorem Ask0.kp {K : PySem.W.Frag} {C F S b : Addr} {rws : List Row} {H H' : Hp} {n : Nat} {v : V} (B : Bx H b n) (k : Kp b H H') (h : Ask0 K C F S rws H v) : Ask0 K C F S rws H' v := by
  refine ⟨h.1.kp B k, ?_⟩
  rcases h.2 with ⟨x, kvs, pg, e, hs, n⟩ | ⟨t, ty, kt⟩
  · exact .inl ⟨x, kvs, pg, e, hs.kp B k, n⟩
  · exact .inr ⟨t, ty_at (fun a e o he => k _ _ (h.1.ne B a e) he) ty, kt⟩
theorem Ask0.same {K : PySem.W.Frag} {C F S : Addr} {rws : List Row} {H H' : Hp} {v : V} (s : Same H H') (h : Ask0 K C F S rws H v) : Ask0 K C F S rws H' v := by
  refine ⟨h.1.same s, ?_⟩
  rcases h.2 with ⟨x, kvs, pg, e, hs, n⟩ | h
  · exact .inl ⟨x, kvs, pg, e, hs.same s, n⟩
  · exact .inr (h.same s)
theorem tyx_same {K : PySem.W.Frag} {H H' : Hp} {v : V} {t : Value} (s : Same H H') (h : TyX K H v t) : TyX K H' v t := ty_at (fun a _ o e => s a o e) h
theorem Ask1.same {K : PySem.W.Frag} {C F S : Addr} {rws : List Row} {H H' : Hp} {v : V} (s : Same H H') (h : Ask1 K C F S rws H v) : Ask1 K C F S rws H' v := by
  obtain ⟨h1, h2, h3⟩ := h
  refine ⟨h1.same s, ?_, ?_⟩
  · rcases h2 with ⟨g, r2, e, hg, n⟩ | h
    · exact .inl ⟨g, r2, e, hg.same s, n⟩
    · exact .inr (h.same s)
  · rcases h3 with ⟨T, ty, r⟩ | ty | ⟨D, ty, m⟩
    · exact .inl ⟨T, tyx_same s ty, r⟩
    · exact .inr (.inl (tyx_same s ty))
    · exact .inr (.inr ⟨D, tyx_same s ty, m⟩)
abbrev abcL : List Str := [("a" : Str), ("b" : Str), ("c" : Str)]
theorem two_few {rws : List Row} {D : List Str} (h : ∀ p ∈ plsOf rws, p.1 ∈ D) (l : D.length ≤ 2) : Two rws := fun ys hU => Nat.le_trans (nodup_sub ys D hU.2.1 fun z hz => by
  obtain ⟨_, k, hk⟩ := (hU.2.2 z).mp hz
  exact h _ hk) l
abbrev pgR (z : Str) : Row := ("page", [(z, 0)])
theorem far_ok : ∀ z ∈ abcL, nameS z = true ∧ Sm 20 z ∧ partsS z = some (z, 0) := fun z hz => by
  rcases List.mem_cons.mp hz with e | hz
  · rw [e]
    exact ⟨by decide +kernel, ⟨by decide +kernel, by decide +kernel⟩, by decide +kernel⟩
  · rcases List.mem_cons.mp hz with e | hz
    · rw [e]
      exact ⟨by decide +kernel, ⟨by decide +kernel, by decide +kernel⟩, by decide +kernel⟩
    · rw [List.mem_singleton.mp hz]
      exact ⟨by decide +kernel, ⟨by decide +kernel, by decide +kernel⟩, by decide +kernel⟩
theorem too_many {rws : List Row} {D : List Str} (h : ∀ z ∈ D, z ≠ "" ∧ ∃ k, (z, k) ∈ plsOf rws) (nd : D.Nodup) (l : 3 ≤ D.length) : ∀ ys, Unk (plsOf rws) ys → ¬ ys.length ≤ 2 := fun ys hU hl => by
  have z := nodup_sub D ys nd fun z hz => (hU.2.2 z).mpr (h z hz)
  omega
theorem pls_app {r1 r2 : List Row} {p : Str × Int} : p ∈ plsOf (r1 ++ r2) ↔ p ∈ plsOf r1 ∨ p ∈ plsOf r2 := by
  unfold plsOf
  rw [List.flatMap_append, List.mem_append]
/-- a row about the page of a name -/
theorem page_row {K : PySem.W.Frag} {C a : Addr} {H : Hp} {z : Str} (N : Npl K C) (h : H a = some (.tup [.str "page", .str z])) (hz : nameS z = true ∧ Sm 20 z ∧ partsS z = some (z, 0)) : RwG K C H a ("page", [(z, 0)]) := by
  refine ⟨[.str z], h, .cons (.inr ⟨nopl_str N ⟨Nat.le_trans hz.2.1.1 (by decide), hz.2.1.2⟩, hz.2.2⟩) .nil, rfl, fun q hq => ?_⟩
  rw [List.mem_singleton.mp hq]
  refine ⟨Nat.le_trans hz.2.1.1 (by decide), hz.2.1.2, .inr hz.1, ?_, by show (0 : Int) ≤ 3; decide⟩
  show lowS z ≤ 0
  unfold lowS
  split <;> decide
/-- names, as the law finds them -/
def Nms (names : List Str) (rws : List Row) : Prop := (names = [] ∨ names = [("n" : Str)] ∨ names = [("m" : Str), ("n" : Str)]) ∧ (∀ z ∈ names, ∃ k, (z, k) ∈ plsOf rws) ∧ rws.length ≤ 5
def spThings (K : PySem.W.Frag) (C F : Addr) : Sp := fun vs H Q _ => ∃ (b f nl : Addr) (n : Nat) (rws : List Row) (names : List Str), vs = [.ref b, .ref f, .ref nl] ∧ Bx H b n ∧ n ≤ 700000 ∧ Fac F C H f rws ∧ f ≠ b ∧ H nl = some (.lst (names.map V.str)) ∧ nl ≠ b ∧ Nms names rws ∧
  ∀ H', Kp b H H' → Bx H' b (n + 10) → Q (.bl true) H'
section
variable {P : Program} {w : World} {K : PySem.W.Frag} {mg : Str → Option Value} {base : Heap}
abbrev NTh : List Str := ["_law_box_here", "_law_facts", "_law_names", "_law_odd_here", "_law_some", "_law_gone", "_law_less", "_law_thing", "_law_far", "_law_rows", "_law_wide", "_law_joined", "_law_things", "_law_name"]
theorem scThings : FnScope NTh ["_law_box_here", "_law_facts", "_law_names"] (defScope sThings) := ⟨rfl, rfl, rfl, by decide +kernel, rfl, by decide +kernel, by decide +kernel⟩
theorem ok_things {f_ ft fA9 fIS fI C F S cS cI cR cF fP fF fS : Addr} {fd fdt fdA9 fdIS dP dF dS : FuncData} {ds : List Value} (F0 : Fun K "_law_things_right" "_law_things_right" sThings f_ fd) (B : Blt mg) (mR : mg "repr" = none) (mDct : mg "dict" = none) (Tk_ : Tk P w K mg base ft fdt)
    (TT : Scl K mg S) (MS : Mk K S fIS) (GIS : FnOk P w K mg base (L2.CX P w) 4 fIS fdIS ["self", "sizes", "page"] (spInitS K S cS cI)) (hdS : Vals [.int 32] ds) (bS : Binds K fdIS ["self", "sizes", "page"] ds)
    (TF : Fcl K mg F) (YF : Pty K F) (YS : Pty K S) (MF : Mk K F fI) (GI : FnR P w K mg base (L2.CX P w) 8 fI (spMakeF K C F cR cF)) (GA9 : D1 P w K mg base "_law_asked" 11 ["_law_facts", "_law_way", "_law_thing"] (spAsked9 K F S C) fA9 fdA9)
    (NO : Nof K F S) (N : Npl K C) (SH : Shows P w K mg base C F S fP fF fS dP dF dS) :
    FnG P w K mg base CX0 12 f_ fd ["_law_box_here", "_law_facts", "_law_names"] (spThings K C F) := by
  refine fun_okG F0 scThings (fun vs H Q E h => ?_) (fun cdv A outer s H vs Q E hg hr h => ?_)
  · obtain ⟨b, f, nl, n, rws, names, rfl, _⟩ := h
    rfl
  · obtain ⟨b, f, nl, n, rws, names, rfl, hB, hn, hf, fb, hN, nb, hnm, q⟩ := h
    have nd := scThings.nd
    have hr1 : Room 1 _ := hr.mono (by decide)
    have hr5 : Room 5 _ := hr.mono (by decide)
    have hr6 : Room (4 + 2) _ := hr.mono (by decide)
    have hr9 : Room 9 _ := hr.mono (by decide)
    have hr11 : Room 11 _ := hr.mono (by decide)
    refine ⟨_, (pss_cons (ps_set (i := 3) nd rfl (Or.inl rfl) (pe_ix ix_list (pe_lst (pa_cons pe_non (pa_cons pe_int (pa_cons (pe_disp (pps_cons pe_str pe_int (pps_cons pe_str pe_int pps_nil)) (by rfl) (by rfl) (fun z => by cases z) (by decide)) (pa_cons pe_str (pa_cons (pv 1) (pa_cons (pe_lst (pa_cons (pe_make (E := E0) MS GIS hr5 (by rfl) TT.mgS bS hdS pass_all (pa_cons pe_dnewK pa_nil)) pa_nil)) (pa_cons pe_bl pa_nil)))))))) (pe_call Tk_.ok hr1 (by rfl) Tk_.m Tk_.k Tk_.b .nil pass0 (pa_cons (pv 0) (pa_cons pe_int pa_nil))) (fun _ _ => rfl)))
      (pss_cons (ps_set (i := 4) nd rfl (Or.inl rfl) (pe_lst (pa_cons (pv 3) pa_nil)))
      (pss_cons (ps_if (pt_cmpR (op_neD hr.units) (pv 2) (pe_lst pa_nil) (nomark _)) (pss_cons (ps_set (i := 5) nd rfl (Or.inr rfl) (pe_ix ix_list (pv 2) (pe_call Tk_.ok hr1 (by rfl) Tk_.m Tk_.k Tk_.b .nil pass0 (pa_cons (pv 0) (pa_cons (pe_callB call_len_seq (by rfl) B.len PySem.boot_len (pa_cons (pv 2) pa_nil)) pa_nil))) (fun _ _ => rfl)))
      (pss_cons (ps_setLc (i := 6) (own := [("_law_name", 13)]) (g := gName 13) rfl nd rfl rfl (sw_true rfl rfl rfl (by decide +kernel)) (pi_list (pv 2)) (blkOk_by (N := ["_law_box_here", "_law_facts", "_law_names", "_law_odd_here", "_law_some", "_law_gone", "_law_less", "_law_thing", "_law_far", "_law_rows", "_law_wide", "_law_joined", "_law_things", "_law_name"]) (sc := defScope sThings) (by decide +kernel)) (fun _ _ _ _ _ => (pg_name (i := 13) nd rfl (Or.inl rfl))) (fun _ _ _ _ _ => (pts_one (pt_cmpR op_ne (pv 13) (pv 5) (nomark _)))) (fun _ _ _ _ _ => (pv 13)))
      (pss_cons (ps_expr (pe_bm PySem.F.plainAttrs_list PySem.F.slot_list_append PySem.F.type_list_append mt_append (pv 4) (pa_cons (pe_make (E := E0) MS GIS hr5 (by rfl) TT.mgS bS hdS pass_all (pa_cons (pe_callTy (call_dictP rfl) (by rfl) mDct (by decide +kernel) (pa_cons (pe_lc (own := [("_law_name", 13)]) (g := gName 13) (tt := tYes) rfl nd (pi_list (pe_op op_cat (pv 6) (pe_lst (pa_cons pe_str pa_nil)))) (blkOk_by (N := ["_law_box_here", "_law_facts", "_law_names", "_law_odd_here", "_law_some", "_law_gone", "_law_less", "_law_thing", "_law_far", "_law_rows", "_law_wide", "_law_joined", "_law_things", "_law_name"]) (sc := defScope sThings) (by decide +kernel)) (fun _ _ _ _ _ => (pg_name (i := 13) nd rfl (Or.inl rfl))) (fun _ _ _ _ _ => pts_nil) (fun _ _ _ _ _ => (pe_w (pe_tup (pa_cons (pv 13) (pa_cons pe_int pa_nil)))))) pa_nil)) pa_nil)) pa_nil)))
      (pss_one (ps_expr (pe_bm PySem.F.plainAttrs_list PySem.F.slot_list_append PySem.F.type_list_append mt_append (pv 4) (pa_cons (pe_make (E := E0) MS GIS hr5 (by rfl) TT.mgS bS hdS pass_all (pa_cons pe_dnewK pa_nil)) pa_nil))))))) pss_nil)
      (pss_cons (ps_for PassesOwn.never rfl (pi_list (pv 4)) (pg_name (i := 7) nd rfl (Or.inl rfl)) (pss_one (ps_if (pt_cmpR op_ne (pe_callB (call_reprWS hg hr6) (by rfl) mR (by decide +kernel) (pa_cons (pe_call GA9.ok hr11 (by rfl) GA9.m GA9.k GA9.b .nil pass0 (pa_cons (pv 1) (pa_cons pe_int (pa_cons (pv 7) pa_nil)))) pa_nil)) (pe_callB (call_reprWS hg hr6) (by rfl) mR (by decide +kernel) (pa_cons (pe_lst (pa_cons pe_str (pa_cons (pv 7) pa_nil))) pa_nil)) (nomark _)) (pss_one (ps_ret pe_bl)) pss_nil)))
      (pss_cons (ps_set (i := 8) nd rfl (Or.inl rfl) (pe_slice sl_list (pe_lc (own := [("_law_name", 13)]) (g := gName 13) (tt := tYes) rfl nd (pi_list (pe_lst (pa_cons pe_str (pa_cons pe_str (pa_cons pe_str pa_nil))))) (blkOk_by (N := ["_law_box_here", "_law_facts", "_law_names", "_law_odd_here", "_law_some", "_law_gone", "_law_less", "_law_thing", "_law_far", "_law_rows", "_law_wide", "_law_joined", "_law_things", "_law_name"]) (sc := defScope sThings) (by decide +kernel)) (fun _ _ _ _ _ => (pg_name (i := 13) nd rfl (Or.inl rfl))) (fun _ _ _ _ _ => pts_nil) (fun _ _ _ _ _ => (pv 13))) po_none (po_some (pe_op op_sub pe_int (pe_callB call_len_seq (by rfl) B.len PySem.boot_len (pa_cons (pv 2) pa_nil))))))
      (pss_cons (ps_setLc (i := 9) (own := [("_law_name", 13)]) (g := gName 13) (tt := tYes) rfl nd rfl rfl (sw_true rfl rfl rfl (by decide +kernel)) (pi_list (pv 8)) (blkOk_by (N := ["_law_box_here", "_law_facts", "_law_names", "_law_odd_here", "_law_some", "_law_gone", "_law_less", "_law_thing", "_law_far", "_law_rows", "_law_wide", "_law_joined", "_law_things", "_law_name"]) (sc := defScope sThings) (by decide +kernel)) (fun _ _ _ _ _ => (pg_name (i := 13) nd rfl (Or.inl rfl))) (fun _ _ _ _ _ => pts_nil) (fun _ _ _ _ _ => (pe_w (pe_tup (pa_cons pe_str (pa_cons (pv 13) pa_nil))))))
      (pss_cons (ps_set (i := 10) nd rfl (Or.inl rfl) (StX.pe_makeR (E := E0) MF GI hr9 (by rfl) TF.mgF pass_all (pa_cons (pe_ix ix_list (pv 9) pe_int (fun _ _ => rfl)) pa_nil)))
      (pss_cons (ps_if (pt_cmpR op_eq (pe_callB call_len_seq (by rfl) B.len PySem.boot_len (pa_cons (pv 9) pa_nil)) pe_int (nomark _)) (pss_one (ps_set (i := 10) nd rfl (Or.inl rfl) (StX.pe_makeR (E := E0) MF GI hr9 (by rfl) TF.mgF pass_all (pa_cons (pe_ix ix_list (pv 9) pe_int (fun _ _ => rfl)) (pa_cons (pe_ix ix_list (pv 9) pe_int (fun _ _ => rfl)) pa_nil))))) pss_nil)
      (pss_cons (ps_set (i := 11) nd rfl (Or.inl rfl) (pe_ix ix_list (pe_lst (pa_cons pe_non (pa_cons pe_int (pa_cons (pe_tup (pa_cons pe_str (pa_cons pe_str pa_nil))) (pa_cons (pe_lst pa_nil) (pa_cons (pe_make (E := E0) MS GIS hr5 (by rfl) TT.mgS bS hdS pass_all (pa_cons pe_dnewK pa_nil)) pa_nil)))))) (pe_call Tk_.ok hr1 (by rfl) Tk_.m Tk_.k Tk_.b .nil pass0 (pa_cons (pv 0) (pa_cons pe_int pa_nil))) (fun _ _ => rfl)))
      (pss_cons (ps_set (i := 12) nd rfl (Or.inl rfl) (pe_ifExp (pt_cmpR (op_neD hr.units) (pv 2) (pe_lst pa_nil) (nomark _)) (pe_lst (pa_cons (pv 11) (pa_cons (pv 10) pa_nil))) (pe_lst (pa_cons (pv 11) pa_nil))))
      (pss_cons (ps_for PassesOwn.never rfl (pi_list (pv 12)) (pg_name (i := 7) nd rfl (Or.inl rfl)) (pss_one (ps_if (pt_cmpR op_ne (pe_callB (call_reprWS hg hr6) (by rfl) mR (by decide +kernel) (pa_cons (pe_call GA9.ok hr11 (by rfl) GA9.m GA9.k GA9.b .nil pass0 (pa_cons (pv 1) (pa_cons pe_int (pa_cons (pv 7) pa_nil)))) pa_nil)) (pe_callB (call_reprWS hg hr6) (by rfl) mR (by decide +kernel) (pa_cons (pe_lst (pa_cons pe_str (pa_cons (pv 7) pa_nil))) pa_nil)) (nomark _)) (pss_one (ps_ret pe_bl)) pss_nil)))
      (pss_one (ps_ret pe_bl))))))))))))), ?_⟩
    have one : ∀ {H1 : Hp} {p : Addr} (o : HO), H1 p = none → ∃ H2, H2 = upd H1 p o ∧ Same H1 H2 ∧ H2 p = some o := fun o n => ⟨_, rfl, same_nw n, upd_same⟩
    have sb : 1000 ≤ sizeLine := by decide
    have kv0 : Kv9 [] := ⟨by decide, fun kv m => nomatch m⟩
    -- the odd thing
    intro p1 n1
    refine ⟨upd_same, [(Sum.inr "n", V.int 1), (Sum.inr "m", V.int 2)], rfl, by decide, ?_⟩
    rw [upd_upd]
    obtain ⟨H1, e, s1, t1⟩ := one (.dK (mergeK [] [(Sum.inr "n", V.int 1), (Sum.inr "m", V.int 2)])) n1
    rw [← e]
    clear e
    refine ⟨_, rfl, fun p2 n2 => ?_⟩
    obtain ⟨H2, e, s2, t2⟩ := one (.dK []) n2
    rw [← e]
    clear e
    refine mk_set9 (kvs := []) kv0 t2 fun x3 H3 s3 n3 t3 => ?_
    refine ⟨(by show 1 ≤ sizeLine; decide), fun p4 n4 => ?_⟩
    obtain ⟨H4, e, s4, t4⟩ := one (.lst [V.ref x3]) n4
    rw [← e]
    clear e
    refine ⟨(by show 7 ≤ sizeLine; decide), fun p5 n5 => ?_⟩
    obtain ⟨H5, e, s5, t5⟩ := one (.lst [V.non, V.int 7, V.ref p1, V.str "n", V.ref f, V.ref p4, V.bl true]) n5
    rw [← e]
    clear e
    have s05 := s1.trans (s2.trans (s3.trans (s4.trans s5)))
    have B5 := hB.same s05
    refine ⟨_, rfl, b, n, 7, rfl, B5, by omega, by decide, by decide, fun r6 H6 r60 r61 B6 K6 => ?_⟩
    obtain ⟨v, hv, hm⟩ := atI_in (l := [V.non, V.int 7, V.ref p1, V.str "n", V.ref f, V.ref p4, V.bl true]) r60 r61
    refine ⟨p5, _, _, _, rfl, rfl, SqL.of (K6 _ _ ((((hB.same s1).same s2).same s3).same s4 |>.new n5) t5), hv, ?_⟩
    have K06 : Kp b H H6 := (Kp.same s05).trans K6
    have hf6 : Fac F C H6 f rws := hf.kp hB K06
    have A6 : Ask0 K C F S rws H6 v := by
      have k1 : H6 p1 = some (.dK [(Sum.inr "n", V.int 1), (Sum.inr "m", V.int 2)]) := K6 _ _ (hB.new n1) (s5 _ _ (s4 _ _ (s3 _ _ (s2 _ _ t1))))
      have k3 : Stg S H6 x3 [] 32 := by
        obtain ⟨dx, d, h1, h2⟩ := (t3.same s4).same s5
        exact ⟨dx, d, K6 _ _ (B5.off h1 fun _ _ _ x => nomatch x) h1, K6 _ _ (B5.off h2 fun _ _ _ x => nomatch x) h2⟩
      have k4 := K6 _ _ ((((hB.same s1).same s2).same s3).new n4) (s5 _ _ t4)
      simp only [List.mem_cons, List.not_mem_nil, or_false] at hm
      rcases hm with rfl | rfl | rfl | rfl | rfl | rfl | rfl
      · exact ⟨.itm (.inl (.inl rfl)), .inr ⟨_, .base .non, NO.sN⟩⟩
      · exact ⟨.itm (.inl (.inr (.inr (.inl ⟨_, rfl, by decide, by decide⟩)))), .inr ⟨_, .base (.int 7), NO.sI⟩⟩
      · refine ⟨.dct k1 (by decide) fun kv m => ?_, .inr ⟨_, .base (.dK k1), NO.sD⟩⟩
        simp only [List.mem_cons, List.not_mem_nil, or_false] at m
        rcases m with rfl | rfl
        · exact ⟨by show (reprText "n").length ≤ 300; decide +kernel, .inr (.inr (.inl ⟨1, rfl, by decide +kernel, by decide +kernel⟩))⟩
        · exact ⟨by show (reprText "m").length ≤ 300; decide +kernel, .inr (.inr (.inl ⟨2, rfl, by decide +kernel, by decide +kernel⟩))⟩
      · exact ⟨.itm (.inl (.inr (.inr (.inr ⟨"n", rfl, by decide +kernel, by decide +kernel, by decide +kernel⟩)))), .inr ⟨_, .base (.str "n"), NO.sS⟩⟩
      · obtain ⟨dx, rl, ul, as, ys, h1, _⟩ := id hf6
        exact ⟨.fac hf6, .inr ⟨_, .base (.ins h1 YF.cl YF.ha YF.hn YF.htk YF.hm), NO.sF⟩⟩
      · exact ⟨.lst k4 k3 kv0.szok (by decide) (by decide), .inr ⟨_, .base (.lst k4), NO.sL⟩⟩
      · exact ⟨.itm (.inl (.inr (.inl ⟨_, rfl⟩))), .inr ⟨_, .base (.bl true), NO.sB⟩⟩
    clear hv hm
    refine ⟨_, rfl, (by show 1 ≤ sizeLine; decide), fun p7 n7 => ?_⟩
    obtain ⟨H7, e, s7, t7⟩ := one (.lst [v]) n7
    rw [← e]
    clear e
    have K07 : Kp b H H7 := K06.trans (Kp.same s7)
    have B7 := B6.same s7
    have hN7 := K07 _ _ nb hN
    have b7 : p7 ≠ b := B6.new n7
    have okn : ∀ z ∈ names, PyData.strOk z = true ∧ nameS z = true ∧ Sm 20 z := by
      have o1 : PyData.strOk "n" = true ∧ nameS "n" = true ∧ Sm 20 "n" := ⟨by decide +kernel, by decide +kernel, by decide +kernel, by decide +kernel⟩
      have o2 : PyData.strOk "m" = true ∧ nameS "m" = true ∧ Sm 20 "m" := ⟨by decide +kernel, by decide +kernel, by decide +kernel, by decide +kernel⟩
      intro z hz
      rcases hnm.1 with rfl | rfl | rfl
      · exact nomatch hz
      · rw [List.mem_singleton.mp hz]
        exact o1
      · rcases List.mem_cons.mp hz with e | e
        · rw [e]
          exact o2
        · rw [List.mem_singleton.mp e]
          exact o1
    have ln : names.length ≤ 2 := by
      rcases hnm.1 with rfl | rfl | rfl <;> decide
    -- what follows behind the names
    generalize hT : tSeq (tFor (iList _ (tVar 4)) _ _) _ = TR
    have rest : ∀ (G : Hp) (m : Nat) (l : List V) (x5 x6 : Option V), (∀ p o, p ≠ b → p ≠ p7 → H7 p = some o → G p = some o) → Bx G b m → m ≤ n + 3 → G p7 = some (.lst l) → (∀ u ∈ l, Ask0 K C F S rws G u) → l.length ≤ 5 → TR { nx := fun _ H' => Q .non H', rt := Q } [some (.ref b), some (.ref f), some (.ref nl), some v, some (.ref p7), x5, x6, none, none, none, none, none, none, none] G := by
      intro G m l x5 x6 keep BG hm hl hA ll
      rw [← hT]
      clear hT
      have K6G : Kp b H6 G := fun p o nb e => keep p o nb (ne_of_none e n7) (s7 _ _ e)
      have hfG : Fac F C G f rws := hf6.kp B6 K6G
      have hNG := K6G _ _ nb (K06 _ _ nb hN)
      refine ⟨_, rfl, p7, rfl, ⟨_, SqL.of hl⟩, for_list (K := K) (a := p7) (xs := l) (fun j σ H' => ∃ x7 : Option V, σ = [some (.ref b), some (.ref f), some (.ref nl), some v, some (.ref p7), x5, x6, x7, none, none, none, none, none, none] ∧ Same G H') ⟨_, rfl, Same.refl G⟩ (fun j σ H' _ ⟨_, _, s⟩ => SqL.of (s _ _ hl)) ?_ ?_⟩
      · rintro j u σ H8 hu ⟨x7, rfl, s8⟩
        generalize hDE : ({ nx := _, rt := _, bk := _, ct := _ } : Ends) = DE
        have enx : ∀ σ' H', (∃ x7 : Option V, σ' = [some (.ref b), some (.ref f), some (.ref nl), some v, some (.ref p7), x5, x6, x7, none, none, none, none, none, none] ∧ Same G H') → DE.nx σ' H' := fun σ' H' h => by
          rw [← hDE]
          exact h
        clear hDE
        have AU : Ask0 K C F S rws H8 u := (hA u (List.mem_of_getElem? hu)).same s8
        have hf8 : Fac F C H8 f rws := hfG.same s8
        obtain ⟨t, ht⟩ := Thing.text (X := (cxOf CX0 P w K mg base NTh "_law_things_right" (defScope sThings) f_ cdv A outer s H E).nox) (w := "setting") SH (by decide +kernel) AU.1
        refine ⟨_, rfl, _, rfl, f, 0, u, rws, rfl, hf8, .inl ⟨rfl, AU.2, fun p9 H9 s9 np9 hp9 => ht H9 p9 _ s9 np9 hp9 fun H10 s10 => ⟨_, rfl, (by show 2 ≤ sizeLine; decide), fun p11 n11 => ht _ p11 _ ((s9.trans s10).trans (same_nw n11)) ((s9.trans s10).free n11) upd_same fun H12 s12 => ⟨rfl, _, rfl, ?_⟩⟩⟩⟩
        rw [ne_not9]
        refine iteF ?_
        exact enx _ _ ⟨_, rfl, s8.trans (((s9.trans s10).trans (same_nw n11)).trans s12)⟩
      · rintro σ H8 ⟨x7, rfl, s8⟩
        -- far names
        refine ⟨(by show 3 ≤ sizeLine; decide), fun p20 n20 => ?_⟩
        obtain ⟨H20, e, s20, t20⟩ := one (.lst (abcL.map V.str)) n20
        rw [show upd H8 p20 (.lst [V.str "a", V.str "b", V.str "c"]) = H20 from e.symm]
        clear e
        refine ⟨p20, rfl, ⟨_, SqL.of t20⟩, fun D3 nD3 => ?_⟩
        have oldD3 : ∀ p o, H20 p = some o → p ≠ D3 := fun p o e => ne_of_none e nD3
        refine lc_it (walk_list (xs := abcL.map V.str)) (fun i H' => (∀ p o, p ≠ D3 → H20 p = some o → H' p = some o) ∧ H' D3 = some (.lst ((abcL.take i).map V.str)))
          ⟨fun p o n e => by rw [upd_ne n]; exact e, upd_same⟩ (fun i H' _ h => SqL.of (h.1 _ _ (oldD3 _ _ t20) t20)) ?_ ?_
        · rintro i2 x G1 G2 hi2 ⟨keep2, hD3⟩ ⟨rfl, hx⟩
          rw [List.getElem?_map] at hx
          obtain ⟨z0, hz0, rfl⟩ := Option.map_eq_some_iff.mp hx
          have tk : abcL.take (i2 + 1) = abcL.take i2 ++ [z0] := by rw [List.take_succ, hz0]; rfl
          have li : i2 < 3 := (List.getElem?_eq_some_iff.mp hz0).1
          refine ⟨rfl, yesT ?_⟩
          refine ⟨_, rfl, _, hD3, ?_, fun p o n e => by rw [upd_ne n]; exact keep2 p o n e, ?_⟩
          · rw [List.length_map, List.length_take]
            omega
          · rw [upd_same, tk, List.map_append]
            rfl
        rintro H21 ⟨keep2, hD3⟩
        have hD3 : H21 D3 = some (.lst (abcL.map V.str)) := hD3
        have s2021 : Same H20 H21 := fun p o e => keep2 p o (oldD3 p o e) e
        have s821 := s20.trans s2021
        have hN21 := s821 _ _ (s8 _ _ hNG)
        clear keep2 oldD3 nD3
        have BG8 : Bx H8 b m := BG.same s8
        have hf8 : Fac F C H8 f rws := hfG.same s8
        generalize hT2 : tSeq (tAsg _ (gName 11)) _ = TR2
        have rest2 : ∀ (G2 : Hp) (wd : Addr) (rws2 : List Row) (x8 x9 : Option V), Same H8 G2 → Fac F C G2 wd rws2 → (names ≠ [] → ∀ ys, Unk (plsOf (rws ++ rws2)) ys → ¬ ys.length ≤ 2) → rws2.length ≤ 2 →
            TR2 { nx := fun _ H' => Q .non H', rt := Q } [some (.ref b), some (.ref f), some (.ref nl), some v, some (.ref p7), x5, x6, x7, x8, x9, some (.ref wd), none, none, none] G2 := by
          intro G2 wd rws2 x8 x9 s2 hw more lw
          rw [← hT2]
          clear hT2
          have s2G := s8.trans s2
          have BG2 : Bx G2 b m := BG8.same s2
          have hNG2 := s2G _ _ hNG
          have hfG2 := hf8.same s2
          refine ⟨(by show 2 ≤ sizeLine; decide), fun p30 n30 => ?_⟩
          obtain ⟨H30, e, s30, t30⟩ := one (.tup [V.str "page", V.str "n"]) n30
          rw [← e]
          clear e
          refine ⟨(by show 0 ≤ sizeLine; decide), fun p31 n31 => ?_⟩
          obtain ⟨H31, e, s31, t31⟩ := one (.lst []) n31
          rw [← e]
          clear e
          refine fun p32 n32 => ?_
          obtain ⟨H32, e, s32, t32⟩ := one (.dK []) n32
          rw [← e]
          clear e
          refine mk_set9 (kvs := []) kv0 t32 fun x33 H33 s33 n33 t33 => ?_
          refine ⟨(by show 5 ≤ sizeLine; decide), fun p34 n34 => ?_⟩
          obtain ⟨H34, e, s34, t34⟩ := one (.lst [V.non, V.int 7, V.ref p30, V.ref p31, V.ref x33]) n34
          rw [← e]
          clear e
          have s3034 := s30.trans (s31.trans (s32.trans (s33.trans s34)))
          have B34 := BG2.same s3034
          refine ⟨_, rfl, b, m, 5, rfl, B34, by omega, by decide, by decide, fun r35 H35 r350 r351 B35 K35 => ?_⟩
          obtain ⟨jv, hjv, hjm⟩ := atI_in (l := [V.non, V.int 7, V.ref p30, V.ref p31, V.ref x33]) r350 r351
          refine ⟨p34, _, _, _, rfl, rfl, SqL.of (K35 _ _ ((BG2.same (s30.trans (s31.trans (s32.trans s33)))).new n34) t34), hjv, ?_⟩
          have KG35 : Kp b G2 H35 := (Kp.same s3034).trans K35
          have AJ : Ask1 K C F S rws H35 jv := by
            have k30 := K35 _ _ (BG2.new n30) (s34 _ _ (s33 _ _ (s32 _ _ (s31 _ _ t30))))
            have k31 := K35 _ _ ((BG2.same s30).new n31) (s34 _ _ (s33 _ _ (s32 _ _ t31)))
            have k33 : Stg S H35 x33 [] 32 := (t33.same s34).kp B34 K35
            obtain ⟨dx, d, k33a, k33b⟩ := id k33
            have ff : ∀ x ∈ [V.str "page", V.str "n"], FlatOk x := fa_cons (.inr (.inr (.inr ⟨"page", rfl, by decide +kernel, by decide +kernel, by decide +kernel⟩))) (fa_cons (.inr (.inr (.inr ⟨"n", rfl, by decide +kernel, by decide +kernel, by decide +kernel⟩))) (fun v m => nomatch m))
            simp only [List.mem_cons, List.not_mem_nil, or_false] at hjm
            rcases hjm with rfl | rfl | rfl | rfl | rfl
            · exact ⟨.itm (.inl (.inl rfl)), .inr ⟨_, .base .non, NO.fN⟩, .inl ⟨_, .base .non, NO.rN⟩⟩
            · exact ⟨.itm (.inl (.inr (.inr (.inl ⟨_, rfl, by decide, by decide⟩)))), .inr ⟨_, .base (.int 7), NO.fI⟩, .inl ⟨_, .base (.int 7), NO.rI⟩⟩
            · exact ⟨.itm (.inr ⟨_, _, rfl, .inr k30, ff, by decide⟩), .inr ⟨_, .base (.tup k30), NO.fT⟩, .inl ⟨_, .base (.tup k30), NO.rT⟩⟩
            · exact ⟨.itm (.inr ⟨_, _, rfl, .inl k31, (fun v m => nomatch m), by decide⟩), .inr ⟨_, .base (.lst k31), NO.fL⟩, .inl ⟨_, .base (.lst k31), NO.rL⟩⟩
            · exact ⟨.stg k33 kv0.szok (by decide) (by decide), .inr ⟨_, .base (.ins k33a YS.cl YS.ha YS.hn YS.htk YS.hm), NO.fS⟩, .inr (.inr ⟨S, .base (.ins k33a YS.cl YS.ha YS.hn YS.htk YS.hm), NO.mS⟩)⟩
          clear hjv hjm
          have hw35 : Fac F C H35 wd rws2 := hw.kp BG2 KG35
          have hf35 : Fac F C H35 f rws := hfG2.kp BG2 KG35
          have hN35 := KG35 _ _ nb hNG2
          have KH35 : Kp b H H35 := (K06.trans K6G).trans ((Kp.same s2G).trans KG35)
          generalize hT3 : tSeq (tFor (iList _ (tVar 12)) _ _) _ = TR3
          have rest3 : ∀ (G3 : Hp) (pl : Addr) (l2 : List V), Same H35 G3 → G3 pl = some (.lst l2) → (∀ u ∈ l2, Ask1 K C F S rws G3 u) →
              TR3 { nx := fun _ H' => Q .non H', rt := Q } [some (.ref b), some (.ref f), some (.ref nl), some v, some (.ref p7), x5, x6, x7, x8, x9, some (.ref wd), some jv, some (.ref pl), none] G3 := by
            intro G3 pl l2 s35 hpl hA2
            rw [← hT3]
            clear hT3
            refine ⟨_, rfl, pl, rfl, ⟨_, SqL.of hpl⟩, for_list (K := K) (a := pl) (xs := l2) (fun j σ H' => ∃ x7 : Option V, σ = [some (.ref b), some (.ref f), some (.ref nl), some v, some (.ref p7), x5, x6, x7, x8, x9, some (.ref wd), some jv, some (.ref pl), none] ∧ Same G3 H') ⟨_, rfl, Same.refl G3⟩ (fun j σ H' _ ⟨_, _, s⟩ => SqL.of (s _ _ hpl)) ?_ ?_⟩
            · rintro j u σ H40 hu ⟨x7, rfl, s40⟩
              generalize hDE : ({ nx := _, rt := _, bk := _, ct := _ } : Ends) = DE
              have enx : ∀ σ' H', (∃ x7 : Option V, σ' = [some (.ref b), some (.ref f), some (.ref nl), some v, some (.ref p7), x5, x6, x7, x8, x9, some (.ref wd), some jv, some (.ref pl), none] ∧ Same G3 H') → DE.nx σ' H' := fun σ' H' h => by
                rw [← hDE]
                exact h
              clear hDE
              have AU : Ask1 K C F S rws H40 u := (hA2 u (List.mem_of_getElem? hu)).same s40
              obtain ⟨t, ht⟩ := Thing.text (X := (cxOf CX0 P w K mg base NTh "_law_things_right" (defScope sThings) f_ cdv A outer s H E).nox) (w := "facts") SH (by decide +kernel) AU.1
              refine ⟨_, rfl, _, rfl, f, 1, u, rws, rfl, (hf35.same s35).same s40, .inr ⟨rfl, AU.2.1, AU.2.2, fun p9 H9 s9 np9 hp9 => ht H9 p9 _ s9 np9 hp9 fun H10 s10 => ⟨_, rfl, (by show 2 ≤ sizeLine; decide), fun p11 n11 => ht _ p11 _ ((s9.trans s10).trans (same_nw n11)) ((s9.trans s10).free n11) upd_same fun H12 s12 => ⟨rfl, _, rfl, ?_⟩⟩⟩⟩
              rw [ne_not9]
              refine iteF ?_
              exact enx _ _ ⟨_, rfl, s40.trans (((s9.trans s10).trans (same_nw n11)).trans s12)⟩
            · rintro σ H40 ⟨x7, rfl, s40⟩
              have s3540 := s35.trans s40
              exact q H40 (KH35.trans (Kp.same s3540)) ((B35.same s3540).more (by omega))
          refine ⟨_, rfl, (by show 0 ≤ sizeLine; decide), fun p36 n36 => ?_⟩
          obtain ⟨H36, e, s36, t36⟩ := one (.lst []) n36
          rw [← e]
          clear e
          refine ⟨.list (names.map PyData.str), .list [], .lst (SqL.of (s36 _ _ hN35)) (dp_strs names), .lst (SqL.of t36) .nil, shaped_strs names (fun z hz => (okn z hz).1), by decide +kernel, _, rfl, ?_⟩
          by_cases en : names = []
          · subst en
            refine iteF ⟨_, rfl, (by show 1 ≤ sizeLine; decide), fun p37 n37 => ?_⟩
            have s37 := s36.trans (same_nw (o := .lst [jv]) n37)
            exact rest3 _ p37 [jv] s37 upd_same fun u hu => by
              rw [List.mem_singleton.mp hu]
              exact AJ.same s37
          have ne : (!PyData.eqv (.list (names.map PyData.str)) (.list [])) = true := by
            cases names with
            | nil => exact absurd rfl en
            | cons z l => rfl
          rw [ne]
          refine iteT ⟨_, rfl, _, rfl, (by show 2 ≤ sizeLine; decide), fun p37 n37 => ?_⟩
          have s37 := s36.trans (same_nw (o := .lst [jv, V.ref wd]) n37)
          refine rest3 _ p37 [jv, V.ref wd] s37 upd_same fun u hu => ?_
          rcases List.mem_cons.mp hu with e | hu
          · rw [e]
            exact AJ.same s37
          · rw [List.mem_singleton.mp hu]
            obtain ⟨dx, rl, ul, as, ys, h1, _⟩ := id (hw35.same s37)
            exact ⟨.fac (hw35.same s37), .inl ⟨wd, rws2, rfl, hw35.same s37, by
              rw [List.length_append]
              have := hnm.2.2
              omega, more en⟩, .inr (.inl (.base (.ins h1 YF.cl YF.ha YF.hn YF.htk YF.hm)))⟩
        refine ⟨_, rfl, nl, _, rfl, .inl (SqL.of hN21), _, _, rfl, rfl, _, rfl, D3, _, rfl, SqL.of hD3, fun p22 n22 => ?_⟩
        have hfar : ∃ far : List Str, cutV (abcL.map V.str) none (some (3 - (((names.map V.str).length : Nat) : Int))) = far.map V.str ∧ far.length ≤ 3 ∧ (∀ z ∈ far, z ∈ abcL) ∧ (names = [] ∧ far = abcL ∨ names = [("n" : Str)] ∧ far = [("a" : Str), ("b" : Str)] ∨ names = [("m" : Str), ("n" : Str)] ∧ far = [("a" : Str)]) := by
          rcases hnm.1 with e | e | e
          · rw [e]
            exact ⟨abcL, rfl, by decide, fun z h => h, .inl ⟨rfl, rfl⟩⟩
          · rw [e]
            exact ⟨[("a" : Str), ("b" : Str)], rfl, by decide, fun z h => by
              rcases List.mem_cons.mp h with e | h
              · rw [e]
                exact List.mem_cons_self
              · rw [List.mem_singleton.mp h]
                exact List.mem_cons_of_mem _ List.mem_cons_self, .inr (.inl ⟨rfl, rfl⟩)⟩
          · rw [e]
            exact ⟨[("a" : Str)], rfl, by decide, fun z h => by
              rw [List.mem_singleton.mp h]
              exact List.mem_cons_self, .inr (.inr ⟨rfl, rfl⟩)⟩
        obtain ⟨far, ecut, lfar, farin, hcase⟩ := hfar
        rw [ecut]
        obtain ⟨H22, e, s22, t22⟩ := one (.lst (far.map V.str)) n22
        rw [← e]
        clear e
        refine ⟨_, rfl, p22, rfl, ⟨_, SqL.of t22⟩, fun D4 nD4 => ?_⟩
        have oldD4 : ∀ p o, H22 p = some o → p ≠ D4 := fun p o e => ne_of_none e nD4
        refine lc_it (walk_list (xs := far.map V.str)) (fun i H' => (∀ p o, p ≠ D4 → H22 p = some o → H' p = some o) ∧ ∃ qs : List Addr, H' D4 = some (.lst (qs.map V.ref)) ∧ Lk (fun (q : Addr) (z : Str) => H' q = some (.tup [.str "page", .str z])) qs (far.take i))
          ⟨fun p o n e => by rw [upd_ne n]; exact e, [], upd_same, by rw [List.take_zero]; exact .nil⟩ (fun i H' _ h => SqL.of (h.1 _ _ (oldD4 _ _ t22) t22)) ?_ ?_
        · rintro i2 x G1 G2 hi2 ⟨keep2, qs, hD5, lq⟩ ⟨rfl, hx⟩
          rw [List.getElem?_map] at hx
          obtain ⟨z0, hz0, rfl⟩ := Option.map_eq_some_iff.mp hx
          have tk : far.take (i2 + 1) = far.take i2 ++ [z0] := by rw [List.take_succ, hz0]; rfl
          have llq := lq.length
          rw [List.length_take] at llq
          refine ⟨rfl, yesT ?_⟩
          unfold tW
          refine ⟨_, rfl, (by show 2 ≤ sizeLine; decide), fun t nt => ?_⟩
          have s4 : Same G2 (upd G2 t (.tup [.str "page", .str z0])) := same_nw nt
          have t4 : upd G2 t (.tup [.str "page", .str z0]) t = some (.tup [.str "page", .str z0]) := upd_same
          generalize upd G2 t (.tup [.str "page", .str z0]) = G3 at s4 t4
          have hD4 := s4 _ _ hD5
          have up : ∀ {q : Addr} {z : Str} {l2 : List V}, G3 q = some (.tup [.str "page", .str z]) → upd G3 D4 (.lst l2) q = some (.tup [.str "page", .str z]) := fun {q z l2} e => by
            rw [upd_ne (fun x => by rw [x, hD4] at e; cases e)]
            exact e
          refine ⟨_, hD4, ?_, fun p o n e => by rw [upd_ne n]; exact s4 _ _ (keep2 p o n e), qs ++ [t], by rw [upd_same, List.map_append]; rfl, ?_⟩
          · rw [List.length_map]
            omega
          · rw [tk]
            exact (lq.imp fun _ _ x => up (s4 _ _ x)).append (Lk.one (up t4))
        rintro H23 ⟨keep2, qs, hD4, lq⟩
        rw [List.length_map, List.take_of_length_le (by omega)] at lq
        have s2223 : Same H22 H23 := fun p o e => keep2 p o (oldD4 p o e) e
        have s823 := s821.trans (s22.trans s2223)
        clear keep2 oldD4 nD4 ecut
        have okR : ∀ z : Str, z ∈ far → nameS z = true ∧ Sm 20 z ∧ partsS z = some (z, 0) := fun _ h => far_ok _ (farin _ h)
        match far, qs, lq, hcase, okR, hD4 with
        | [], _, _, hcase, _, _ => rcases hcase with ⟨_, e⟩ | ⟨_, e⟩ | ⟨_, e⟩ <;> exact nomatch e
        | z0 :: far2, q0 :: qs2, .cons g0 lq2, hcase, okR, hD4 =>
        have i0 : atI ((q0 :: qs2).map V.ref) (0 : Int) = some (.ref q0) := atI_nat (xs := (q0 :: qs2).map V.ref) (j := 0) rfl
        refine ⟨_, rfl, D4, _, _, _, rfl, rfl, SqL.of hD4, i0, ?_⟩
        refine mk_factsA (as := [q0]) (rws := [pgR z0]) (Lk.one (page_row N g0 (okR _ List.mem_cons_self))) (by show 1 ≤ 20; decide) (two_few (D := [z0]) (fun p hp => by
          rw [List.mem_singleton.mp hp]
          exact List.mem_cons_self) (by show 1 ≤ 2; decide)) fun w1 H24 s24 n24 F24 => ?_
        have s824 := s823.trans s24
        have hD424 := s24 _ _ hD4
        have inn : ∀ z ∈ names, z ≠ "" ∧ ∃ k, (z, k) ∈ plsOf rws := fun z hz => by
          refine ⟨?_, hnm.2.1 z hz⟩
          rcases hnm.1 with e | e | e
          · rw [e] at hz
            exact nomatch hz
          · rw [e] at hz
            rw [List.mem_singleton.mp hz]
            decide +kernel
          · rw [e] at hz
            rcases List.mem_cons.mp hz with e | e
            · rw [e]
              decide +kernel
            · rw [List.mem_singleton.mp e]
              decide +kernel
        rcases hcase with ⟨en, ef⟩ | ⟨en, ef⟩ | ⟨en, ef⟩
        · cases ef
          match qs2, lq2, hD424 with
          | [q1, q2], .cons g1 (.cons g2 .nil), hD424 =>
          refine ⟨_, rfl, D4, _, rfl, .inl (SqL.of hD424), rfl, _, rfl, iteF ?_⟩
          exact rest2 H24 w1 _ _ _ s824 F24 (fun h => absurd en h) (by show 1 ≤ 2; decide)
        · cases ef
          match qs2, lq2, hD424 with
          | [q1], .cons g1 .nil, hD424 =>
          refine ⟨_, rfl, D4, _, rfl, .inl (SqL.of hD424), rfl, _, rfl, iteT ?_⟩
          have j0 : atI ([q0, q1].map V.ref) (0 : Int) = some (.ref q0) := rfl
          have j1 : atI ([q0, q1].map V.ref) (1 : Int) = some (.ref q1) := rfl
          refine ⟨_, rfl, D4, _, _, _, rfl, rfl, SqL.of hD424, j0, ?_⟩
          refine ⟨_, rfl, D4, _, _, _, rfl, rfl, SqL.of hD424, j1, ?_⟩
          refine mk_factsA (as := [q0, q1]) (rws := [pgR ("a" : Str), pgR ("b" : Str)]) (.cons (page_row N (s24 _ _ g0) (okR _ List.mem_cons_self)) (Lk.one (page_row N (s24 _ _ g1) (okR _ (List.mem_cons_of_mem _ List.mem_cons_self))))) (by show 2 ≤ 20; decide) (two_few (D := [("a" : Str), ("b" : Str)]) (fun p hp => by
            rcases List.mem_cons.mp hp with e | hp
            · rw [e]
              exact List.mem_cons_self
            · rw [List.mem_singleton.mp hp]
              exact List.mem_cons_of_mem _ List.mem_cons_self) (by show 2 ≤ 2; decide)) fun w2 H25 s25 n25 F25 => ?_
          refine rest2 H25 w2 _ _ _ (s824.trans s25) F25 (fun _ => too_many (D := [("n" : Str), ("a" : Str), ("b" : Str)]) (fun z hz => ?_) (by decide +kernel) (by show 3 ≤ 3; decide)) (by show 2 ≤ 2; decide)
          rcases List.mem_cons.mp hz with e | hz
          · rw [e]
            obtain ⟨h1, k, h2⟩ := inn ("n" : Str) (by rw [en]; exact List.mem_cons_self)
            exact ⟨h1, k, pls_app.mpr (.inl h2)⟩
          · rcases List.mem_cons.mp hz with e | hz
            · rw [e]
              exact ⟨by decide +kernel, 0, pls_app.mpr (.inr List.mem_cons_self)⟩
            · rw [List.mem_singleton.mp hz]
              exact ⟨by decide +kernel, 0, pls_app.mpr (.inr (List.mem_cons_of_mem _ List.mem_cons_self))⟩
        · cases ef
          match qs2, lq2, hD424 with
          | [], .nil, hD424 =>
          refine ⟨_, rfl, D4, _, rfl, .inl (SqL.of hD424), rfl, _, rfl, iteF ?_⟩
          refine rest2 H24 w1 _ _ _ s824 F24 (fun _ => too_many (D := [("m" : Str), ("n" : Str), ("a" : Str)]) (fun z hz => ?_) (by decide +kernel) (by show 3 ≤ 3; decide)) (by show 1 ≤ 2; decide)
          rcases List.mem_cons.mp hz with e | hz
          · rw [e]
            obtain ⟨h1, k, h2⟩ := inn ("m" : Str) (by rw [en]; exact List.mem_cons_self)
            exact ⟨h1, k, pls_app.mpr (.inl h2)⟩
          · rcases List.mem_cons.mp hz with e | hz
            · rw [e]
              obtain ⟨h1, k, h2⟩ := inn ("n" : Str) (by rw [en]; exact List.mem_cons_of_mem _ List.mem_cons_self)
              exact ⟨h1, k, pls_app.mpr (.inl h2)⟩
            · rw [List.mem_singleton.mp hz]
              exact ⟨by decide +kernel, 0, pls_app.mpr (.inr List.mem_cons_self)⟩
    refine ⟨_, rfl, (by show 0 ≤ sizeLine; decide), fun p8 n8 => ?_⟩
    obtain ⟨H8, e, s8, t8⟩ := one (.lst []) n8
    rw [← e]
    clear e
    have hN8 := s8 _ _ hN7
    have B8 := B7.same s8
    refine ⟨.list (names.map PyData.str), .list [], .lst (SqL.of hN8) (dp_strs names), .lst (SqL.of t8) .nil, shaped_strs names (fun z hz => (okn z hz).1), by decide +kernel, _, rfl, ?_⟩
    by_cases en : names = []
    · subst en
      exact iteF (rest H8 (n + 1) [v] _ _ (fun p o _ _ e => s8 p o e) B8 (by omega) (s8 _ _ t7) (fun u hu => by
        rw [List.mem_singleton.mp hu]
        exact (A6.same s7).same s8) (by show 1 ≤ 5; decide))
    have ne : (!PyData.eqv (.list (names.map PyData.str)) (.list [])) = true := by
      cases names with
      | nil => exact absurd rfl en
      | cons z l => rfl
    rw [ne]
    refine iteT ?_
    have lp : 1 ≤ names.length := by
      cases names with
      | nil => exact absurd rfl en
      | cons z l => exact Nat.succ_le_succ (Nat.zero_le _)
    have lmap : (names.map V.str).length = names.length := List.length_map _
    refine ⟨_, rfl, _, rfl, _, rfl, nl, _, rfl, .inl (SqL.of hN8), b, n + 1, _, rfl, B8, by omega, by rw [lmap]; omega, by rw [lmap]; omega, fun r9 H9 r90 r91 B9 K9 => ?_⟩
    obtain ⟨gv, hgv, hgm⟩ := atI_in (l := names.map V.str) r90 r91
    obtain ⟨g, hgn, rfl⟩ := List.mem_map.mp hgm
    clear hgm
    have K79 : Kp b H7 H9 := (Kp.same s8).trans K9
    have hN9 := K9 _ _ nb hN8
    refine ⟨nl, _, _, _, rfl, rfl, SqL.of hN9, hgv, ?_⟩
    clear hgv
    -- the names without one
    refine ⟨_, rfl, nl, rfl, ⟨_, SqL.of hN9⟩, fun D nD => ?_⟩
    have oldD : ∀ p o, H9 p = some o → p ≠ D := fun p o e => ne_of_none e nD
    refine lc_it (walk_list (xs := names.map V.str)) (fun i H' => (∀ p o, p ≠ D → H9 p = some o → H' p = some o) ∧ H' D = some (.lst (((names.take i).filter fun z : Str => decide (z ≠ g)).map V.str)))
      ⟨fun p o n e => by rw [upd_ne n]; exact e, upd_same⟩ (fun i H' _ h => SqL.of (h.1 _ _ (oldD _ _ hN9) hN9)) ?_ ?_
    · rintro i2 x G1 G2 hi2 ⟨keep, hD3⟩ ⟨rfl, hx⟩
      rw [List.getElem?_map] at hx
      obtain ⟨z0, hz0, rfl⟩ := Option.map_eq_some_iff.mp hx
      have tk : names.take (i2 + 1) = names.take i2 ++ [z0] := by rw [List.take_succ, hz0]; rfl
      have lf : ((names.take i2).filter fun z : Str => decide (z ≠ g)).length ≤ 10 := by
        refine Nat.le_trans (List.length_filter_le _ _) ?_
        rw [List.length_take]
        omega
      refine ⟨rfl, ?_⟩
      refine ⟨_, rfl, _, rfl, rfl, _, rfl, ?_⟩
      by_cases ez : z0 = g
      · rw [show (!decide (V.str z0 = V.str g)) = false by rw [ez, decide_eq_true rfl]; rfl]
        show if (false = true) then _ else _
        rw [if_neg Bool.false_ne_true]
        refine ⟨keep, ?_⟩
        rw [ez] at tk
        rw [tk, List.filter_append, List.map_append]
        simp only [List.filter_cons, List.filter_nil]
        simpa using hD3
      · rw [show (!decide (V.str z0 = V.str g)) = true by rw [decide_eq_false (fun x => ez (V.str.inj x))]; rfl]
        refine iteT ⟨_, rfl, _, hD3, ?_, fun p o n e => by rw [upd_ne n]; exact keep p o n e, ?_⟩
        · rw [List.length_map]
          omega
        · rw [upd_same, tk, List.filter_append, List.map_append]
          have : ([z0] : List Str).filter (fun z : Str => decide (z ≠ g)) = [z0] := by
            rw [List.filter_cons, if_pos (decide_eq_true ez)]
            rfl
          rw [this]
          rfl
    rintro H10 ⟨keep, hD⟩
    rw [List.length_map, List.take_of_length_le (by omega)] at hD
    have s910 : Same H9 H10 := fun p o e => keep p o (oldD p o e) e
    generalize hless : (names.filter fun z : Str => decide (z ≠ g)) = less at hD
    have lless : less.length ≤ 2 := by
      rw [← hless]
      exact Nat.le_trans (List.length_filter_le _ _) ln
    have lg : g ∉ less := fun m => by
      rw [← hless] at m
      exact absurd rfl (of_decide_eq_true (List.mem_filter.mp m).2)
    have lsub : ∀ z ∈ less, z ∈ names := fun z m => by
      rw [← hless] at m
      exact (List.mem_filter.mp m).1
    have lless1 : less.length ≤ 1 := by
      have : less.length < names.length := by
        rw [← hless]
        exact List.length_filter_lt_length_iff_exists.mpr ⟨g, hgn, by simp⟩
      omega
    clear keep oldD nD
    have gne : g ≠ "" ∧ g ≠ "zz" := by
      rcases hnm.1 with rfl | rfl | rfl
      · exact nomatch hgn
      · rw [List.mem_singleton.mp hgn]
        exact ⟨by decide +kernel, by decide +kernel⟩
      · rcases List.mem_cons.mp hgn with e | e
        · rw [e]
          exact ⟨by decide +kernel, by decide +kernel⟩
        · rw [List.mem_singleton.mp e]
          exact ⟨by decide +kernel, by decide +kernel⟩
    have lack : ∀ kvs : List (Key × V), valV kvs (.inr g) = none → hasAll kvs rws = false := fun kvs h => by
      obtain ⟨k, hk⟩ := hnm.2.1 g hgn
      unfold hasAll
      rw [List.all_eq_false]
      refine ⟨_, hk, ?_⟩
      show ¬ (decide (g = "") || (valV kvs (.inr g)).isSome) = true
      rw [decide_eq_false gne.1, h]
      decide
    have hkvs : ∃ ks : List (Key × V), mergeK [] ((less ++ [("zz" : Str)]).map fun z : Str => ((.inr z, .int 5) : Key × V)) = ks ∧ Kv9 ks ∧ valV ks (.inr g) = none := by
      have kz : nameS "zz" = true ∧ Sm 20 "zz" := ⟨by decide +kernel, by decide +kernel, by decide +kernel⟩
      have v0 : ∀ z : Str, g ≠ z → valV [((.inr z, .int 5) : Key × V)] (.inr g) = none := fun z h => by
        unfold valV
        rw [List.find?_cons, decide_eq_false (fun e => h (Sum.inr.inj e).symm)]
        rfl
      cases less with
      | nil =>
        refine ⟨[(.inr "zz", .int 5)], rfl, ⟨by decide, fun kv m => ?_⟩, v0 "zz" gne.2⟩
        rw [List.mem_singleton.mp m]
        exact ⟨"zz", 5, rfl, kz.1, kz.2, by decide, by decide⟩
      | cons z l =>
        cases l with
        | cons y l => exact absurd lless1 (by simp)
        | nil =>
          have hz := okn z (lsub z List.mem_cons_self)
          have nz : z ≠ "zz" := by
            have hz2 := lsub z List.mem_cons_self
            rcases hnm.1 with e | e | e
            · exact absurd e en
            · rw [e] at hz2
              rw [List.mem_singleton.mp hz2]
              decide +kernel
            · rw [e] at hz2
              rcases List.mem_cons.mp hz2 with e | e
              · rw [e]
                decide +kernel
              · rw [List.mem_singleton.mp e]
                decide +kernel
          have gz : g ≠ z := fun e => lg (by rw [e]; exact List.mem_cons_self)
          refine ⟨[(.inr z, .int 5), (.inr "zz", .int 5)], ?_, ⟨by show 2 ≤ 2; decide, fun kv m => ?_⟩, ?_⟩
          · show putK [((.inr z, .int 5) : Key × V)] (.inr "zz") (.int 5) = _
            unfold putK
            have f : ([((.inr z, .int 5) : Key × V)].any fun kv => decide (kv.1 = (.inr "zz" : Key))) = false := by
              show (decide ((.inr z : Key) = .inr "zz") || false) = false
              rw [decide_eq_false (fun e => nz (Sum.inr.inj e))]
              rfl
            rw [f]
            rfl
          · rcases List.mem_cons.mp m with e | e
            · rw [e]
              exact ⟨z, 5, rfl, hz.2.1, hz.2.2, by decide, by decide⟩
            · rw [List.mem_singleton.mp e]
              exact ⟨"zz", 5, rfl, kz.1, kz.2, by decide, by decide⟩
          · unfold valV
            rw [List.find?_cons, decide_eq_false (fun e => gz (Sum.inr.inj e).symm), List.find?_cons, decide_eq_false (fun e => gne.2 (Sum.inr.inj e).symm)]
            rfl
    obtain ⟨ks, hks, kvk, knone⟩ := hkvs
    have hp710 : H10 p7 = some (.lst [v]) := s910 _ _ (K79 _ _ b7 t7)
    -- a setting that lacks it
    refine ⟨_, rfl, .inl ⟨rfl, _, SqL.of hp710⟩, ?_⟩
    refine ⟨_, rfl, (by show 1 ≤ sizeLine; decide), fun p11 n11 => ?_⟩
    obtain ⟨H11, e, s11, t11⟩ := one (.lst [V.str "zz"]) n11
    rw [← e]
    clear e
    refine ⟨_, _, _, _, rfl, rfl, s11 _ _ hD, t11, by rw [List.length_map]; show less.length + 1 ≤ sizeLine; omega, fun p12 n12 => ?_⟩
    obtain ⟨H12, e, s12, t12⟩ := one (.lst (less.map V.str ++ [V.str "zz"])) n12
    rw [← e]
    clear e
    have e12 : less.map V.str ++ [V.str "zz"] = (less ++ [("zz" : Str)]).map V.str := by
      rw [List.map_append]
      rfl
    rw [e12] at t12
    generalize hls : less ++ [("zz" : Str)] = ls at t12 hks
    have lls : ls.length ≤ 3 := by
      rw [← hls, List.length_append]
      show less.length + 1 ≤ 3
      omega
    refine ⟨p12, rfl, ⟨_, SqL.of t12⟩, fun D2 nD2 => ?_⟩
    have oldD2 : ∀ p o, H12 p = some o → p ≠ D2 := fun p o e => ne_of_none e nD2
    refine lc_it (walk_list (xs := ls.map V.str)) (fun i H' => (∀ p o, p ≠ D2 → H12 p = some o → H' p = some o) ∧ ∃ qs : List Addr, H' D2 = some (.lst (qs.map V.ref)) ∧ Lk (fun (q : Addr) (z : Str) => H' q = some (.tup [.str z, .int 5])) qs (ls.take i))
      ⟨fun p o n e => by rw [upd_ne n]; exact e, [], upd_same, by rw [List.take_zero]; exact .nil⟩ (fun i H' _ h => SqL.of (h.1 _ _ (oldD2 _ _ t12) t12)) ?_ ?_
    · rintro i2 x G1 G2 hi2 ⟨keep, qs, hD3, lq⟩ ⟨rfl, hx⟩
      rw [List.getElem?_map] at hx
      obtain ⟨z0, hz0, rfl⟩ := Option.map_eq_some_iff.mp hx
      have tk : ls.take (i2 + 1) = ls.take i2 ++ [z0] := by rw [List.take_succ, hz0]; rfl
      have llq := lq.length
      rw [List.length_take] at llq
      refine ⟨rfl, yesT ?_⟩
      unfold tW
      refine ⟨_, rfl, (by show 2 ≤ sizeLine; decide), fun t nt => ?_⟩
      have s4 : Same G2 (upd G2 t (.tup [.str z0, .int 5])) := same_nw nt
      have t4 : upd G2 t (.tup [.str z0, .int 5]) t = some (.tup [.str z0, .int 5]) := upd_same
      generalize upd G2 t (.tup [.str z0, .int 5]) = G3 at s4 t4
      have hD4 := s4 _ _ hD3
      have up : ∀ {q : Addr} {z : Str} {l2 : List V}, G3 q = some (.tup [.str z, .int 5]) → upd G3 D2 (.lst l2) q = some (.tup [.str z, .int 5]) := fun {q z l2} e => by
        rw [upd_ne (fun x => by rw [x, hD4] at e; cases e)]
        exact e
      refine ⟨_, hD4, ?_, fun p o n e => by rw [upd_ne n]; exact s4 _ _ (keep p o n e), qs ++ [t], by rw [upd_same, List.map_append]; rfl, ?_⟩
      · rw [List.length_map]
        omega
      · rw [tk]
        exact (lq.imp fun _ _ x => up (s4 _ _ x)).append (Lk.one (up t4))
    rintro H13 ⟨keep, qs, hD2, lq⟩
    rw [List.length_map, List.take_of_length_le (by omega)] at lq
    have s1213 : Same H12 H13 := fun p o e => keep p o (oldD2 p o e) e
    have prd : Paired (fun (p : Addr) (kv : Key × V) => SqT K H13 p [kV kv.1, kv.2]) qs (ls.map fun z : Str => ((.inr z, .int 5) : Key × V)) := by
      clear keep hD2 nD2 lls hks hls t12
      induction lq with
      | nil => exact .nil
      | cons h _ ih => exact .cons (SqT.of h) ih
    refine ⟨D2, qs, _, rfl, SqL.of hD2, prd, fun p14 n14 => ?_⟩
    rw [hks]
    obtain ⟨H14, e, s14, t14⟩ := one (.dK ks) n14
    rw [← e]
    clear e
    have s1014 : Same H10 H14 := s11.trans (s12.trans (s1213.trans s14))
    refine mk_set9 kvk t14 fun st1 H15 s15 nst1 hst1 => ?_
    have s1015 := s1014.trans s15
    have hp715 := s1015 _ _ hp710
    refine ⟨p7, _, _, rfl, rfl, hp715, (by show 1 < sizeLine; decide), ?_⟩
    generalize hG16 : upd H15 p7 (.lst ([v] ++ [V.ref st1])) = H16
    have hp716 : H16 p7 = some (.lst [v, V.ref st1]) := by
      rw [← hG16]
      exact upd_same
    have k16 : ∀ p o, p ≠ p7 → H15 p = some o → H16 p = some o := fun p o np e => by
      rw [← hG16, upd_ne np]
      exact e
    clear hG16
    -- a setting without sizes
    refine ⟨_, rfl, .inl ⟨rfl, _, SqL.of hp716⟩, fun p17 n17 => ?_⟩
    obtain ⟨H17, e, s17, t17⟩ := one (.dK []) n17
    rw [← e]
    clear e
    refine mk_set9 kv0 t17 fun st2 H18 s18 nst2 hst2 => ?_
    have hp718 := s18 _ _ (s17 _ _ hp716)
    refine ⟨p7, _, _, rfl, rfl, hp718, (by show 2 < sizeLine; decide), ?_⟩
    generalize hG19 : upd H18 p7 (.lst ([v, V.ref st1] ++ [V.ref st2])) = H19
    have hp719 : H19 p7 = some (.lst [v, V.ref st1, V.ref st2]) := by
      rw [← hG19]
      exact upd_same
    have k19 : ∀ p o, p ≠ p7 → H18 p = some o → H19 p = some o := fun p o np e => by
      rw [← hG19, upd_ne np]
      exact e
    clear hG19
    have k1519 : ∀ p o, p ≠ p7 → H15 p = some o → H19 p = some o := fun p o np e => k19 p o np (s18 _ _ (s17 _ _ (k16 p o np e)))
    have B18 : Bx H15 b (n + 2) := (((B9.same s910).same s1015))
    have B19 : Bx H19 b (n + 2) := by
      obtain ⟨w1, w2, w3, e, h⟩ := B18
      exact ⟨w1, w2, w3, k1519 _ _ b7.symm e, h⟩
    have n7_ : H6 p7 = none := n7
    have off7 : ∀ {q : Addr} {o : HO}, H15 q = some o → (∀ l, o ≠ .lst l) → q ≠ p7 := fun {q o} e h z => by
      rw [z, hp715] at e
      cases e
      exact h _ rfl
    have stg19 : ∀ {st : Addr} {kvs : List (Key × V)}, Stg S H18 st kvs 32 → Stg S H19 st kvs 32 := fun {st kvs} h => by
      obtain ⟨dx, d, h1, h2⟩ := h
      have o1 : st ≠ p7 := fun z => by
        rw [z, hp718] at h1
        cases h1
      have o2 : d ≠ p7 := fun z => by
        rw [z, hp718] at h2
        cases h2
      exact ⟨dx, d, k19 _ _ o1 h1, k19 _ _ o2 h2⟩
    have stg16 : Stg S H16 st1 ks 32 := by
      obtain ⟨dx, d, h1, h2⟩ := hst1
      exact ⟨dx, d, k16 _ _ (off7 h1 fun _ x => nomatch x) h1, k16 _ _ (off7 h2 fun _ x => nomatch x) h2⟩
    refine rest H19 (n + 2) _ _ _ (fun p o nb np e => k1519 p o np (s1015 _ _ (s910 _ _ (K79 p o nb e)))) B19 (by omega) hp719 (fun u hu => ?_) (by show 3 ≤ 5; decide)
    simp only [List.mem_cons, List.not_mem_nil, or_false] at hu
    rcases hu with rfl | rfl | rfl
    · exact A6.kp B6 fun p o nb e => k1519 p o (ne_of_none e n7) (s1015 _ _ (s910 _ _ (K79 p o nb (s7 _ _ e))))
    · have h := stg19 ((stg16.same s17).same s18)
      exact ⟨.stg h kvk.szok (by decide) (by decide), .inl ⟨st1, ks, 32, rfl, h, lack ks knone⟩⟩
    · have h := stg19 hst2
      exact ⟨.stg h kv0.szok (by decide) (by decide), .inl ⟨st2, [], 32, rfl, h, lack [] rfl⟩⟩

end
end Mz
set_option Elab.async false
set_option linter.all false
set_option maxRecDepth 100000
set_option maxHeartbeats 4000000
/-! what the law compares: what was made of rows, and what was due -/
namespace Mz
open PySem PySem.Spec PyProof.Rows L2
/-- all names that stand in rows -/
def rootsAll (rws : List Row) : List Str := (rws.map rootsR).flatten
theorem flat_roots (rws : List Row) : (rws.map fun rw => (rootsR rw).map V.str).flatten = (rootsAll rws).map V.str := by
  unfold rootsAll
  rw [List.map_flatten, List.map_map]
  rfl
theorem mem_roots {rws : List Row} {z : Str} : z ∈ rootsAll rws ↔ z ≠ "" ∧ ∃ k, (z, k) ∈ plsOf rws := by
  unfold rootsAll plsOf rootsR rootsP
  rw [List.mem_flatten]
  constructor
  · rintro ⟨l, hl, hz⟩
    obtain ⟨rw, hrw, rfl⟩ := List.mem_map.mp hl
    obtain ⟨h1, h2⟩ := List.mem_filter.mp hz
    obtain ⟨p, hp, rfl⟩ := List.mem_map.mp h1
    exact ⟨of_decide_eq_true h2, p.2, List.mem_flatMap.mpr ⟨rw, hrw, hp⟩⟩
  · rintro ⟨h, k, hk⟩
    obtain ⟨rw, hrw, hp⟩ := List.mem_flatMap.mp hk
    exact ⟨_, List.mem_map.mpr ⟨rw, hrw, rfl⟩, List.mem_filter.mpr ⟨List.mem_map.mpr ⟨_, hp, rfl⟩, decide_eq_true h⟩⟩
theorem len_roots : ∀ {rws : List Row}, (∀ rw ∈ rws, RwOk rw) → (rootsAll rws).length ≤ 2 * rws.length
  | [], _ => Nat.le_refl _
  | rw :: rws, h => by
    have h1 := rootsP_len rw.2
    have h2 := (Row.le (h rw List.mem_cons_self)).2
    have h3 := len_roots fun r hr => h r (List.mem_cons_of_mem _ hr)
    show ((rootsR rw :: rws.map rootsR).flatten).length ≤ _
    rw [List.flatten_cons, List.length_append, List.length_cons]
    have h4 : ((rws.map rootsR).flatten).length ≤ 2 * rws.length := h3
    have h5 : (rootsR rw).length ≤ rw.2.length := h1
    omega
theorem row9_ok {C : Addr} {H : Hp} {as : List Addr} {rws : List Row} (h : Lk (Row9 C H) as rws) : ∀ rw ∈ rws, RwOk rw := fun rw hrw => by
  obtain ⟨a, _, items, _, _, h3⟩ := h.memR hrw
  exact h3
/-- lists of names are there -/
theorem roots_at {H : Hp} {bs : List Addr} {rws : List Row} {D : Addr} (lk : Lk (fun (c : Addr) (rw : Row) => c ≠ D ∧ H c = some (.lst ((rootsR rw).map V.str))) bs rws) : ∀ (i : Nat) (b : Addr) (xs : List V), bs[i]? = some b → (rws.map fun rw => (rootsR rw).map V.str)[i]? = some xs → H b = some (.lst xs) := fun i b xs hb hx => by
  obtain ⟨rw, hrw, _, h⟩ := lk.get hb
  rw [List.getElem?_map, hrw] at hx
  cases hx
  exact h
theorem two_by {rws : List Row} {ys : List Str} (nd : ys.Nodup) (mem : ∀ z, z ∈ ys ↔ decide (z ∈ rootsAll rws) = true) (l : ys.length ≤ 2) : Two rws := fun us hU => Nat.le_trans (nodup_sub us ys hU.2.1 fun z hz => (mem z).mpr (decide_eq_true (mem_roots.mpr ((hU.2.2 z).mp hz)))) l
theorem more_by {rws : List Row} {ys : List Str} (nd : ys.Nodup) (mem : ∀ z, z ∈ ys ↔ decide (z ∈ rootsAll rws) = true) (l : ¬ ys.length ≤ 2) : ∀ us, Unk (plsOf rws) us → ¬ us.length ≤ 2 := fun us hU h => by
  have z := nodup_sub ys us nd fun z hz => (hU.2.2 z).mpr (mem_roots.mp (of_decide_eq_true ((mem z).mp hz)))
  omega
/-- the list at p is shown as t in each heap that goes on from H -/
def Shn (X : Cx) (H : Hp) (p : Addr) (t : Str) : Prop := ∀ (H2 : Hp) (QQ : VK), Same H H2 → (∀ H', Same H2 H' → QQ (.str t) H') → rReprWS X 4 [.ref p] H2 QQ
section
variable {X : Cx} {H : Hp} {C F S fP fF fS : Addr} {dP dF dS : FuncData}
theorem Thing.shn {v : V} {w : Str} (R : Shows X.prog X.w X.K X.mg X.base C F S fP fF fS dP dF dS) (hw : (reprText w).length ≤ 20) (h : Thing C F S H v) :
    ∃ t : Str, ∀ (G : Hp) (p : Addr), Same H G → H p = none → G p = some (.lst [.str w, v]) → Shn X G p t := by
  obtain ⟨t, ht⟩ := Thing.text (X := X) R hw h
  exact ⟨t, fun G p s np e H2 QQ s2 q => ht H2 p QQ (s.trans s2) np (s2 _ _ e) q⟩
theorem shn_made : ∃ t : Str, ∀ (G : Hp) (p : Addr), G p = some (.lst [.str "made"]) → Shn X G p t := by
  refine ⟨listText [reprText "made"], fun G p e H2 QQ s q => ⟨⟨p, [], .str "made", [], [reprText "made"], Same H2, rfl, s _ _ e, by simp, fun _ _ s h => h.trans s, Same.refl H2, .cons (ShV.w (shv_str (by decide +kernel))) .nil, by decide +kernel, q⟩⟩⟩
theorem shw_pv9 {v : V} {z : Str} {k : Int} (R : Shows X.prog X.w X.K X.mg X.base C F S fP fF fS dP dF dS) (h : Pv9 C H v z k) : ∃ t : Str, t.length ≤ 20000 ∧ ShW X 1 [] (Same H) v t := by
  obtain ⟨h, g, _⟩ := h
  rcases h with ⟨a, rfl, pa⟩ | ⟨s, rfl, hs, _⟩ | ⟨rfl, _, h0, h1⟩
  · exact ⟨_, reprP_len g, shw_place R.rP R.bP R.iP R.jP pa g⟩
  · have l := repr_len hs
    exact ⟨_, by omega, ShV.w (shv_str (Nat.le_trans l (by decide)))⟩
  · have l := kshift_text g.lo g.hi
    exact ⟨_, by omega, ShV.w (shv_int (int_small g.lo g.hi))⟩
theorem lk_pv9 (R : Shows X.prog X.w X.K X.mg X.base C F S fP fF fS dP dF dS) : ∀ {items : List V} {ps : List (Str × Int)}, Lk (fun v (p : Str × Int) => Pv9 C H v p.1 p.2) items ps → ∃ ts : List Str, piled ts ≤ 20002 * items.length ∧ Lk (fun v t => ShW X 1 [] (Same H) v t) items ts
  | _, _, .nil => ⟨[], Nat.le_refl _, .nil⟩
  | _, _, .cons h r => by
    obtain ⟨t, l, ht⟩ := shw_pv9 (X := X) R h
    obtain ⟨ts, m, hts⟩ := lk_pv9 R r
    refine ⟨t :: ts, ?_, .cons ht hts⟩
    rw [piled_cons, List.length_cons]
    omega
theorem shw_row9 {a : Addr} {rw : Row} (R : Shows X.prog X.w X.K X.mg X.base C F S fP fF fS dP dF dS) (h : Row9 C H a rw) : ∃ t : Str, t.length ≤ 50000 ∧ ShW X 2 [a] (Same H) (.ref a) t := by
  obtain ⟨items, ha, hI, ok⟩ := h
  obtain ⟨ts, m, hts⟩ := lk_pv9 (X := X) R hI
  have l1 := word_len ok
  have l2 := (Row.le ok).2
  have l3 := hI.length
  have tl := PySem.fmt_text (reprText rw.1 :: ts)
  rw [piled_cons] at tl
  exact ⟨_, by omega, shw_tup (by simp) (fun _ _ s h => h.trans s) (.cons (ShV.w (shv_str (Nat.le_trans l1 (by decide)))) hts) fun H s => s _ _ ha⟩
theorem lk_row9 (R : Shows X.prog X.w X.K X.mg X.base C F S fP fF fS dP dF dS) : ∀ {as : List Addr} {rws : List Row}, Lk (Row9 C H) as rws → ∃ ts : List Str, piled ts ≤ 50002 * as.length ∧ ∀ bs : List Addr, (∀ a ∈ as, a ∈ bs) → Lk (fun v t => ShW X 2 bs (Same H) v t) (as.map V.ref) ts
  | _, _, .nil => ⟨[], Nat.le_refl _, fun _ _ => .nil⟩
  | _, _, @Lk.cons _ _ _ a _ as _ h r => by
    obtain ⟨t, l, ht⟩ := shw_row9 (X := X) R h
    obtain ⟨ts, m, hts⟩ := lk_row9 R r
    refine ⟨t :: ts, ?_, fun bs sub => .cons (ht.more fun b hb => by
      rw [List.mem_singleton.mp hb]
      exact sub a List.mem_cons_self) (hts bs fun b hb => sub b (List.mem_cons_of_mem _ hb))⟩
    rw [piled_cons, List.length_cons]
    omega
theorem shn_facts {as : List Addr} {rws : List Row} (R : Shows X.prog X.w X.K X.mg X.base C F S fP fF fS dP dF dS) (h : Lk (Row9 C H) as rws) (n : as.length ≤ 5) :
    ∃ t : Str, ∀ (G : Hp) (p tp : Addr), Same H G → G tp = some (.tup (as.map V.ref)) → H tp = none → G p = some (.lst [.str "facts", .ref tp]) → Shn X G p t := by
  obtain ⟨ts, m, hts⟩ := lk_row9 (X := X) R h
  have tl := PySem.fmt_text ts
  have ll := list_text [reprText "facts", tupleText ts]
  have e1 : piled [reprText "facts", tupleText ts] = (reprText "facts").length + 2 + ((tupleText ts).length + 2 + 0) := rfl
  have w1 : (reprText "facts").length ≤ 20 := by decide +kernel
  have big : 1000000 ≤ sizeLine := by decide
  refine ⟨listText [reprText "facts", tupleText ts], fun G p tp s etp ntp e H2 QQ s2 q => ⟨⟨p, tp :: as, .str "facts", [.ref tp], [reprText "facts", tupleText ts], Same H2, rfl, s2 _ _ e, ?_, fun _ _ s h => h.trans s, Same.refl H2, .cons (ShV.w (shv_str (by decide +kernel))) (.cons ?_ .nil), by omega, q⟩⟩⟩
  · intro hm
    rcases List.mem_cons.mp hm with e2 | e2
    · rw [e2, etp] at e
      cases e
    · obtain ⟨rw, _, items, h1, _⟩ := h.memL e2
      rw [s _ _ h1] at e
      cases e
  · have nt : tp ∉ as := fun hm => by
      obtain ⟨rw, _, items, h1, _⟩ := h.memL hm
      rw [ntp] at h1
      cases h1
    refine (shw_tup (k := 2) nt (fun _ _ s h => h.trans s) ((hts as fun a h => h).imp fun _ _ z => z.pre fun H3 s3 => (s.trans s2).trans s3) fun H3 s3 => s3 _ _ (s2 _ _ etp)).lift (by decide)
end
end Mz
set_option Elab.async false
set_option linter.all false
set_option maxRecDepth 100000
set_option maxHeartbeats 4000000
/-! the names that the law finds, and the rows that it chooses from -/
namespace Mz
open PySem PySem.Spec PyProof.Rows L2
theorem lt_is : ∀ a b : List Nat, ltCps a b = decide (a < b)
  | [], [] => (decide_eq_false (List.not_lt_nil [])).symm
  | [], _ :: _ => (decide_eq_true (List.nil_lt_cons _ _)).symm
  | _ :: _, [] => (decide_eq_false (List.not_lt_nil _)).symm
  | a :: r, b :: t => by
    show (decide (a < b) || (a == b && ltCps r t)) = _
    rw [lt_is r t, Bool.eq_iff_iff, Bool.or_eq_true, Bool.and_eq_true, decide_eq_true_eq, decide_eq_true_eq, decide_eq_true_eq, beq_iff_eq, List.cons_lt_cons_iff]
theorem rise_le : ∀ (p : Str) (l : List Str), risingS p l = true → ∀ x ∈ l, p.cps.toList ≤ x.cps.toList
  | _, [], _, _, h => nomatch h
  | p, y :: r, hr, x, hx => by
    have hr : (!ltCps y.cps.toList p.cps.toList && risingS y r) = true := hr
    obtain ⟨h1, h2⟩ := Bool.and_eq_true_iff.mp hr
    have h3 : p.cps.toList ≤ y.cps.toList := by
      rw [lt_is] at h1
      have : ¬ y.cps.toList < p.cps.toList := by simpa using h1
      exact List.not_lt.mp this
    rcases List.mem_cons.mp hx with rfl | hx
    · exact h3
    · exact List.le_trans h3 (rise_le y r h2 x hx)
theorem sorted_only : ∀ (xs ys : List Str), sortedS xs = true → sortedS ys = true → xs.Nodup → ys.Nodup → (∀ z, z ∈ xs ↔ z ∈ ys) → xs = ys
  | [], [], _, _, _, _, _ => rfl
  | [], y :: _, _, _, _, _, h => nomatch (h y).mpr List.mem_cons_self
  | x :: _, [], _, _, _, _, h => nomatch (h x).mp List.mem_cons_self
  | x :: xs, y :: ys, hx, hy, nx, ny, h => by
    have e : x = y := by
      have a : x.cps.toList ≤ y.cps.toList := by
        rcases List.mem_cons.mp ((h y).mpr List.mem_cons_self) with e | m
        · rw [e]; exact List.le_refl _
        · exact rise_le x xs hx y m
      have b : y.cps.toList ≤ x.cps.toList := by
        rcases List.mem_cons.mp ((h x).mp List.mem_cons_self) with e | m
        · rw [e]; exact List.le_refl _
        · exact rise_le y ys hy x m
      exact str_ext (List.le_antisymm a b)
    subst e
    obtain ⟨n1, n2⟩ := List.nodup_cons.mp nx
    obtain ⟨n3, n4⟩ := List.nodup_cons.mp ny
    have tail : ∀ {p : Str} {l : List Str}, risingS p l = true → sortedS l = true := fun {p l} hr => by
      cases l with
      | nil => rfl
      | cons z r => exact (Bool.and_eq_true_iff.mp hr).2
    rw [sorted_only xs ys (tail hx) (tail hy) n2 n4 fun z => ?_]
    constructor
    · intro m
      rcases List.mem_cons.mp ((h z).mp (List.mem_cons_of_mem _ m)) with e | m2
      · exact absurd (e ▸ m) n1
      · exact m2
    · intro m
      rcases List.mem_cons.mp ((h z).mpr (List.mem_cons_of_mem _ m)) with e | m2
      · exact absurd (e ▸ m) n3
      · exact m2
theorem two_nm {rws : List Row} {D : List Str} (h : ∀ z, z ∈ rootsAll rws → z ∈ D) (l : D.length ≤ 2) : Two rws := fun ys hU => Nat.le_trans (nodup_sub ys D hU.2.1 fun z hz => h z (mem_roots.mpr ((hU.2.2 z).mp hz))) l
theorem roots_take {rws : List Row} {j : Nat} {z : Str} (h : z ∈ rootsAll (rws.take j)) : z ∈ rootsAll rws := by
  obtain ⟨h1, k, h2⟩ := mem_roots.mp h
  obtain ⟨rw, hrw, hp⟩ := List.mem_flatMap.mp h2
  exact mem_roots.mpr ⟨h1, k, List.mem_flatMap.mpr ⟨rw, List.mem_of_mem_take hrw, hp⟩⟩
/-- rows, and the names in them -/
def Chs (nm : List Str) (rws : List Row) : Prop := (nm = [] ∨ nm = [("n" : Str)] ∨ nm = [("m" : Str), ("n" : Str)]) ∧ (∀ z, z ∈ nm ↔ z ∈ rootsAll rws) ∧ rws.length ≤ 3
theorem Chs.len {nm : List Str} {rws : List Row} (h : Chs nm rws) : nm.length ≤ 2 := by
  rcases h.1 with e | e | e <;> rw [e] <;> decide
theorem Chs.nms {nm : List Str} {rws : List Row} (h : Chs nm rws) : Nms nm rws := ⟨h.1, fun z hz => (mem_roots.mp ((h.2.1 z).mp hz)).2, by have := h.2.2; omega⟩
theorem Chs.two {nm : List Str} {rws : List Row} (h : Chs nm rws) (j : Nat) : Two (rws.take j) := two_nm (fun z hz => (h.2.1 z).mpr (roots_take hz)) h.len
theorem Chs.only {nm ys : List Str} {rws : List Row} (h : Chs nm rws) (hs : sortedS ys = true) (nd : ys.Nodup) (mem : ∀ z, z ∈ ys ↔ decide (z ∈ rootsAll rws) = true) : ys = nm := by
  refine sorted_only ys nm hs ?_ nd ?_ fun z => (mem z).trans ((decide_eq_true_iff).trans (h.2.1 z).symm)
  · rcases h.1 with e | e | e <;> rw [e] <;> decide +kernel
  · rcases h.1 with e | e | e <;> rw [e] <;> decide +kernel
theorem chs_of {nm l : List Str} {rws : List Row} (e : rootsAll rws = l) (h1 : nm = [] ∨ nm = [("n" : Str)] ∨ nm = [("m" : Str), ("n" : Str)]) (h2 : l.all (fun z => decide (z ∈ nm)) = true) (h3 : nm.all (fun z => decide (z ∈ l)) = true) (n : rws.length ≤ 3) : Chs nm rws := by
  refine ⟨h1, fun z => ?_, n⟩
  rw [e]
  exact ⟨fun h => of_decide_eq_true (List.all_eq_true.mp h3 z h), fun h => of_decide_eq_true (List.all_eq_true.mp h2 z h)⟩
theorem pv_txt {C : Addr} {H : Hp} {s z : Str} {k : Int} (h : (decide (s.length ≤ 20) && PyData.strOk s) = true) (e : partsS s = some (z, k)) (b : Bsn z) (lo : lowS z ≤ k) (hi : k ≤ 3) (hs : strP z k = s) : Pv9 C H (.str s) z k := by
  rw [Bool.and_eq_true] at h
  exact good_txt ⟨of_decide_eq_true h.1, h.2⟩ e (good_of b lo hi) b hs
theorem pv_num {C : Addr} {H : Hp} {k : Int} (h0 : 0 ≤ k) (h1 : k ≤ 3) : Pv9 C H (.int k) "" k := ⟨.inr (.inr ⟨rfl, rfl, h0, h1⟩), good_of (.inl rfl) (by
  have e : lowS "" = 0 := by decide +kernel
  rw [e]
  exact h0) h1, .inl rfl⟩
end Mz
set_option Elab.async false
set_option linter.all false
set_option maxRecDepth 100000
set_option maxHeartbeats 4000000
/-! set(a list of texts) -/
namespace Mz
open PySem PySem.Spec PyProof.Rows L2
section
variable {P : Program} {w : World} {A : Around} {E : Value → Shared → Prop} {s : Shared}
abbrev TxtSet (P : Program) (w : World) (h : Heap) (a : Addr) (S : Str → Bool) (n : Nat) : Prop := SetG (PySem.strKind P w) isTxt txtV h a S n
/-- the set's own way through what it is made of -/
theorem update_txt {I : Addr} {fp wr : List Addr} {G : Array GenState → Array GenState → Prop} {n : Nat} {Pv : Nat → Value → Prop} {St : Nat → Shared → Prop} {R : Result → Shared → Prop}
    (W : WalksS P w A.in1 I fp wr G n Pv St) (S : Addr) (off : S ∉ fp) (zs : List Str) (ln : n = zs.length) (room : zs.length + 1 < scanBound) (each : ∀ i v, Pv i v → ∃ z t, zs[i]? = some z ∧ v = .str z t) (k : Nat) :
    ∀ (i : Nat) (s : Shared), n - i = k → i ≤ n → St i s → (∃ c, c ≤ i ∧ TxtSet P w s.heap S (fun j => decide (j ∈ zs.take i)) c) →
      (∀ s' c, Moved (S :: wr) G s s' → c ≤ n → TxtSet P w s'.heap S (fun j => decide (j ∈ zs)) c → R (.ok (.ret .none)) s') →
      codeAny (model P w) A (.builtin "set.update.loop" ⟨[.ref S, .ref I], []⟩) R s := by
  have offw : S ∉ wr := fun x => off (W.sub _ x)
  have wider : ∀ b ∈ wr, b ∈ S :: wr := fun b x => List.mem_cons_of_mem _ x
  induction k with
  | zero =>
    intro i s ek le st0 ⟨c, lc, tx⟩ fin
    obtain rfl : i = n := by omega
    refine codeAny_builtin F.entry_set_update_loop ?_
    rw [Around.under_plainId F.plain_set_update_loop _]
    refine (show wpAny _ A.in1 (pyNext (.ref I) >>= _) _ _ s from wpAny_bind (W.done s _ _ st0 fun s2 mv => ?_))
    rw [List.take_of_length_le (show zs.length ≤ i by omega)] at tx
    exact (show wpAny _ A.in1 (ret Value.none) _ _ s2 from wpAny_pure (fin s2 c (mv.mono wider) lc (tx.at fun o e => mv.heap S o offw e)))
  | succ k ih =>
    intro i s ek le st0 ⟨c, lc, tx⟩ fin
    have lt : i < n := by omega
    refine codeAny_builtin F.entry_set_update_loop ?_
    rw [Around.under_plainId F.plain_set_update_loop _]
    refine (show wpAny _ A.in1 (pyNext (.ref I) >>= _) _ _ s from wpAny_bind (W.item i s _ _ lt st0 fun v s2 pv st2 mv => ?_))
    obtain ⟨z, t, ez, rfl⟩ := each i v pv
    have tx2 : TxtSet P w s2.heap S (fun j => decide (j ∈ zs.take i)) c := tx.at fun o e => mv.heap S o offw e
    refine (show wpAny _ A.in1 (holding [Value.str z t] (setAdd S (.str z t)) >>= _) _ _ s2 from wpAny_bind (wpAny_holding ?_))
    unfold setAdd
    refine wpAny_holding (wpAny_bind ((PySem.strKind P w).pyHash (k := z) ((txt_in P w).self _ ⟨z, t, rfl⟩) ?_))
    refine setG_add_hashed (s := { s2 with toks := s2.toks + 1 }) (txt_in P w) (v := .str z t) ⟨z, t, rfl⟩ tx2 (by omega) fun h2 sb tx3 => ?_
    have tx4 : TxtSet P w h2 S (fun j => decide (j ∈ zs.take (i + 1))) (if decide (z ∈ zs.take i) = true then c else c + 1) := by
      have e : (fun j => decide (j ∈ zs.take (i + 1))) = fun j => decide (j ∈ zs.take i) || decide (j = z) := by
        funext j
        rw [List.take_add_one, ez, Bool.eq_iff_iff, Bool.or_eq_true, decide_eq_true_eq, decide_eq_true_eq, decide_eq_true_eq, List.mem_append]
        simp
      rw [e]
      exact tx3
    have lc4 : (if decide (z ∈ zs.take i) = true then c else c + 1) ≤ i + 1 := by
      split <;> omega
    have other : ∀ b, b ≠ S → h2.get? b = s2.heap.get? b := fun b x => sb.2 b x
    refine wpAny_pure ⟨plainId_quiet F.plain_set_update_loop _, ih (i + 1) _ (by omega) lt (W.frame _ s2 _ _ st2 (Nat.le_succ _) fun b fb o e => (other b fun x => off (x ▸ fb)).trans e) ⟨_, lc4, tx4⟩ fun s3 c3 mv3 lc3 tx5 => ?_⟩
    exact fin s3 c3 (Moved.trans W.gtrans ((mv.mono wider).then_heap (Nat.le_succ _) fun b o nb e => (other b fun x => nb (by rw [x]; exact List.mem_cons_self)).trans e) mv3) lc3 tx5
theorem newset_at {h : Heap} {a : Addr} (e : h.get? a = some { cls := .type "set", dict := none, data := .set #[] 0 (.fresh 0 0 (!w.params.followText "set-order")) }) : TxtSet P w h a (fun _ => false) 0 := by
  refine ⟨_, #[], 0, _, e, ⟨rfl, rfl, rfl⟩, rfl, (fun e he => absurd he (by simp)), by simp, fun k => by simp, by decide, by rfl, rfl, List.Pairwise.nil, ?_⟩
  show _ ∨ (!w.params.followText "set-order") = true
  cases w.params.followText "set-order" <;> simp
/-- set(xs) -/
theorem call_set_txt {l : Addr} {items : Array Value} (zs : List Str) {Q : Value → Shared → Prop} (hh : A.handled = none) (hl : s.heap.IsList l items) (hit : StrsAre items.toList zs) (room : zs.length + 1 < scanBound)
    (h : ∀ (h' : Heap) (tk c : Nat), TxtSet P w h' s.heap.objs.size (fun j => decide (j ∈ zs)) c → c ≤ zs.length → (∀ b o, s.heap.get? b = some o → h'.get? b = some o) → Q (.ref s.heap.objs.size) { s with heap := h', toks := tk }) :
    wpAny (model P w) A (call (.type "set") [.ref l]) Q E s := by
  have isz : items.size = zs.length := by
    rw [← Array.length_toList]
    exact hit.length
  generalize hB : ({ cls := .type "set", dict := none, data := .set #[] 0 (.fresh 0 0 (!w.params.followText "set-order")) } : Obj) = blank
  obtain ⟨c, tl, hmro⟩ := F.called_set.mro
  have hmade := F.called_set.made
  have hsub := F.called_set.sub
  refine wpAny_call (codeAny_of_tree ?_)
  refine (show wpAny _ _ (callAny (.type "set") _) _ _ _ from wpAny_pure ⟨Code.quiet_builtin _ (by decide +kernel), codeAny_builtin F.entry_type_call ?_⟩)
  rw [Around.under_plain (weight_type_call_type "set" [.ref l] []) rfl]
  have c1 := F.called_set.notType
  have c2 := F.called_set.canCreate
  have c3 := F.typeCall_set_1 (.ref l)
  repeat (any_goals (first | assumption | wp_step))
  refine codeAny_mono (code_set_led1 (.ref l) (E := E) (Q₁ := fun obj s₁ => obj = .ref s.heap.objs.size ∧ s₁ = { s with heap := s.heap.push blank }) ⟨rfl, by rw [hB]⟩) fun r s₁ hr => ?_
  cases r with
  | error e => exact hr
  | ok fl =>
    cases fl with
    | ret obj =>
      obtain ⟨rfl, rfl⟩ := hr
      have bc : blank.cls = .type "set" := by rw [← hB]
      have bf : blank.isFreed = false := by rw [← hB]; rfl
      have atS : (s.heap.push blank).get? s.heap.objs.size = some blank := Heap.get?_push_size _ bf
      have hT : Shared.TypeIs { s with heap := s.heap.push blank } (.ref s.heap.objs.size) "set" := ⟨_, atS, bc⟩
      have d1 := F.called_set.init.lookup
      have d2 := F.called_set.init.bind (.ref s.heap.objs.size)
      repeat (any_goals (first | assumption | wp_step))
      refine codeAny_mono (codeAny_call_builtin (R := wants (fun r s₂ => r = .none ∧ ∃ h' tk c, s₂ = { s with heap := h', toks := tk } ∧ TxtSet P w h' s.heap.objs.size (fun j => decide (j ∈ zs)) c ∧ c ≤ zs.length ∧
          (∀ b o, s.heap.get? b = some o → h'.get? b = some o)) E) F.called_set.init.plain F.entry_set_init (check_set_init_1 hT ?_)) fun r₂ s₂ hr₂ => ?_
      · obtain ⟨ol, hol, hcl, nl, hdl⟩ := hl
        obtain ⟨ocls, odict, odata, oslots⟩ := ol
        simp only at hcl hdl
        subst hcl; subst hdl
        have pk : ∀ b o, s.heap.get? b = some o → (s.heap.push blank).get? b = some o := fun b o e => Heap.get?_push_of_some _ e
        have hol' := pk _ _ hol
        have n1 := F.sub_list_set
        have n2 := F.sub_list_frozenset
        have n3 : (Value.type "list" == Value.type "dict") = false := by decide
        have hl1 : (s.heap.push blank).IsList l items := ⟨_, hol', rfl, nl, rfl⟩
        have lS : @LT.lt Nat _ l s.heap.objs.size := Heap.lt_size hol
        have sz : (s.heap.push blank).objs.size = s.heap.objs.size + 1 := Heap.size_push ..
        have lI : l ≠ (s.heap.push blank).objs.size := fun x => by
          have x : @Eq Nat l (s.heap.push blank).objs.size := x
          omega
        have offS : s.heap.objs.size ∉ [(s.heap.push blank).objs.size, l] := fun x => by
          rcases List.mem_cons.mp x with x | x
          · omega
          · have x : @Eq Nat s.heap.objs.size l := List.mem_singleton.mp x
            omega
        have below : ∀ b : Nat, b < s.heap.objs.size → b ∉ s.heap.objs.size :: [(s.heap.push blank).objs.size] := fun b lb x => by
          rcases List.mem_cons.mp x with x | x
          · omega
          · have x : @Eq Nat b (s.heap.push blank).objs.size := List.mem_singleton.mp x
            omega
        clear sz bc bf
        subst hB
        unfold Builtin.«set.__init__» noKeywords Builtin.Frozenset.updateFrom
        generalize hPI : pyIter = PI
        wp_walk
        subst hPI
        refine wpAny_pyIter_list hl1 ?_
        refine wpAny_bind (wpAny_runValue ?_)
        have h3 : A.in1.in1.in1.handled = none := by simp [hh]
        have each : ∀ (i : Nat) (v : Value), items[i]? = some v → ∃ z t, zs[i]? = some z ∧ v = .str z t := fun i v hv => by
          obtain ⟨z, t, e1, e2⟩ := PyProof.Rows.StrsAre.item hit i v (by rw [Array.getElem?_toList]; exact hv)
          exact ⟨z, t, e2, e1⟩
        refine update_txt ((Walks.list h3 _ l lI items).toS) s.heap.objs.size offS zs isz room each (items.size - 0) 0 _ (by omega) (Nat.zero_le _) ⟨⟨_, Heap.get?_push_size _ rfl, rfl, rfl⟩, (hl1.push _)⟩ ⟨0, Nat.le_refl 0, ?_⟩ fun s' c' mv lc tx => ?_
        · have e : (fun j : Str => decide (j ∈ zs.take 0)) = fun _ => false := by
            funext j
            simp
          rw [e]
          exact newset_at (Heap.get?_push_of_some _ atS)
        · obtain ⟨h', g2, d', tk', os'⟩ := s'
          obtain rfl : g2 = s.gens := mv.gens
          obtain rfl : d' = s.drawn := mv.drawn
          obtain rfl : os' = s.os := mv.os
          rw [isz] at lc
          refine (show wpAny _ _ _ _ _ _ from wpAny_pure (show wpAny _ _ (ret Value.none) _ _ _ from wpAny_pure ⟨rfl, h', tk', c', rfl, tx, lc, fun b o e => ?_⟩))
          have lb : @LT.lt Nat _ b s.heap.objs.size := Heap.lt_size e
          exact mv.heap b o (below b lb) (Heap.get?_push_of_some _ (pk _ _ e))
      · cases r₂ with
        | error e => exact hr₂
        | ok fl₂ =>
          cases fl₂ with
          | ret r =>
            obtain ⟨rfl, h', tk, c', rfl, tx, lc, kp⟩ := hr₂
            repeat (any_goals (first | assumption | wp_step))
            exact h _ _ _ tx lc kp
          | _ => exact hr₂.elim
    | _ => exact hr.elim
end
/-- set(xs) of texts -/
def rSetTxt (K : PySem.W.Frag) (P : Program) (w : World) : List V → Hp → VK → Prop := fun vs H Q => ∃ (l : Addr) (zs : List Str), vs = [.ref l] ∧ SqL K H l (zs.map V.str) ∧ zs.length < 1000 ∧
  ∀ p n, H p = none → n ≤ zs.length → Q (.ref p) (upd H p (SetS P w p (fun j => decide (j ∈ zs)) n))
theorem cr_setTxt {X : Cx} (hc : X.calm = true) : CallR X (.type "set") (rSetTxt X.K X.prog X.w) := by
  intro pins s σ H vs us Q I r h
  obtain ⟨l, zs, rfl, hl, hn, q⟩ := h
  rw [Vals.ref1 r]
  obtain ⟨its, rv, pl, _⟩ := I.list hl
  have hst : StrsAre its.toArray.toList zs := by
    have all : ∀ (ys : List Str) (us : List Value), Vals (ys.map V.str) us → StrsAre us ys := fun ys => by
      induction ys with
      | nil =>
        intro us h
        cases h
        exact .nil
      | cons y ys ih =>
        intro us h
        cases h with
        | cons h t =>
          obtain ⟨tk, rfl⟩ := h
          exact .cons y tk (ih _ t)
    exact all zs its rv
  refine call_set_txt zs (I.ok.hd hc) pl.isList hst (Nat.lt_of_lt_of_le (show zs.length + 1 < 1001 by omega) (by decide)) fun h' tk c tx lc kp => ?_
  exact ⟨.ref _, _, I.laid (t' := tk) kp (Nat.le_refl _) (setS_new tx), rfl, q _ c (I.hok.fresh (Nat.le_refl _)) lc⟩
end Mz
set_option Elab.async false
set_option linter.all false
set_option maxRecDepth 100000
set_option maxHeartbeats 4000000
/-! len of a set of texts -/
namespace Mz
open PySem PySem.Spec PyProof.Rows L2
def rLenSet (P : Program) (w : World) : List V → Hp → VK → Prop := fun vs H Q => ∃ (a : Addr) (S : Str → Bool) (n : Nat), vs = [V.ref a] ∧ H a = some (SetS P w a S n) ∧ n ≤ 1000 ∧ ∀ ys : List Str, ys.Nodup → (∀ z, z ∈ ys ↔ S z = true) → ys.length = n → Q (.int (n : Nat)) H
theorem cr_lenSet {X : Cx} : CallR X (.builtin "len") (rLenSet X.prog X.w) := by
  intro pins s σ H vs us Q I r h
  obtain ⟨a, S, n, rfl, ha, hn1, q⟩ := h
  rw [Vals.ref1 r]
  obtain ⟨ob, ents, age, tab, hob, hex, hd, g, nd, hm, hb, hf, hn, hr, hl⟩ := setS_get I ha
  refine call_len_set hob hex hd hf (by omega) ⟨.int (n : Nat), H, I.tok _, ⟨_, by rw [hn]⟩, q (ents.toList.map fun e => txtV e.2) nd (fun z => (hm z).symm) ?_⟩
  rw [List.length_map, Array.length_toList]
  exact hn
end Mz
set_option Elab.async false
set_option linter.all false
set_option maxRecDepth 100000
set_option maxHeartbeats 4000000
/-! sum(lists, start=[]) -/
namespace PySem
open Sem (wp)
section
variable {prog : Program} {w : World} {A : Around} {R : Result → Shared → Prop} {I : Addr} {fp wr : List Addr} {n : Nat} {P : Nat → Value → Prop} {St : Nat → Heap → Prop}
/-- what stood ahead of it stands -/
def KpH (wr : List Addr) (S : Addr) (h h' : Heap) : Prop := ∀ b o, b ∉ wr → b ≠ S → h.get? b = some o → h'.get? b = some o
theorem codeAny_sum_lists (W : Walks prog w A.in1 I fp wr n P St) (h0 : Heap) (z : Addr) (val : Nat → List Value) (S : Addr) (hSf : S ∉ fp) (hIw : ∀ i h, St i h → ∀ b ∈ wr, b < h.objs.size)
    (hval : ∀ i v, P i v → ∃ b k, v = .ref b ∧ b ∉ wr ∧ b ≠ S ∧ IsL h0 b (val i).toArray k) (hsz : ((List.range n).flatMap val).length ≤ sizeLine) :
    ∀ (k i : Nat) (s : Shared) (T : Addr) (c cT : Nat), n - i = k → i ≤ n → St i s.heap → KpH wr S h0 s.heap → s.heap.get? S = some { cls := .type "list", dict := none, data := .seq #[.ref T] c, slots := #[] } →
    IsL s.heap T ((List.range i).flatMap val).toArray cT → T ≠ S → T ∉ wr → ((i = 0 ∧ T = z) ∨ (i ≠ 0 ∧ @LT.lt Nat _ S T)) →
    (∀ h' tk T cT, KpH wr S h0 h' → IsL h' T ((List.range n).flatMap val).toArray cT → ((n = 0 ∧ T = z) ∨ (n ≠ 0 ∧ @LT.lt Nat _ S T)) → R (.ok (.ret (.ref T))) { s with heap := h', toks := tk }) →
    codeAny (model prog w) A (.builtin "sum.loop" ⟨[.ref I, .ref S, rawInt 2, rawInt 0], []⟩) R s := by
  have hSw : S ∉ wr := fun h => hSf (W.sub _ h)
  intro k
  induction k with
  | zero =>
    intro i s T c cT hk hi hst hkp hS hT hTS hTw hTz hR
    have hin : i = n := by omega
    subst hin
    refine codeAny_builtin F.entry_sum_loop ?_
    rw [Around.under_plainId F.plain_sum_loop _]
    show wpAny _ A.in1 (seqItems? (.ref S) >>= _) _ _ s
    refine wpAny_bind (wpAny_seqItems hS rfl ?_)
    show wpAny _ A.in1 (tryCatch (pyNext (.ref I)) _ >>= _) _ _ s
    refine wpAny_bind (wpAny_tryCatch (W.done s _ _ hst fun h' tk hk' => ?_))
    exact wpAny_pure (hR h' tk T cT (fun b o hb hbS e => hk' b o hb (hkp b o hb hbS e)) (hk' T _ hTw hT) hTz)
  | succ k ih =>
    intro i s T c cT hk hi hst hkp hS hT hTS hTw hTz hR
    have hlt : i < n := by omega
    refine codeAny_builtin F.entry_sum_loop ?_
    rw [Around.under_plainId F.plain_sum_loop _]
    show wpAny _ A.in1 (seqItems? (.ref S) >>= _) _ _ s
    refine wpAny_bind (wpAny_seqItems hS rfl ?_)
    show wpAny _ A.in1 (tryCatch (pyNext (.ref I)) _ >>= _) _ _ s
    refine wpAny_bind (wpAny_tryCatch (W.item i s _ _ hlt hst fun v h' tk hP hst' hk' => ?_))
    obtain ⟨b, kb, rfl, hbw, hbS, hb⟩ := hval i v hP
    have hS' := hk' S _ hSw hS
    have hT' := hk' T _ hTw hT
    have hb' := hk' b _ hbw (hkp b _ hbw hbS hb)
    have hpre : (List.range (i + 1)).flatMap val = (List.range i).flatMap val ++ val i := by
      rw [List.range_succ, List.flatMap_append]
      simp
    have hlen : ((List.range i).flatMap val).length + (val i).length ≤ sizeLine := by
      have e : (List.range n).flatMap val = (List.range (i + 1)).flatMap val ++ ((List.range n).drop (i + 1)).flatMap val := by
        rw [← List.flatMap_append]
        congr 1
        rw [show List.range (i + 1) = (List.range n).take (i + 1) by rw [List.take_range]; congr 1; omega]
        rw [List.take_append_drop]
      rw [e, List.length_append, hpre, List.length_append] at hsz
      omega
    show wpAny _ A.in1 ((holding [Value.ref b] (binaryOp .Add (.ref T) (.ref b))).attempt >>= _) _ _ _
    refine wpAny_bind (wpAny_attempt (wpAny_holding (PySem.P.add_list hT' hb' ?_ (by rw [List.size_toArray, List.size_toArray]; exact hlen))))
    have ea : ((List.range i).flatMap val).toArray ++ (val i).toArray = ((List.range (i + 1)).flatMap val).toArray := by
      rw [hpre]
      simp
    rw [ea]
    generalize hN : h'.objs.size = N
    have pushed : ∀ b o, h'.get? b = some o → (h'.push { cls := .type "list", data := .seq ((List.range (i + 1)).flatMap val).toArray }).get? b = some o := fun b o e => Heap.get?_push_of_some _ e
    have hN2 : (h'.push { cls := .type "list", data := .seq ((List.range (i + 1)).flatMap val).toArray }).get? N = some { cls := .type "list", data := .seq ((List.range (i + 1)).flatMap val).toArray } := by
      rw [← hN]
      exact Heap.get?_push_size _ rfl
    have sz2 : (h'.push { cls := .type "list", data := .seq ((List.range (i + 1)).flatMap val).toArray }).objs.size = N + 1 := by
      rw [Heap.size_push, hN]
    have NS : N ≠ S := fun x => by
      have e : @LT.lt Nat _ S h'.objs.size := Heap.lt_size hS'
      have x : @Eq Nat N S := x
      omega
    have Nw : N ∉ wr := fun x => by
      have e : @LT.lt Nat _ N h'.objs.size := hIw _ _ hst' _ x
      omega
    have N0 : @LT.lt Nat _ S N := by
      have e : @LT.lt Nat _ S h'.objs.size := Heap.lt_size hS'
      omega
    generalize h'.push { cls := .type "list", data := .seq ((List.range (i + 1)).flatMap val).toArray } = h2 at pushed hN2 sz2
    have hS2 := pushed _ _ hS'
    show wpAny _ A.in1 (updateSeq S (fun _ => #[.ref N]) >>= _) _ _ _
    refine wpAny_bind ?_
    refine wpAny_updateSeq hS2 rfl ?_
    have hS3 := Heap.get?_update_self (Obj.mapSeq fun _ => #[Value.ref N]) hS2 rfl
    refine wpAny_bind (wpAny_letGo ?_)
    refine wpAny_bind ?_
    refine wpAny_updateSeq hS3 rfl (wpAny_pure ⟨plainId_quiet F.plain_sum_loop _, ih (i + 1) _ N _ 0 (by omega) hlt (W.frame _ _ _ hst' fun b hb o e => ?_) (fun b o hbw hbS e => ?_) (Heap.get?_update_self _ hS3 rfl) ?_ NS Nw (.inr ⟨Nat.succ_ne_zero _, N0⟩) fun h'' tk'' T'' cT'' hk'' hT'' hz'' => ?_⟩)
    · have e2 := pushed b o e
      exact (Heap.get?_update_other _ _ (fun h : S = b => hSf (by rw [h]; exact hb))).trans ((Heap.get?_update_other _ _ (fun h : S = b => hSf (by rw [h]; exact hb))).trans e2)
    · have e2 := pushed b o (hk' b o hbw (hkp b o hbw hbS e))
      exact (Heap.get?_update_other _ _ (Ne.symm hbS)).trans ((Heap.get?_update_other _ _ (Ne.symm hbS)).trans e2)
    · exact (Heap.get?_update_other _ _ (Ne.symm NS)).trans ((Heap.get?_update_other _ _ (Ne.symm NS)).trans hN2)
    · exact hR h'' tk'' T'' cT'' hk'' hT'' hz''
theorem args_sumKw (a z : Value) : argsOk "sum" ⟨[a], [(Str.ofString "start", z)]⟩ := by unfold argsOk; kernel_rfl
end
section
variable {prog : Program} {w : World} {A : Around} {E : Value → Shared → Prop} {s : Shared}
theorem call_function_treeK {id : String} {b : Builtin} {args : List Value} {kw : List (Str × Value)} {Q : Value → Shared → Prop} (hk : builtinKind id = none) (hp : plainId id = true)
    (hb : entryFor table id = some b) (ha : argsOk id ⟨args, kw⟩)
    (hc : wpAny (model prog w) A.in1 (b ⟨args, kw⟩) (fun fin s' => match fin with
      | .done f => (match (Except.ok f : Result) with | .ok (.ret v) => Q v s' | .ok _ => False | .error e => E e s')
      | .again c' => c'.quiet = true ∧ codeAny (model prog w) A c' (fun r s' => match r with | .ok (.ret v) => Q v s' | .ok _ => False | .error e => E e s') s') E s) :
    wpAny (model prog w) A (call (.builtin id) args kw) Q E s := by
  refine wpAny_call (codeAny_call_builtin hp hb ?_)
  simp only [checkBuiltinCall, hk]
  cases hsig : Manifest.signature? id with
  | none => exact wpAny_pure hc
  | some sig =>
    simp only [argsOk, hsig] at ha
    have h2 : Bind.checkArgs id sig ⟨args, kw⟩ = pure () := ha
    show wpAny _ A.in1 (Bind.checkArgs id sig ⟨args, kw⟩) _ _ s
    rw [h2]; exact wpAny_pure hc
theorem call_sum_lists {l z : Addr} {items : Array Value} {kz : Nat} {its : List (List Value)} {Q : Value → Shared → Prop} (hh : A.handled = none) (hl : s.heap.IsList l items) (hz : IsL s.heap z #[] kz)
    (hn : its.length = items.size) (hit : ∀ (i : Nat) v xs, items[i]? = some v → its[i]? = some xs → ∃ b k, v = .ref b ∧ IsL s.heap b xs.toArray k) (hsz : its.flatten.length ≤ sizeLine)
    (h : ∀ h' tk T k, (∀ b o, s.heap.get? b = some o → h'.get? b = some o) → IsL h' T its.flatten.toArray k → ((its = [] ∧ T = z) ∨ (its ≠ [] ∧ s.heap.objs.size ≤ T)) → Q (.ref T) { s with heap := h', toks := tk }) :
    wpAny (model prog w) A (call (.builtin "sum") [.ref l] [(Str.ofString "start", .ref z)]) Q E s := by
  have hlt : l < s.heap.objs.size := by obtain ⟨_, e, _⟩ := hl; exact Heap.lt_size e
  refine call_function_treeK F.kind_sum F.plain_sum F.entry_sum (args_sumKw _ _) ?_
  unfold Builtin.«sum»
  simp only [List.length_cons, List.length_nil]
  rw [if_neg (by decide)]
  refine wpAny_bind (wpAny_of_eq (show Builtin.Builtins.bindParams "sum" ["start"] 0 ⟨[], [(Str.ofString "start", .ref z)]⟩ = pure [some (.ref z)] from rfl) ?_)
  refine wpAny_bind (wpAny_pyIter_list hl ?_)
  generalize hIT : ({ cls := .type "list_iterator", data := .fields #[.ref l, .int 0 0] } : Obj) = itO
  have pk : ∀ b o, s.heap.get? b = some o → (s.heap.push itO).get? b = some o := fun b o e => Heap.get?_push_of_some _ e
  have pI : (s.heap.push itO).get? s.heap.objs.size = some itO := by
    rw [← hIT]
    exact Heap.get?_push_size _ rfl
  have p1 : (s.heap.push itO).objs.size = s.heap.objs.size + 1 := Heap.size_push ..
  refine wpAny_bind (wpAny_pure ?_)
  simp only [List.forIn_cons, List.forIn_nil]
  have tz : (({ s with heap := s.heap.push itO } : Shared)).TypeIs (.ref z) "list" := ⟨_, pk _ _ hz, rfl⟩
  refine wpAny_bind (wpAny_bind (wpAny_bind (wpAny_isInstance (T := "list") (b := false) tz (by rw [isSubtype_type]; kernel_rfl) ?_)))
  simp only [Bool.false_eq_true, if_false]
  refine wpAny_pure (wpAny_bind (wpAny_bind (wpAny_isInstance (T := "list") (b := false) tz (by rw [isSubtype_type]; kernel_rfl) ?_)))
  simp only [Bool.false_eq_true, if_false]
  refine wpAny_pure (wpAny_bind (wpAny_bind (wpAny_isInstance (T := "list") (b := false) tz (by rw [isSubtype_type]; kernel_rfl) ?_)))
  simp only [Bool.false_eq_true, if_false]
  refine wpAny_pure (wpAny_pure ?_)
  refine wpAny_bind (wpAny_newObj_type ?_)
  have Iz : z ≠ s.heap.objs.size := Nat.ne_of_lt (Heap.lt_size hz)
  have hval : ∀ i, its.getD i [] = its.getD i [] := fun _ => rfl
  have flat : (List.range items.size).flatMap (fun i => its.getD i []) = its.flatten := by
    rw [← hn]
    have : (List.range its.length).map (fun i => its.getD i []) = its := by
      refine List.ext_getElem (by simp) fun i h1 h2 => ?_
      rw [List.getElem_map, List.getElem_range, List.getD_eq_getElem?_getD, List.getElem?_eq_getElem h2]
      rfl
    rw [List.flatMap_def, this]
  refine wpAny_pure ⟨plainId_quiet F.plain_sum_loop _, codeAny_sum_lists (Walks.list (A := A.in1) hh s.heap.objs.size l (Nat.ne_of_lt hlt) items) (s.heap.push itO) z (fun i => its.getD i []) (s.heap.push itO).objs.size
    (fun x => ?_) (fun i h ⟨st, _⟩ b hb => ?_) (fun i v hv => ?_) (by rw [flat]; exact hsz) items.size 0 _ z 0 kz rfl (Nat.zero_le _) ⟨?_, ?_⟩ (fun b o hb hbS e => ?_) (Heap.get?_push_size _ rfl) ?_ ?_ ?_ (.inl ⟨rfl, rfl⟩) fun h' tk T cT hk hT hTz => ?_⟩
  · rcases List.mem_cons.mp x with e | x
    · rw [p1] at e
      exact absurd e (Nat.succ_ne_self _)
    · rcases List.mem_cons.mp x with e | x
      · rw [p1] at e
        exact absurd e.symm (Nat.ne_of_lt (Nat.lt_succ_of_lt hlt))
      · cases x
  · rcases List.mem_cons.mp hb with rfl | x
    · obtain ⟨_, e, _⟩ := st
      exact Heap.lt_size e
    · cases x
  · have hi : i < items.size := by
      rcases Nat.lt_or_ge i items.size with x | x
      · exact x
      · rw [Array.getElem?_eq_none x] at hv
        cases hv
    have h2 : i < its.length := by omega
    obtain ⟨b, k, rfl, e⟩ := hit i v _ hv (List.getElem?_eq_getElem h2)
    have e1 := pk _ _ e
    have lb : @LT.lt Nat _ b s.heap.objs.size := Heap.lt_size e
    refine ⟨b, k, rfl, fun x => ?_, fun x => ?_, ?_⟩
    · rcases List.mem_cons.mp x with x | x
      · exact absurd x (Nat.ne_of_lt lb)
      · cases x
    · have x : @Eq Nat b (s.heap.push itO).objs.size := x
      omega
    · rw [List.getD_eq_getElem?_getD, List.getElem?_eq_getElem h2]
      exact e1
  · exact ⟨itO, Heap.get?_push_of_some _ pI, by rw [← hIT], by rw [← hIT]; rfl⟩
  · exact (hl.push _).push _
  · exact Heap.get?_push_of_some _ e
  · exact Heap.get?_push_of_some _ (pk _ _ hz)
  · intro x
    have x : @Eq Nat z (s.heap.push itO).objs.size := x
    have lz : @LT.lt Nat _ z s.heap.objs.size := Heap.lt_size hz
    omega
  · intro x
    rcases List.mem_cons.mp x with x | x
    · exact Iz x
    · cases x
  · rw [flat] at hT
    refine h h' tk T cT (fun b o e => hk b o (fun x => ?_) (fun x => ?_) (pk b o e)) hT (hTz.imp (fun ⟨x, y⟩ => ⟨?_, y⟩) fun x => ?_)
    · have lb : @LT.lt Nat _ b s.heap.objs.size := Heap.lt_size e
      rcases List.mem_cons.mp x with x | x
      · exact absurd x (Nat.ne_of_lt lb)
      · cases x
    · have lb : @LT.lt Nat _ b s.heap.objs.size := Heap.lt_size e
      have x : @Eq Nat b (s.heap.push itO).objs.size := x
      omega
    · refine ⟨fun y => x.1 (by rw [← hn, y]; rfl), ?_⟩
      have x2 := x.2
      show @LE.le Nat _ s.heap.objs.size T
      omega
    · exact List.length_eq_zero_iff.mp (hn.trans x)
end
end PySem
namespace Mz
open PySem PySem.Spec PyProof.Rows L2
theorem choose_list {B : Type} (P : Nat → B → Prop) : ∀ n : Nat, (∀ i, i < n → ∃ y, P i y) → ∃ l : List B, l.length = n ∧ ∀ i y, l[i]? = some y → P i y
  | 0, _ => ⟨[], rfl, fun i y e => by simp at e⟩
  | n + 1, h => by
    obtain ⟨l, h1, h2⟩ := choose_list P n fun i hi => h i (Nat.lt_succ_of_lt hi)
    obtain ⟨y, hy⟩ := h n (Nat.lt_succ_self n)
    refine ⟨l ++ [y], by rw [List.length_append, h1]; rfl, fun i z e => ?_⟩
    rcases Nat.lt_or_ge i l.length with x | x
    · rw [List.getElem?_append_left x] at e
      exact h2 i z e
    · rw [List.getElem?_append_right x] at e
      have lt := (List.getElem?_eq_some_iff.mp e).1
      have : i = n := by simp at lt; omega
      subst this
      rw [h1, Nat.sub_self] at e
      cases e
      exact hy
theorem vals_flat : ∀ (xss : List (List V)) (yss : List (List Value)), xss.length = yss.length → (∀ (i : Nat) xs ys, xss[i]? = some xs → yss[i]? = some ys → Vals xs ys) → Vals xss.flatten yss.flatten
  | [], [], _, _ => .nil
  | x :: xss, y :: yss, h, r => by
    have h0 : Vals x y := r 0 x y rfl rfl
    have h1 := vals_flat xss yss (by simpa using h) fun i xs ys a b => r (i + 1) xs ys (by simpa using a) (by simpa using b)
    rw [List.flatten_cons, List.flatten_cons]
    exact h0.append h1
  | [], _ :: _, h, _ => by simp at h
  | _ :: _, [], h, _ => by simp at h
/-- sum of lists, from an empty one -/
def rSumL (K : PySem.W.Frag) : List V → List V → Hp → VK → Prop := fun vs zs H Q => ∃ (l z : Addr) (bs : List Addr) (xss : List (List V)), vs = [.ref l] ∧ zs = [.ref z] ∧ SqL K H l (bs.map V.ref) ∧ H z = some (.lst []) ∧ bs.length = xss.length ∧
  (∀ (i : Nat) b xs, bs[i]? = some b → xss[i]? = some xs → H b = some (.lst xs)) ∧ xss.flatten.length ≤ sizeLine ∧ (bs = [] → Q (.ref z) H) ∧ (bs ≠ [] → ∀ p, H p = none → Q (.ref p) (upd H p (.lst xss.flatten)))
theorem cr_sumL {X : Cx} (hc : X.calm = true) : CallRK X (.builtin "sum") [Str.ofString "start"] (rSumL X.K) := by
  intro pins s σ H vs zs us ws Q I r rz h
  obtain ⟨l, z, bs, xss, rfl, rfl, hL, hz, hlen, hit, hsz, q0, q1⟩ := h
  obtain rfl := Vals.ref1 r
  obtain ⟨w1, rfl, e1⟩ := vals1 rz
  obtain rfl : w1 = Value.ref z := e1
  obtain ⟨its, rv, hl, _⟩ := I.list hL
  obtain ⟨_, zs, kz, rzs, hzl, ez⟩ := I.lstM hz
  cases rzs
  have rl := rv.length
  rw [List.length_map] at rl
  -- the items of the lists, as they lie
  have each : ∀ i, i < xss.length → ∃ vs : List Value, Vals (xss.getD i []) vs ∧ ∃ b k, its[i]? = some (.ref b) ∧ bs[i]? = some b ∧ IsL s.heap b vs.toArray k := fun i hi => by
    have hb : i < bs.length := by omega
    obtain ⟨u, hu, ru⟩ := rv.get (show (bs.map V.ref)[i]? = some (.ref bs[i]) by rw [List.getElem?_map, List.getElem?_eq_getElem hb]; rfl)
    obtain rfl : u = Value.ref bs[i] := ru
    have e := hit i _ _ (List.getElem?_eq_getElem hb) (List.getElem?_eq_getElem hi)
    obtain ⟨_, ys, k, ry, hy, ey⟩ := I.lstM e
    refine ⟨ys, ?_, _, k, hu, List.getElem?_eq_getElem hb, ey⟩
    rw [List.getD_eq_getElem?_getD, List.getElem?_eq_getElem hi]
    exact ry
  obtain ⟨yss, ly, hy⟩ := choose_list (fun i vs => Vals (xss.getD i []) vs ∧ ∃ b k, its[i]? = some (.ref b) ∧ bs[i]? = some b ∧ IsL s.heap b vs.toArray k) xss.length each
  have fl : Vals xss.flatten yss.flatten := vals_flat xss yss ly.symm fun i xs ys a b => by
    have := (hy i ys b).1
    rw [List.getD_eq_getElem?_getD, a] at this
    exact this
  have lfl := fl.length
  refine call_sum_lists (I.ok.hd hc) hl.isList (kz := kz) ez (its := yss) (by rw [List.size_toArray]; omega) (fun i v ys hv hys => ?_) (by omega) fun h' tk T k hk hT hTz => ?_
  · obtain ⟨_, b, k, e1, _, e3⟩ := hy i ys hys
    rw [List.getElem?_toArray, e1] at hv
    cases hv
    exact ⟨b, k, rfl, e3⟩
  · rcases hTz with ⟨e0, rfl⟩ | hN
    · have : xss = [] := List.length_eq_zero_iff.mp (by rw [← ly, e0]; rfl)
      subst this
      exact ⟨.ref _, H, I.kept hk, rfl, q0 (List.length_eq_zero_iff.mp hlen)⟩
    · have e0 : bs ≠ [] := fun x => hN.1 (List.length_eq_zero_iff.mp (by rw [ly, ← hlen, x]; rfl))
      exact ⟨.ref T, upd H T (.lst xss.flatten), I.laid (t' := tk) hk hN.2 ⟨hsz, _, k, fl, hT⟩, rfl, q1 e0 T (I.hok.fresh hN.2)⟩
end Mz
set_option Elab.async false
set_option linter.all false
set_option maxRecDepth 100000
set_option maxHeartbeats 8000000
/-! the law -/
namespace Mz
open PySem PySem.Spec PyProof.Rows L2
def spLaw (K : PySem.W.Frag) : Sp := fun vs H Q _ => ∃ (a : Addr) (ns : List Int), vs = [.ref a] ∧ SqL K H a (ns.map V.int) ∧ ns.length ≤ 63 ∧ ∀ H', Q (.bl true) H'
/-- a value that is drawn for a row: good or odd, whatever stands in the list D -/
def Rw9 (C F D : Addr) (H : Hp) (v : V) (t : Bool) : Prop := (t = true ∧ ∃ a rw, v = .ref a ∧ Row9 C H a rw) ∨ (t = false ∧ ∀ l, Od9 C F (L2.upd H D (.lst l)) v)
theorem Rw9.kp {C F D b : Addr} {H H' : Hp} {n : Nat} {v : V} {t : Bool} (B : Bx H b n) (Db : D ≠ b) (k : Kp b H H') (h : Rw9 C F D H v t) : Rw9 C F D H' v t := by
  rcases h with ⟨e, a, rw, ev, h⟩ | ⟨e, h⟩
  · exact .inl ⟨e, a, rw, ev, h.kp B k⟩
  · refine .inr ⟨e, fun l => (h l).kp (b := b) (n := n) ?_ fun p o np eo => ?_⟩
    · obtain ⟨x, y, z, hb, r⟩ := B
      exact ⟨x, y, z, by rw [upd_ne Db.symm]; exact hb, r⟩
    · by_cases ep : p = D
      · rw [ep, upd_same] at eo ⊢
        exact eo
      · rw [upd_ne ep] at eo ⊢
        exact k p o np eo
theorem Rw9.upd {C F D : Addr} {H : Hp} {v : V} {t : Bool} {l l2 : List V} (hD : H D = some (.lst l)) (h : Rw9 C F D H v t) : Rw9 C F D (L2.upd H D (.lst l2)) v t := by
  rcases h with ⟨e, a, rw, ev, items, h1, h2, h3⟩ | ⟨e, h⟩
  · refine .inl ⟨e, a, rw, ev, items, by rw [upd_ne (fun z => by rw [z, hD] at h1; cases h1)]; exact h1, h2.imp fun _ _ x => ?_, h3⟩
    obtain ⟨h, g⟩ := x
    refine ⟨?_, g⟩
    rcases h with ⟨y, ey, dx, px⟩ | h
    · exact .inl ⟨y, ey, dx, by rw [upd_ne (fun z => by rw [z, hD] at px; cases px)]; exact px⟩
    · exact .inr h
  · exact .inr ⟨e, fun l3 => by rw [upd_upd]; exact h l3⟩
theorem Rw9.od {C F D : Addr} {H : Hp} {v : V} {l : List V} (hD : H D = some (.lst l)) (h : Rw9 C F D H v false) : Od9 C F H v := by
  rcases h with ⟨e, _⟩ | ⟨_, h⟩
  · cases e
  · refine (h l).same fun p o e => ?_
    by_cases ep : p = D
    · rw [ep, upd_same] at e
      cases e
      rw [ep]
      exact hD
    · rw [upd_ne ep] at e
      exact e
theorem first_false : ∀ {bs : List Bool}, false ∈ bs → ∃ j : Nat, bs[j]? = some false ∧ ∀ m : Nat, m < j → bs[m]? = some true
  | [], h => nomatch h
  | false :: bs, _ => ⟨0, rfl, fun m h => absurd h (Nat.not_lt_zero m)⟩
  | true :: bs, h => by
    have h2 : false ∈ bs := by
      rcases List.mem_cons.mp h with e | e
      · cases e
      · exact e
    obtain ⟨j, h3, h4⟩ := first_false h2
    refine ⟨j + 1, by simpa using h3, fun m hm => ?_⟩
    cases m with
    | zero => rfl
    | succ m => simpa using h4 m (by omega)
theorem in_false (bs : List Bool) : inV (.bl false) (bs.map V.bl) = decide (false ∈ bs) := by
  rw [Bool.eq_iff_iff, decide_eq_true_eq]
  unfold inV
  rw [List.any_eq_true]
  constructor
  · rintro ⟨y, hy, e⟩
    obtain ⟨b, hb, rfl⟩ := List.mem_map.mp hy
    cases b with
    | false => exact hb
    | true => exact absurd e (by decide +kernel)
  · intro h
    exact ⟨.bl false, List.mem_map.mpr ⟨false, h, rfl⟩, by decide +kernel⟩
theorem flat_bls (bs : List Bool) : (bs.map V.bl).all flatV = true := by
  rw [List.all_eq_true]
  intro x hx
  obtain ⟨b, _, rfl⟩ := List.mem_map.mp hx
  rfl
theorem rows_true {C F D : Addr} {H : Hp} : ∀ {vals : List V} {bs : List Bool}, Lk (Rw9 C F D H) vals bs → false ∉ bs → ∃ (as : List Addr) (rws : List Row), vals = as.map V.ref ∧ Lk (Row9 C H) as rws
  | _, _, .nil, _ => ⟨[], [], rfl, .nil⟩
  | _, _, .cons h r, nf => by
    obtain ⟨as, rws, e, hr⟩ := rows_true r fun m => nf (List.mem_cons_of_mem _ m)
    rcases h with ⟨_, a, rw, rfl, h⟩ | ⟨e2, _⟩
    · exact ⟨a :: as, rw :: rws, by rw [e]; rfl, .cons h hr⟩
    · rw [e2] at nf
      exact absurd List.mem_cons_self nf
theorem sum_both {K : PySem.W.Frag} {l z : Addr} {bs : List Addr} {xss : List (List V)} {H : Hp} {Q : VK} (hl : SqL K H l (bs.map V.ref)) (hz : H z = some (.lst [])) (len : bs.length = xss.length)
    (at_ : ∀ (i : Nat) b xs, bs[i]? = some b → xss[i]? = some xs → H b = some (.lst xs)) (le : xss.flatten.length ≤ sizeLine) (q : ∀ p H', Same H H' → H' p = some (.lst xss.flatten) → Q (.ref p) H') : rSumL K [.ref l] [.ref z] H Q := by
  refine ⟨l, z, bs, xss, rfl, rfl, hl, hz, len, at_, le, fun e => q z H (Same.refl H) ?_, fun _ p np => q p _ (same_nw np) upd_same⟩
  rw [e] at len
  rw [List.length_eq_zero_iff.mp len.symm]
  exact hz
section
variable {P : Program} {w : World} {K : PySem.W.Frag} {mg : Str → Option Value} {base : Heap}
abbrev NLw : List Str := ["_law_script", "_law_k", "_law_box_here", "_law_good_here", "_law_rows", "_law_due", "_law_row", "_law_found", "_law_lone", "_law_chosen", "_law_facts", "_law_names", "_law_turn", "_law_right"]
theorem scLaw : FnScope NLw ["_law_script"] (defScope sLaw) := ⟨rfl, rfl, rfl, by decide +kernel, rfl, by decide +kernel, by decide +kernel⟩
theorem ok_law {f_ fC fB ft fG fO fRt fM fT fI fA fL C F S cR cF fP fF fS : Addr} {fd fdC fdB fdt fdG fdO fdRt fdM fdT fdA fdL dP dF dS : FuncData}
    (F0 : Fun K "law" "law" sLaw f_ fd) (B : Blt mg) (mR : mg "repr" = none) (mSum : mg "sum" = none) (mSet : mg "set" = none) (mSort : mg "sorted" = none) (mTup : mg "tuple" = none)
    (T : Tk P w K mg base ft fdt) (GC : D1 P w K mg base "_law_cell" 1 ["_law_script", "_law_k"] (spCell K) fC fdC) (GB : D1 P w K mg base "_law_box" 1 ["_law_cell_here"] spBox fB fdB)
    (GG : D1 P w K mg base "_law_good" 5 ["_law_box_here"] (spGood9 C) fG fdG) (GO : D1 P w K mg base "_law_odd" 10 ["_law_box_here"] (spOdd9 C F) fO fdO) (GRt : D1 P w K mg base "_law_roots" 4 ["_law_row"] (spLRoots C) fRt fdRt) (GM : D1 P w K mg base "_law_made" 11 ["_law_rows"] (spMade9S K C F) fM fdM)
    (GT : FnG P w K mg base CX0 12 fT fdT ["_law_box_here", "_law_facts", "_law_names"] (spThings K C F)) (mT : mg "_law_things_right" = some (.ref fT)) (kT : PySem.W.keepIn K (.ref fT) = true) (bT_ : Binds K fdT ["_law_box_here", "_law_facts", "_law_names"] [])
    (TF : Fcl K mg F) (YF : Pty K F) (MF : Mk K F fI) (GI : FnR P w K mg base (L2.CX P w) 8 fI (spMakeF K C F cR cF)) (GA : FnOk P w K mg base (L2.CX P w) 10 fA fdA ["self", "other"] (spAnd K F C cF)) (bA : Binds K fdA ["self", "other"] []) (TA : Lty K F .BitAnd fA)
    (GLn : FnOk P w K mg base CX0 1 fL fdL ["self"] (spLenF F C)) (bL : Binds K fdL ["self"] []) (iL : PySem.W.findIn K (.ref F) "__len__" = some (some (.ref fL))) (jL : PySem.W.isFn K (.ref fL) = true)
    (N : Npl K C) (NM : Npc K C) (kF : PySem.W.kitOne K (.ref F) (.type "tuple") = some false) (SH : Shows P w K mg base C F S fP fF fS dP dF dS) :
    FnG P w K mg base CX0 13 f_ fd ["_law_script"] (spLaw K) := by
  refine fun_okG F0 scLaw (fun vs H Q E h => ?_) (fun cdv A outer s H vs Q E hg hr h => ?_)
  · obtain ⟨a, ns, rfl, _⟩ := h
    rfl
  · obtain ⟨a, ns, rfl, hS, hlen, q⟩ := h
    have nd := scLaw.nd
    have hr1 : Room 1 _ := hr.mono (by decide)
    have hr2 : Room 2 _ := hr.mono (by decide)
    have hr4 : Room 4 _ := hr.mono (by decide)
    have hr5 : Room 5 _ := hr.mono (by decide)
    have hr6 : Room (4 + 2) _ := hr.mono (by decide)
    have hr9 : Room 9 _ := hr.mono (by decide)
    have hr10 : Room 10 _ := hr.mono (by decide)
    have hr11 : Room 11 _ := hr.mono (by decide)
    refine ⟨_, (pss_cons (ps_for PassesOwn.never rfl (pi_range1 rfl B.range (pa_cons (pe_callB (call_max2 rfl) (by rfl) B.max (by decide +kernel) (pa_cons pe_int (pa_cons (pe_callB (call_min2 rfl) (by rfl) B.min (by decide +kernel) (pa_cons pe_int (pa_cons (pe_callB call_len_seq (by rfl) B.len PySem.boot_len (pa_cons (pv 0) pa_nil)) pa_nil))) pa_nil))) pa_nil)) (pg_name (i := 1) nd rfl (Or.inl rfl)) (pss_cons (ps_set (i := 2) nd rfl (Or.inr rfl) (pe_call GB.ok hr1 (by rfl) GB.m GB.k GB.b .nil pass0 (pa_cons (pe_call GC.ok hr1 (by rfl) GC.m GC.k GC.b .nil pass0 (pa_cons (pv 0) (pa_cons (pv 1) pa_nil))) pa_nil)))
      (pss_cons (ps_setLc (i := 3) (own := [("_law_turn", 12)]) (g := gName 12) (tt := tYes) rfl nd rfl rfl (sw_true rfl rfl rfl (by decide +kernel)) (pi_range1 rfl B.range (pa_cons (pe_op op_add pe_int (pe_call T.ok hr1 (by rfl) T.m T.k T.b .nil pass0 (pa_cons (pv 2) (pa_cons pe_int pa_nil)))) pa_nil)) (blkOk_by (N := ["_law_script", "_law_k", "_law_box_here", "_law_good_here", "_law_rows", "_law_due", "_law_row", "_law_found", "_law_lone", "_law_chosen", "_law_facts", "_law_names", "_law_turn", "_law_right"]) (sc := defScope sLaw) (by decide +kernel)) (fun _ _ _ _ _ => (pg_name (i := 12) nd rfl (Or.inl rfl))) (fun _ _ _ _ _ => pts_nil) (fun _ _ _ _ _ => (pe_cmpR op_gt (pe_call T.ok hr1 (by rfl) T.m T.k T.b .nil pass0 (pa_cons (pv 2) (pa_cons pe_int pa_nil))) pe_int (nomark _))))
      (pss_cons (ps_setLc (i := 4) (own := [("_law_right", 13)]) (g := gName 13) (tt := tYes) rfl nd rfl rfl (sw_true rfl rfl rfl (by decide +kernel)) (pi_list (pv 3)) (blkOk_by (N := ["_law_script", "_law_k", "_law_box_here", "_law_good_here", "_law_rows", "_law_due", "_law_row", "_law_found", "_law_lone", "_law_chosen", "_law_facts", "_law_names", "_law_turn", "_law_right"]) (sc := defScope sLaw) (by decide +kernel)) (fun _ _ _ _ _ => (pg_name (i := 13) nd rfl (Or.inl rfl))) (fun _ _ _ _ _ => pts_nil) (fun _ _ _ _ _ => (pe_ifExp (pt_val (pv 13)) (pe_call GG.ok hr5 (by rfl) GG.m GG.k GG.b .nil pass0 (pa_cons (pv 2) pa_nil)) (pe_call GO.ok hr10 (by rfl) GO.m GO.k GO.b .nil pass0 (pa_cons (pv 2) pa_nil)))))
      (pss_cons (ps_set (i := 5) nd rfl (Or.inl rfl) (pe_lst (pa_cons pe_str pa_nil)))
      (pss_cons (ps_if (pt_cmpR op_in_seq pe_bl (pv 3) (by rfl)) (pss_one (ps_set (i := 5) nd rfl (Or.inl rfl) (pe_lst (pa_cons pe_str (pa_cons (pe_ix ix_list (pv 4) (pe_bm PySem.F.plainAttrs_list PySem.F.slot_list_index PySem.F.type_list_index mt_index (pv 3) (pa_cons pe_bl pa_nil)) (fun _ _ => rfl)) pa_nil))))) (pss_one (ps_if (pt_cmpR op_gt (pe_callB cr_lenSet (by rfl) B.len PySem.boot_len (pa_cons (pe_callTy (cr_setTxt rfl) (by rfl) mSet (by decide +kernel) (pa_cons (pe_callBK (cr_sumL rfl) (by rfl) mSum (by decide +kernel) (pa_cons (pe_lc (own := [("_law_row", 6)]) (g := gName 6) (tt := tYes) rfl nd (pi_list (pv 4)) (blkOk_by (N := ["_law_script", "_law_k", "_law_box_here", "_law_good_here", "_law_rows", "_law_due", "_law_row", "_law_found", "_law_lone", "_law_chosen", "_law_facts", "_law_names", "_law_turn", "_law_right"]) (sc := defScope sLaw) (by decide +kernel)) (fun _ _ _ _ _ => (pg_name (i := 6) nd rfl (Or.inl rfl))) (fun _ _ _ _ _ => pts_nil) (fun _ _ _ _ _ => (pe_call GRt.ok hr4 (by rfl) GRt.m GRt.k GRt.b .nil pass0 (pa_cons (pv 6) pa_nil)))) pa_nil) (pk_cons (pe_lst pa_nil) pk_nil)) pa_nil)) pa_nil)) pe_int (nomark _)) (pss_one (ps_set (i := 5) nd rfl (Or.inl rfl) (pe_lst (pa_cons pe_str (pa_cons (pe_callTy call_tuple_of (by rfl) mTup (by decide +kernel) (pa_cons (pv 4) pa_nil)) pa_nil))))) pss_nil)))
      (pss_cons (ps_set (i := 7) nd rfl (Or.inl rfl) (pe_call GM.ok hr11 (by rfl) GM.m GM.k GM.b .nil pass0 (pa_cons (pv 4) pa_nil)))
      (pss_cons (ps_if (pt_cmpR op_ne (pe_callB (call_reprWS hg hr6) (by rfl) mR (by decide +kernel) (pa_cons (pv 7) pa_nil)) (pe_callB (call_reprWS hg hr6) (by rfl) mR (by decide +kernel) (pa_cons (pv 5) pa_nil)) (nomark _)) (pss_one (ps_ret pe_bl)) pss_nil)
      (pss_cons (ps_set (i := 8) nd rfl (Or.inl rfl) (pe_lst (pa_cons (pe_lst pa_nil) (pa_cons (pe_lst (pa_cons (pe_tup (pa_cons pe_str (pa_cons pe_int (pa_cons pe_int pa_nil)))) pa_nil)) (pa_cons (pe_lst (pa_cons (pe_tup (pa_cons pe_str (pa_cons pe_str pa_nil))) pa_nil)) (pa_cons (pe_lst (pa_cons (pe_tup (pa_cons pe_str (pa_cons pe_str (pa_cons pe_int pa_nil)))) (pa_cons (pe_tup (pa_cons pe_str (pa_cons pe_str pa_nil))) (pa_cons (pe_tup (pa_cons pe_str (pa_cons pe_int (pa_cons pe_str pa_nil)))) pa_nil)))) pa_nil))))))
      (pss_cons (ps_set (i := 8) nd rfl (Or.inl rfl) (pe_op op_cat (pv 8) (pe_lst (pa_cons (pe_lst (pa_cons (pe_tup (pa_cons pe_str (pa_cons pe_str (pa_cons pe_str pa_nil)))) (pa_cons (pe_tup (pa_cons pe_str (pa_cons pe_str pa_nil))) pa_nil))) (pa_cons (pe_lst (pa_cons (pe_tup (pa_cons pe_str (pa_cons pe_int pa_nil))) (pa_cons (pe_tup (pa_cons pe_str (pa_cons pe_str pa_nil))) (pa_cons (pe_tup (pa_cons pe_str (pa_cons pe_str (pa_cons pe_str pa_nil)))) pa_nil)))) pa_nil)))))
      (pss_cons (ps_par (i := 9) (j := 10) rfl nd rfl rfl (by decide) rfl rfl (pa_cons (pe_ix ix_list (pv 8) (pe_call T.ok hr1 (by rfl) T.m T.k T.b .nil pass0 (pa_cons (pv 2) (pa_cons pe_int pa_nil))) (fun _ _ => rfl)) (pa_cons (pe_makeR0 (E := E0) MF GI hr9 (by rfl) TF.mgF pass_all) pa_nil)) (by rfl))
      (pss_cons (ps_for PassesOwn.never rfl (pi_list (pv 9)) (pg_name (i := 6) nd rfl (Or.inl rfl)) (pss_one (ps_set (i := 10) nd rfl (Or.inl rfl) (pe_leftS (E := fun _ => E0) GA hr10 bA TA (fun σ => pass_no) (pv 10) (StX.pe_makeR (E := E0) MF GI hr9 (by rfl) TF.mgF pass_all (pa_cons (pv 6) pa_nil))))))
      (pss_cons (ps_set (i := 11) nd rfl (Or.inl rfl) (pe_callB (cr_sortSet rfl) (by rfl) mSort (by decide +kernel) (pa_cons (pe_callTy (cr_setTxt rfl) (by rfl) mSet (by decide +kernel) (pa_cons (pe_callBK (cr_sumL rfl) (by rfl) mSum (by decide +kernel) (pa_cons (pe_lc (own := [("_law_row", 6)]) (g := gName 6) (tt := tYes) rfl nd (pi_list (pv 9)) (blkOk_by (N := ["_law_script", "_law_k", "_law_box_here", "_law_good_here", "_law_rows", "_law_due", "_law_row", "_law_found", "_law_lone", "_law_chosen", "_law_facts", "_law_names", "_law_turn", "_law_right"]) (sc := defScope sLaw) (by decide +kernel)) (fun _ _ _ _ _ => (pg_name (i := 6) nd rfl (Or.inl rfl))) (fun _ _ _ _ _ => pts_nil) (fun _ _ _ _ _ => (pe_call GRt.ok hr4 (by rfl) GRt.m GRt.k GRt.b .nil pass0 (pa_cons (pv 6) pa_nil)))) pa_nil) (pk_cons (pe_lst pa_nil) pk_nil)) pa_nil)) pa_nil)))
      (pss_one (ps_if (PW.pt (pw_or (pt_not (pt_val (pe_callG GT hg hr (by rfl) mT kT bT_ .nil pass0 (pa_cons (pv 2) (pa_cons (pv 10) (pa_cons (pv 11) pa_nil)))))) (pw_or1 (pt_cmpR op_ne (pe_callB (call_lenO GLn hr2 bL iL jL) (by rfl) B.len PySem.boot_len (pa_cons (pv 10) pa_nil)) (pe_callB call_len_seq (by rfl) B.len PySem.boot_len (pa_cons (pv 9) pa_nil)) (nomark _))))) (pss_one (ps_ret pe_bl)) pss_nil)))))))))))))))
      (pss_one (ps_ret pe_bl))), ?_⟩
    have one : ∀ {H1 : Hp} {p : Addr} (o : HO), H1 p = none → ∃ H2, H2 = upd H1 p o ∧ Same H1 H2 ∧ H2 p = some o := fun o n => ⟨_, rfl, same_nw n, upd_same⟩
    have sb : 1000 ≤ sizeLine := by decide
    refine ⟨_, rfl, a, _, rfl, .inl hS, _, _, rfl, _, _, rfl, ?_⟩
    generalize hm : (if (if (((ns.map V.int).length : Nat) : Int) < 8 then (((ns.map V.int).length : Nat) : Int) else 8) > 2 then (if (((ns.map V.int).length : Nat) : Int) < 8 then (((ns.map V.int).length : Nat) : Int) else 8) else 2) = m
    have m0 : 2 ≤ m ∧ m ≤ 8 := by
      rw [← hm]
      split <;> split <;> omega
    refine ⟨m, rfl, by omega, by omega, for_range (lo := 0) (n := m.toNat) (fun _ σ H' => ∃ v1 v2 v3 v4 v5 v6 v7 v8 v9 v10 v11 v12 v13 : Option V, σ = [some (.ref a), v1, v2, v3, v4, v5, v6, v7, v8, v9, v10, v11, v12, v13] ∧ Same H H')
      ⟨_, _, _, _, _, _, _, _, _, _, _, _, _, rfl, Same.refl H⟩ ?_ fun σ H' _ => q H'⟩
    rintro i σ H0 hi ⟨v1, v2, v3, v4, v5, v6, v7, v8, v9, v10, v11, v12, v13, rfl, s0⟩
    generalize hD : ({ nx := _, rt := _, bk := _, ct := _ } : Ends) = DD
    have dnx : ∀ σ' H', (∃ v1 v2 v3 v4 v5 v6 v7 v8 v9 v10 v11 v12 v13 : Option V, σ' = [some (V.ref a), v1, v2, v3, v4, v5, v6, v7, v8, v9, v10, v11, v12, v13] ∧ Same H H') → DD.nx σ' H' := fun σ' H' h => by
      rw [← hD]
      exact h
    clear hD
    have ei : (0 + (i : Int)) = ((i : Nat) : Int) := by omega
    rw [ei]
    refine ⟨_, rfl, _, rfl, a, ns, i, rfl, sqL_keep hS s0, by omega, fun c => ?_⟩
    refine ⟨c, rfl, fun b H3 nb B3 K3 => ?_⟩
    -- which rows are good
    refine ⟨_, rfl, b, 0, 4, rfl, B3, by omega, by decide, by decide, fun r H5 r0 r1 B5 K5 => ⟨_, _, rfl, rfl, _, rfl, by omega, by omega, fun D nD => ?_⟩⟩
    have Db : D ≠ b := B5.new nD
    refine lc_range (lo := 0) (n := (2 + r).toNat) (fun i H' => Bx H' b (1 + i) ∧ Kp b H5 H' ∧ ∃ bs : List Bool, H' D = some (.lst (bs.map V.bl)) ∧ bs.length = i)
      ⟨B5.upd nD, Kp.fresh nD, [], upd_same, rfl⟩ ?_ ?_
    · rintro i2 H6 hi2 ⟨B6, K6, bs, hD, lb⟩
      refine ⟨rfl, yesT ?_⟩
      refine ⟨_, rfl, b, 1 + i2, 5, rfl, B6, by omega, by decide, by decide, fun r7 H7 r70 r71 B7 K7 => ?_⟩
      have hD7 := K7 _ _ Db hD
      refine ⟨_, _, rfl, rfl, _, hD7, ?_, ?_, ?_, bs ++ [decide (r7 > 0)], by rw [upd_same, List.map_append]; rfl, ?_⟩
      · rw [List.length_map]
        omega
      · obtain ⟨w1, w2, w3, e, h⟩ := B7.more (show 1 + i2 + 1 ≤ 1 + (i2 + 1) by omega)
        exact ⟨w1, w2, w3, by rw [upd_ne Db.symm]; exact e, h⟩
      · intro p o np e
        rw [upd_ne (fun z => by rw [z, nD] at e; cases e)]
        exact K7 p o np (K6 p o np e)
      · rw [List.length_append, lb]
        rfl
    rintro H6 ⟨B6, K6, bs, hD, lb⟩
    have lb2 : 2 ≤ bs.length ∧ bs.length ≤ 5 := by omega
    have n6 : 1 + (2 + r).toNat ≤ 10 := by omega
    -- the rows
    refine ⟨_, rfl, D, rfl, ⟨_, SqL.of hD⟩, fun D2 nD2 => ?_⟩
    have B6 := B6.more n6
    have D2b : D2 ≠ b := B6.new nD2
    have oldD2 : ∀ p o, H6 p = some o → p ≠ D2 := fun p o e => ne_of_none e nD2
    refine lc_it (walk_list (xs := bs.map V.bl)) (fun i H' => Bx H' b (10 + 3 * i) ∧ Kp b H6 H' ∧ ∃ vals : List V, H' D2 = some (.lst vals) ∧ Lk (Rw9 C F D2 H') vals (bs.take i))
      ⟨B6.upd nD2, Kp.fresh nD2, [], upd_same, by rw [List.take_zero]; exact .nil⟩ (fun i H' _ h => SqL.of (h.2.1 _ _ Db hD)) ?_ ?_
    · rintro i2 x G1 G2 hi2 ⟨B7, K7, vals, hD7, lk⟩ ⟨rfl, hx⟩
      rw [List.getElem?_map] at hx
      obtain ⟨t, ht, rfl⟩ := Option.map_eq_some_iff.mp hx
      rw [List.length_map] at hi2
      have tk : bs.take (i2 + 1) = bs.take i2 ++ [t] := by rw [List.take_succ, ht]; rfl
      have lv := lk.length
      rw [List.length_take] at lv
      refine ⟨rfl, yesT ?_⟩
      cases t with
      | true =>
        refine ⟨_, rfl, true, rfl, iteT ?_⟩
        refine ⟨_, rfl, b, 10 + 3 * i2, rfl, B7, by omega, fun ra rw G3 rg nra rab B8 K8 => ?_⟩
        have hD8 := K8 _ _ D2b hD7
        have rv : Rw9 C F D2 G3 (.ref ra) true := .inl ⟨rfl, ra, rw, rfl, rg⟩
        refine ⟨_, hD8, by omega, ?_, ?_, vals ++ [V.ref ra], upd_same, ?_⟩
        · obtain ⟨w1, w2, w3, e, h⟩ := B8.more (show 10 + 3 * i2 + 3 ≤ 10 + 3 * (i2 + 1) by omega)
          exact ⟨w1, w2, w3, by rw [upd_ne D2b.symm]; exact e, h⟩
        · intro p o np e
          rw [upd_ne (fun z => by rw [z, nD2] at e; cases e)]
          exact K8 p o np (K7 p o np e)
        · rw [tk]
          exact (lk.imp fun _ _ x => (x.kp B7 D2b K8).upd hD8).append (Lk.one (rv.upd hD8))
      | false =>
        refine ⟨_, rfl, false, rfl, iteF ?_⟩
        refine ⟨_, rfl, b, 10 + 3 * i2, rfl, B7, by omega, fun v G3 od nva B8 K8 => ?_⟩
        have hD8 := K8 _ _ D2b hD7
        have rv : Rw9 C F D2 G3 v false := .inr ⟨rfl, fun l => od _ fun p o np pb e => by
          rw [upd_ne (fun z => by rw [z, hD7] at np; cases np)]
          exact e⟩
        refine ⟨_, hD8, by omega, ?_, ?_, vals ++ [v], upd_same, ?_⟩
        · obtain ⟨w1, w2, w3, e, h⟩ := B8.more (show 10 + 3 * i2 + 1 ≤ 10 + 3 * (i2 + 1) by omega)
          exact ⟨w1, w2, w3, by rw [upd_ne D2b.symm]; exact e, h⟩
        · intro p o np e
          rw [upd_ne (fun z => by rw [z, nD2] at e; cases e)]
          exact K8 p o np (K7 p o np e)
        · rw [tk]
          exact (lk.imp fun _ _ x => (x.kp B7 D2b K8).upd hD8).append (Lk.one (rv.upd hD8))
    rintro H7 ⟨B7, K7, vals, hD7, lk⟩
    rw [List.length_map] at B7
    rw [List.length_map, List.take_of_length_le (by omega)] at lk
    have lvb := lk.length
    have Db7 := B6.more (show 10 ≤ 10 by omega)
    have hb7 : Bx H7 b 30 := B7.more (by omega)
    have hDo : H7 D = some (.lst (bs.map V.bl)) := K7 _ _ Db hD
    -- what is due
    refine ⟨(by show 1 ≤ sizeLine; decide), fun p8 n8 => ?_⟩
    obtain ⟨H8, e, s8, t8⟩ := one (.lst [V.str "made"]) n8
    rw [← e]
    clear e
    have hD8 := s8 _ _ hDo
    refine ⟨_, rfl, D, bs.map V.bl, rfl, .inl (SqL.of hD8), rfl, flat_bls bs, _, rfl, ?_⟩
    rw [show (if false = true then !inV (.bl false) (bs.map V.bl) else inV (.bl false) (bs.map V.bl)) = decide (false ∈ bs) from in_false bs]
    generalize hT : tSeq (tAsg _ (gName 7)) _ = TR
    have rest : ∀ (G : Hp) (pd : Addr) (t : Str), Same H7 G → Bx G b 30 → (∀ (QQ : VK) (EE : XK), (∀ pf G', Same G G' → Shn (cxOf CX0 P w K mg base NLw "law" (defScope sLaw) f_ cdv A outer s H E).nox G' pf t → QQ (.ref pf) G') → spMade9S K C F [.ref D2] G QQ EE) → Shn (cxOf CX0 P w K mg base NLw "law" (defScope sLaw) f_ cdv A outer s H E).nox G pd t →
        TR DD [some (.ref a), some (.int ((i : Nat) : Int)), some (.ref b), some (.ref D), some (.ref D2), some (.ref pd), v6, v7, v8, v9, v10, v11, v12, v13] G := by
      intro G pd t sG BG hmade hdue
      rw [← hT]
      clear hT
      refine ⟨_, rfl, hmade _ _ fun pf G2 s2 shf => ?_⟩
      refine ⟨_, rfl, shf G2 _ (Same.refl G2) fun H10 s10 => ⟨_, rfl, hdue H10 _ (s2.trans s10) fun H11 s11 => ⟨rfl, _, rfl, ?_⟩⟩⟩
      rw [ne_not9]
      refine iteF ?_
      have s711 := sG.trans (s2.trans (s10.trans s11))
      refine ⟨(by show 0 ≤ sizeLine; decide), fun c1 m1 => ?_⟩
      obtain ⟨L1, e, u1, w1⟩ := one (.lst []) m1
      rw [← e]
      clear e
      refine ⟨(by show 3 ≤ sizeLine; decide), fun c2 m2 => ?_⟩
      obtain ⟨L2, e, u2, w2⟩ := one (.tup [V.str "at_most", V.int 1, V.int 2]) m2
      rw [← e]
      clear e
      refine ⟨(by show 1 ≤ sizeLine; decide), fun c3 m3 => ?_⟩
      obtain ⟨L3, e, u3, w3⟩ := one (.lst [V.ref c2]) m3
      rw [← e]
      clear e
      refine ⟨(by show 2 ≤ sizeLine; decide), fun c4 m4 => ?_⟩
      obtain ⟨L4, e, u4, w4⟩ := one (.tup [V.str "page", V.str "n"]) m4
      rw [← e]
      clear e
      refine ⟨(by show 1 ≤ sizeLine; decide), fun c5 m5 => ?_⟩
      obtain ⟨L5, e, u5, w5⟩ := one (.lst [V.ref c4]) m5
      rw [← e]
      clear e
      refine ⟨(by show 3 ≤ sizeLine; decide), fun c6 m6 => ?_⟩
      obtain ⟨L6, e, u6, w6⟩ := one (.tup [V.str "at_most", V.str "n", V.int 3]) m6
      rw [← e]
      clear e
      refine ⟨(by show 2 ≤ sizeLine; decide), fun c7 m7 => ?_⟩
      obtain ⟨L7, e, u7, w7⟩ := one (.tup [V.str "page", V.str "n"]) m7
      rw [← e]
      clear e
      refine ⟨(by show 3 ≤ sizeLine; decide), fun c8 m8 => ?_⟩
      obtain ⟨L8, e, u8, w8⟩ := one (.tup [V.str "at_most", V.int 0, V.str "m"]) m8
      rw [← e]
      clear e
      refine ⟨(by show 3 ≤ sizeLine; decide), fun c9 m9 => ?_⟩
      obtain ⟨L9, e, u9, w9⟩ := one (.lst [V.ref c6, V.ref c7, V.ref c8]) m9
      rw [← e]
      clear e
      refine ⟨(by show 4 ≤ sizeLine; decide), fun c10 m10 => ?_⟩
      obtain ⟨L10, e, u10, w10⟩ := one (.lst [V.ref c1, V.ref c3, V.ref c5, V.ref c9]) m10
      rw [← e]
      clear e
      refine ⟨_, rfl, (by show 3 ≤ sizeLine; decide), fun c11 m11 => ?_⟩
      obtain ⟨L11, e, u11, w11⟩ := one (.tup [V.str "at_most", V.str "n", V.str "m+1"]) m11
      rw [← e]
      clear e
      refine ⟨(by show 2 ≤ sizeLine; decide), fun c12 m12 => ?_⟩
      obtain ⟨L12, e, u12, w12⟩ := one (.tup [V.str "page", V.str "n"]) m12
      rw [← e]
      clear e
      refine ⟨(by show 2 ≤ sizeLine; decide), fun c13 m13 => ?_⟩
      obtain ⟨L13, e, u13, w13⟩ := one (.lst [V.ref c11, V.ref c12]) m13
      rw [← e]
      clear e
      refine ⟨(by show 2 ≤ sizeLine; decide), fun c14 m14 => ?_⟩
      obtain ⟨L14, e, u14, w14⟩ := one (.tup [V.str "page", V.int 0]) m14
      rw [← e]
      clear e
      refine ⟨(by show 2 ≤ sizeLine; decide), fun c15 m15 => ?_⟩
      obtain ⟨L15, e, u15, w15⟩ := one (.tup [V.str "page", V.str "m"]) m15
      rw [← e]
      clear e
      refine ⟨(by show 3 ≤ sizeLine; decide), fun c16 m16 => ?_⟩
      obtain ⟨L16, e, u16, w16⟩ := one (.tup [V.str "at_most", V.str "n", V.str "m"]) m16
      rw [← e]
      clear e
      refine ⟨(by show 3 ≤ sizeLine; decide), fun c17 m17 => ?_⟩
      obtain ⟨L17, e, u17, w17⟩ := one (.lst [V.ref c14, V.ref c15, V.ref c16]) m17
      rw [← e]
      clear e
      refine ⟨(by show 2 ≤ sizeLine; decide), fun c18 m18 => ?_⟩
      obtain ⟨L18, e, u18, w18⟩ := one (.lst [V.ref c13, V.ref c17]) m18
      rw [← e]
      clear e
      refine ⟨_, _, _, _, rfl, rfl, u18 _ _ (u17 _ _ (u16 _ _ (u15 _ _ (u14 _ _ (u13 _ _ (u12 _ _ (u11 _ _ (w10)))))))), w18, (by show 6 ≤ sizeLine; decide), fun c19 m19 => ?_⟩
      obtain ⟨L19, e, u19, w19⟩ := one (.lst ([V.ref c1, V.ref c3, V.ref c5, V.ref c9] ++ [V.ref c13, V.ref c17])) m19
      rw [← e]
      clear e
      have t0 : Same H11 H11 := Same.refl H11
      have t1 := t0.trans u1
      have t2 := t1.trans u2
      have t3 := t2.trans u3
      have t4 := t3.trans u4
      have t5 := t4.trans u5
      have t6 := t5.trans u6
      have t7 := t6.trans u7
      have t8 := t7.trans u8
      have t9 := t8.trans u9
      have t10 := t9.trans u10
      have t11 := t10.trans u11
      have t12 := t11.trans u12
      have t13 := t12.trans u13
      have t14 := t13.trans u14
      have t15 := t14.trans u15
      have t16 := t15.trans u16
      have t17 := t16.trans u17
      have t18 := t17.trans u18
      have t19 := t18.trans u19
      have BH : Bx H11 b 30 := BG.same (s2.trans (s10.trans s11))
      refine ⟨_, rfl, _, rfl, b, 30, 6, rfl, BH.same t19, by omega, by decide, by decide, fun r2 HR r20 r21 BR KR => ?_⟩
      obtain ⟨cv, hcv, hcm⟩ := atI_in (l := [V.ref c1, V.ref c3, V.ref c5, V.ref c9] ++ [V.ref c13, V.ref c17]) r20 r21
      refine ⟨c19, _, _, _, rfl, rfl, SqL.of (KR _ _ ((BH.same t18).new m19) w19), hcv, ?_⟩
      have ch : ∃ (cl : Addr) (as2 : List Addr) (rws2 : List Row) (nm : List Str), cv = .ref cl ∧ HR cl = some (.lst (as2.map V.ref)) ∧ Lk (Row9 C HR) as2 rws2 ∧ Chs nm rws2 ∧ cl ≠ b := by
        have k1 := KR _ _ ((BH.same t0).new m1) (u19 _ _ (u18 _ _ (u17 _ _ (u16 _ _ (u15 _ _ (u14 _ _ (u13 _ _ (u12 _ _ (u11 _ _ (u10 _ _ (u9 _ _ (u8 _ _ (u7 _ _ (u6 _ _ (u5 _ _ (u4 _ _ (u3 _ _ (u2 _ _ (w1)))))))))))))))))))
        have k3 := KR _ _ ((BH.same t2).new m3) (u19 _ _ (u18 _ _ (u17 _ _ (u16 _ _ (u15 _ _ (u14 _ _ (u13 _ _ (u12 _ _ (u11 _ _ (u10 _ _ (u9 _ _ (u8 _ _ (u7 _ _ (u6 _ _ (u5 _ _ (u4 _ _ (w3)))))))))))))))))
        have k2 := KR _ _ ((BH.same t1).new m2) (u19 _ _ (u18 _ _ (u17 _ _ (u16 _ _ (u15 _ _ (u14 _ _ (u13 _ _ (u12 _ _ (u11 _ _ (u10 _ _ (u9 _ _ (u8 _ _ (u7 _ _ (u6 _ _ (u5 _ _ (u4 _ _ (u3 _ _ (w2))))))))))))))))))
        have k5 := KR _ _ ((BH.same t4).new m5) (u19 _ _ (u18 _ _ (u17 _ _ (u16 _ _ (u15 _ _ (u14 _ _ (u13 _ _ (u12 _ _ (u11 _ _ (u10 _ _ (u9 _ _ (u8 _ _ (u7 _ _ (u6 _ _ (w5)))))))))))))))
        have k4 := KR _ _ ((BH.same t3).new m4) (u19 _ _ (u18 _ _ (u17 _ _ (u16 _ _ (u15 _ _ (u14 _ _ (u13 _ _ (u12 _ _ (u11 _ _ (u10 _ _ (u9 _ _ (u8 _ _ (u7 _ _ (u6 _ _ (u5 _ _ (w4))))))))))))))))
        have k9 := KR _ _ ((BH.same t8).new m9) (u19 _ _ (u18 _ _ (u17 _ _ (u16 _ _ (u15 _ _ (u14 _ _ (u13 _ _ (u12 _ _ (u11 _ _ (u10 _ _ (w9)))))))))))
        have k6 := KR _ _ ((BH.same t5).new m6) (u19 _ _ (u18 _ _ (u17 _ _ (u16 _ _ (u15 _ _ (u14 _ _ (u13 _ _ (u12 _ _ (u11 _ _ (u10 _ _ (u9 _ _ (u8 _ _ (u7 _ _ (w6))))))))))))))
        have k7 := KR _ _ ((BH.same t6).new m7) (u19 _ _ (u18 _ _ (u17 _ _ (u16 _ _ (u15 _ _ (u14 _ _ (u13 _ _ (u12 _ _ (u11 _ _ (u10 _ _ (u9 _ _ (u8 _ _ (w7)))))))))))))
        have k8 := KR _ _ ((BH.same t7).new m8) (u19 _ _ (u18 _ _ (u17 _ _ (u16 _ _ (u15 _ _ (u14 _ _ (u13 _ _ (u12 _ _ (u11 _ _ (u10 _ _ (u9 _ _ (w8))))))))))))
        have k13 := KR _ _ ((BH.same t12).new m13) (u19 _ _ (u18 _ _ (u17 _ _ (u16 _ _ (u15 _ _ (u14 _ _ (w13)))))))
        have k11 := KR _ _ ((BH.same t10).new m11) (u19 _ _ (u18 _ _ (u17 _ _ (u16 _ _ (u15 _ _ (u14 _ _ (u13 _ _ (u12 _ _ (w11)))))))))
        have k12 := KR _ _ ((BH.same t11).new m12) (u19 _ _ (u18 _ _ (u17 _ _ (u16 _ _ (u15 _ _ (u14 _ _ (u13 _ _ (w12))))))))
        have k17 := KR _ _ ((BH.same t16).new m17) (u19 _ _ (u18 _ _ (w17)))
        have k14 := KR _ _ ((BH.same t13).new m14) (u19 _ _ (u18 _ _ (u17 _ _ (u16 _ _ (u15 _ _ (w14))))))
        have k15 := KR _ _ ((BH.same t14).new m15) (u19 _ _ (u18 _ _ (u17 _ _ (u16 _ _ (w15)))))
        have k16 := KR _ _ ((BH.same t15).new m16) (u19 _ _ (u18 _ _ (u17 _ _ (w16))))
        simp only [List.mem_append, List.mem_cons, List.not_mem_nil, or_false] at hcm
        rcases hcm with (rfl | rfl | rfl | rfl) | (rfl | rfl)
        · exact ⟨c1, [], [], [], rfl, k1, .nil, chs_of (l := []) (by decide +kernel) (.inl rfl) (by decide +kernel) (by decide +kernel) (by decide), (BH.same t0).new m1⟩
        · exact ⟨c3, [c2], [(("at_most" : Str), [(("" : Str), 1), (("" : Str), 2)])], [], rfl, k3, (.cons (row_most k2 (pv_num (by decide) (by decide)) (pv_num (by decide) (by decide))) .nil), chs_of (l := []) (by decide +kernel) (.inl rfl) (by decide +kernel) (by decide +kernel) (by decide), (BH.same t2).new m3⟩
        · exact ⟨c5, [c4], [(("page" : Str), [(("n" : Str), 0)])], [("n" : Str)], rfl, k5, (.cons (row_page k4 (pv_txt (z := "n") (k := 0) (by decide +kernel) (by decide +kernel) (.inr (.inl rfl)) (by decide +kernel) (by decide) (by decide +kernel))) .nil), chs_of (l := [("n" : Str)]) (by decide +kernel) (.inr (.inl rfl)) (by decide +kernel) (by decide +kernel) (by decide), (BH.same t4).new m5⟩
        · exact ⟨c9, [c6, c7, c8], [(("at_most" : Str), [(("n" : Str), 0), (("" : Str), 3)]), (("page" : Str), [(("n" : Str), 0)]), (("at_most" : Str), [(("" : Str), 0), (("m" : Str), 0)])], [("m" : Str), ("n" : Str)], rfl, k9, (.cons (row_most k6 (pv_txt (z := "n") (k := 0) (by decide +kernel) (by decide +kernel) (.inr (.inl rfl)) (by decide +kernel) (by decide) (by decide +kernel)) (pv_num (by decide) (by decide))) (.cons (row_page k7 (pv_txt (z := "n") (k := 0) (by decide +kernel) (by decide +kernel) (.inr (.inl rfl)) (by decide +kernel) (by decide) (by decide +kernel))) (.cons (row_most k8 (pv_num (by decide) (by decide)) (pv_txt (z := "m") (k := 0) (by decide +kernel) (by decide +kernel) (.inr (.inr (.inl rfl))) (by decide +kernel) (by decide) (by decide +kernel))) .nil))), chs_of (l := [("n" : Str), ("n" : Str), ("m" : Str)]) (by decide +kernel) (.inr (.inr rfl)) (by decide +kernel) (by decide +kernel) (by decide), (BH.same t8).new m9⟩
        · exact ⟨c13, [c11, c12], [(("at_most" : Str), [(("n" : Str), 0), (("m" : Str), 1)]), (("page" : Str), [(("n" : Str), 0)])], [("m" : Str), ("n" : Str)], rfl, k13, (.cons (row_most k11 (pv_txt (z := "n") (k := 0) (by decide +kernel) (by decide +kernel) (.inr (.inl rfl)) (by decide +kernel) (by decide) (by decide +kernel)) (pv_txt (z := "m") (k := 1) (by decide +kernel) (by decide +kernel) (.inr (.inr (.inl rfl))) (by decide +kernel) (by decide) (by decide +kernel))) (.cons (row_page k12 (pv_txt (z := "n") (k := 0) (by decide +kernel) (by decide +kernel) (.inr (.inl rfl)) (by decide +kernel) (by decide) (by decide +kernel))) .nil)), chs_of (l := [("n" : Str), ("m" : Str), ("n" : Str)]) (by decide +kernel) (.inr (.inr rfl)) (by decide +kernel) (by decide +kernel) (by decide), (BH.same t12).new m13⟩
        · exact ⟨c17, [c14, c15, c16], [(("page" : Str), [(("" : Str), 0)]), (("page" : Str), [(("m" : Str), 0)]), (("at_most" : Str), [(("n" : Str), 0), (("m" : Str), 0)])], [("m" : Str), ("n" : Str)], rfl, k17, (.cons (row_page k14 (pv_num (by decide) (by decide))) (.cons (row_page k15 (pv_txt (z := "m") (k := 0) (by decide +kernel) (by decide +kernel) (.inr (.inr (.inl rfl))) (by decide +kernel) (by decide) (by decide +kernel))) (.cons (row_most k16 (pv_txt (z := "n") (k := 0) (by decide +kernel) (by decide +kernel) (.inr (.inl rfl)) (by decide +kernel) (by decide) (by decide +kernel)) (pv_txt (z := "m") (k := 0) (by decide +kernel) (by decide +kernel) (.inr (.inr (.inl rfl))) (by decide +kernel) (by decide) (by decide +kernel))) .nil))), chs_of (l := [("m" : Str), ("n" : Str), ("m" : Str)]) (by decide +kernel) (.inr (.inr rfl)) (by decide +kernel) (by decide +kernel) (by decide), (BH.same t16).new m17⟩
      obtain ⟨cl, as2, rws2, nm, rfl, hcl, hR2, hch, clb⟩ := ch
      clear hcv hcm
      have K11R : Kp b H11 HR := (Kp.same t19).trans KR
      have lR2 := hR2.length
      have l3 := hch.2.2
      refine mk_factsA (as := []) (rws := []) .nil (by decide) two_nil fun f0 F1 z1 nf0 hf0 => ?_
      have hR3 : Lk (Row9 C F1) as2 rws2 := hR2.imp fun _ _ x => x.same z1
      have hcl1 := z1 _ _ hcl
      refine ⟨_, _, rfl, _, rfl, cl, rfl, ⟨_, SqL.of hcl1⟩, ?_⟩
      refine for_list (K := K) (a := cl) (xs := as2.map V.ref) (fun j σ H' => ∃ (x6 : Option V) (g : Addr), σ = [some (.ref a), some (.int ((i : Nat) : Int)), some (.ref b), some (.ref D), some (.ref D2), some (.ref pd), x6, some (.ref pf), some (.ref c19), some (.ref cl), some (.ref g), v11, v12, v13] ∧ Same F1 H' ∧ Fac F C H' g (rws2.take j)) ⟨_, f0, rfl, Same.refl F1, by rw [List.take_zero]; exact hf0⟩ (fun j σ H' _ ⟨_, _, _, s2, _⟩ => SqL.of (s2 _ _ hcl1)) ?_ ?_
      · rintro j x σ F2 hx ⟨x6, g, rfl, z2, hg⟩
        rw [List.getElem?_map] at hx
        obtain ⟨ra, ha, rfl⟩ := Option.map_eq_some_iff.mp hx
        obtain ⟨rw, hrw, r⟩ := hR3.get ha
        have lj : j < rws2.length := (List.getElem?_eq_some_iff.mp hrw).1
        generalize hDE : ({ nx := _, rt := _, bk := _, ct := _ } : Ends) = DE
        have enx : ∀ σ' H', (∃ (x6 : Option V) (g : Addr), σ' = [some (.ref a), some (.int ((i : Nat) : Int)), some (.ref b), some (.ref D), some (.ref D2), some (.ref pd), x6, some (.ref pf), some (.ref c19), some (.ref cl), some (.ref g), v11, v12, v13] ∧ Same F1 H' ∧ Fac F C H' g (rws2.take (j + 1))) → DE.nx σ' H' := fun σ' H' h => by
          rw [← hDE]
          exact h
        clear hDE
        have tk : rws2.take j ++ [rw] = rws2.take (j + 1) := by rw [List.take_succ, hrw]; rfl
        refine ⟨_, rfl, _, rfl, ?_⟩
        refine mk_factsA (as := [ra]) (rws := [rw]) (Lk.one ((r.same z2).g N)) (by show 1 ≤ 20; decide) (two_nm (D := nm) (fun z hz => (hch.2.1 z).mpr (by
          obtain ⟨h1, k, h2⟩ := mem_roots.mp hz
          refine mem_roots.mpr ⟨h1, k, List.mem_flatMap.mpr ⟨rw, List.mem_of_getElem? hrw, ?_⟩⟩
          obtain ⟨rw3, h3, h4⟩ := List.mem_flatMap.mp h2
          rw [List.mem_singleton.mp h3] at h4
          exact h4)) hch.len) fun f3 F3 z3 n3 h3 => ?_
        obtain ⟨dy, _, _, _, _, e1, _⟩ := id h3
        obtain ⟨dx, _, _, _, _, e2, _⟩ := id (hg.same z3)
        refine ⟨g, dx, _, rfl, e2, .inr (.base (.ins e1 YF.cl YF.ha YF.hn YF.htk YF.hm)), g, .ref f3, rws2.take j, rfl, hg.same z3, .inl ⟨f3, [rw], rfl, h3, ?_, .inl ⟨?_, fun h F4 z4 nh hh => ?_⟩⟩⟩
        · rw [tk, List.length_take]
          omega
        · rw [tk]
          exact hch.two (j + 1)
        · rw [tk] at hh
          exact enx _ _ ⟨_, h, rfl, z2.trans (z3.trans z4), hh⟩
      rintro σ F2 ⟨x6, g, rfl, z2, hg⟩
      rw [List.length_map, List.take_of_length_le (by omega)] at hg
      have hcl2 := z2 _ _ hcl1
      have hR4 : Lk (Row9 C F2) as2 rws2 := hR3.imp fun _ _ x => x.same z2
      refine ⟨_, rfl, cl, rfl, ⟨_, SqL.of hcl2⟩, fun D3 nD3 => ?_⟩
      refine lc_it (walk_list (xs := as2.map V.ref)) (fun i H' => (∀ p o, p ≠ D3 → F2 p = some o → H' p = some o) ∧ ∃ cs : List Addr, H' D3 = some (.lst (cs.map V.ref)) ∧ Lk (fun (c : Addr) (rw : Row) => c ≠ D3 ∧ H' c = some (.lst ((rootsR rw).map V.str))) cs (rws2.take i))
        ⟨fun p o n e => by rw [upd_ne n]; exact e, [], upd_same, by rw [List.take_zero]; exact .nil⟩ (fun i H' _ h => SqL.of (h.1 _ _ (ne_of_none hcl2 nD3) hcl2)) ?_ ?_
      · rintro i2 x G1 G2 hi2 ⟨keep, cs, hcs, lkc⟩ ⟨rfl, hx⟩
        rw [List.getElem?_map] at hx
        obtain ⟨ra, hra, rfl⟩ := Option.map_eq_some_iff.mp hx
        obtain ⟨rw, hrw, rg⟩ := Lk.get hR4 hra
        have sG2 : Same F2 G2 := fun p o e => keep p o (ne_of_none e nD3) e
        have tk : rws2.take (i2 + 1) = rws2.take i2 ++ [rw] := by rw [List.take_succ, hrw]; rfl
        have lcs := lkc.length
        rw [List.length_take] at lcs
        refine ⟨rfl, yesT ?_⟩
        refine ⟨_, rfl, ra, rw, rfl, rg.same sG2, fun pc G3 s3 npc hpc => ?_⟩
        have hcs3 := s3 _ _ hcs
        have pcD : pc ≠ D3 := fun z => by
          rw [z, hcs] at npc
          cases npc
        refine ⟨_, hcs3, ?_, fun p o n e => by rw [upd_ne n]; exact s3 _ _ (keep p o n e), cs ++ [pc], by rw [upd_same, List.map_append]; rfl, ?_⟩
        · rw [List.length_map]
          omega
        · rw [tk]
          exact (lkc.imp fun _ _ x => ⟨x.1, by rw [upd_ne x.1]; exact s3 _ _ x.2⟩).append (Lk.one ⟨pcD, by rw [upd_ne pcD]; exact hpc⟩)
      rintro G1 ⟨keep, cs, hcs, lkc⟩
      rw [List.length_map, List.take_of_length_le (by omega)] at lkc
      have sFG : Same F2 G1 := fun p o e => keep p o (ne_of_none e nD3) e
      clear keep
      refine ⟨(by show 0 ≤ sizeLine; decide), fun zl nzl => ?_⟩
      have sz : Same G1 (upd G1 zl (.lst [])) := same_nw nzl
      have tz : upd G1 zl (.lst []) zl = some (.lst []) := upd_same
      generalize upd G1 zl (.lst []) = G2 at sz tz
      have lkc2 : Lk (fun (c : Addr) (rw : Row) => c ≠ D3 ∧ G2 c = some (.lst ((rootsR rw).map V.str))) cs rws2 := lkc.imp fun _ _ x => ⟨x.1, sz _ _ x.2⟩
      have lcs := lkc2.length
      have lro := len_roots (row9_ok hR4)
      dsimp only [tNil]
      refine sum_both (l := D3) (z := zl) (bs := cs) (xss := rws2.map (fun rw => (rootsR rw).map V.str)) (SqL.of (sz _ _ hcs)) tz (by rw [List.length_map]; exact lcs) (roots_at lkc2) (by rw [flat_roots, List.length_map]; omega) fun pz G3 sp hz => ?_
      rw [flat_roots] at hz
      refine ⟨pz, rootsAll rws2, rfl, SqL.of hz, by omega, fun ps nset nps hns => ?_⟩
      refine ⟨ps, _, nset, rfl, upd_same, by omega, fun ys pn ysrt ynd ymem ylen npn => ?_⟩
      obtain rfl := hch.only ysrt ynd ymem
      generalize hG4 : upd G3 ps _ = G4 at npn
      have s34 : Same G3 G4 := by
        rw [← hG4]
        exact same_nw nps
      clear hG4
      have s45 : Same G4 (upd G4 pn (.lst (ys.map V.str))) := same_nw npn
      have hpn : upd G4 pn (.lst (ys.map V.str)) pn = some (.lst (ys.map V.str)) := upd_same
      generalize upd G4 pn (.lst (ys.map V.str)) = G5 at s45 hpn
      have s25 : Same F2 G5 := sFG.trans (sz.trans (sp.trans (s34.trans s45)))
      have BF : Bx G5 b _ := BR.same (z1.trans (z2.trans s25))
      have pnb : pn ≠ b := (BR.same (z1.trans (z2.trans (sFG.trans (sz.trans (sp.trans s34)))))).new npn
      have gb : g ≠ b := by
        obtain ⟨d, _, _, _, _, e, _⟩ := id (hg.same s25)
        exact BF.off e (fun x y z => by intro h; cases h)
      have hcl5 := s25 _ _ hcl2
      refine ⟨_, rfl, _, rfl, _, rfl, b, g, pn, _, rws2, ys, rfl, BF, by omega, hg.same s25, gb, hpn, pnb, hch.nms, fun G6 K6f B6f => ?_⟩
      refine ⟨true, rfl, iteF ?_⟩
      have z26 : Kp b F2 G6 := (Kp.same s25).trans K6f
      have hg6 : Fac F C G6 g rws2 := (hg.same s25).kp BF K6f
      have hcl6 : G6 cl = some (.lst (as2.map V.ref)) := K6f _ _ clb hcl5
      obtain ⟨dg, _, _, _, _, eg, _⟩ := id hg6
      refine ⟨_, rfl, g, dg, _, rfl, eg, g, rws2, rfl, hg6, rws2.length, rfl, by omega, _, rfl, cl, as2.map V.ref, rfl, .inl (SqL.of hcl6), ?_⟩
      refine ⟨rfl, _, rfl, ?_⟩
      rw [List.length_map, lR2, ne_not9]
      refine iteF ?_
      refine dnx _ _ ⟨_, _, _, _, _, _, _, _, _, _, _, _, _, rfl, fun p o e => ?_⟩
      have e0 := s0 p o e
      have pb : p ≠ b := ne_of_none e0 nb
      exact z26 p o pb (z2 p o (z1 p o (K11R p o pb (s711 p o (K7 p o pb (K6 p o pb (K5 p o pb (K3 p o pb e0))))))))
    by_cases hf : false ∈ bs
    · rw [decide_eq_true hf]
      refine iteT ?_
      obtain ⟨j, hj, hbef⟩ := first_false hf
      have lj : j < bs.length := (List.getElem?_eq_some_iff.mp hj).1
      have hv : ∃ v, vals[j]? = some v := ⟨vals[j], List.getElem?_eq_getElem (by omega)⟩
      obtain ⟨v, hv⟩ := hv
      have od : Od9 C F H7 v := by
        obtain ⟨t, ht, r⟩ := lk.get hv
        rw [hj] at ht
        cases ht
        exact r.od hD7
      have before : ∀ (m : Nat) (u : V), m < j → vals[m]? = some u → Fct K C H7 u true := fun m u hm hu => by
        obtain ⟨t, ht, r⟩ := lk.get hu
        rw [hbef m hm] at ht
        cases ht
        rcases r with ⟨_, ra, rw, rfl, h⟩ | ⟨e, _⟩
        · exact (h.g N).fct
        · cases e
      refine ⟨_, rfl, _, rfl, .inl ⟨rfl, _, SqL.of hD8⟩, D, bs.map V.bl, .bl false, j, .bl false, rfl, rfl, SqL.of hD8, rfl, flat_bls bs, by rw [List.getElem?_map, hj]; rfl, by decide +kernel, fun m z hm hz => ?_, ?_⟩
      · rw [List.getElem?_map, hbef m hm] at hz
        cases hz
        decide +kernel
      obtain ⟨t, ht⟩ := Thing.shn (X := (cxOf CX0 P w K mg base NLw "law" (defScope sLaw) f_ cdv A outer s H E).nox) (w := "fact") SH (by decide +kernel) (od.thing (S := S))
      have hD78 := s8 _ _ hD7
      refine ⟨D2, vals, _, v, rfl, rfl, SqL.of hD78, atI_nat (xs := vals) (j := j) hv, ?_⟩
      refine ⟨(by show 2 ≤ sizeLine; decide), fun p9 n9 => ?_⟩
      have s9 : Same H8 (L2.upd H8 p9 (.lst [.str "fact", v])) := same_nw n9
      have t9 : L2.upd H8 p9 (.lst [.str "fact", v]) p9 = some (.lst [.str "fact", v]) := upd_same
      generalize L2.upd H8 p9 (.lst [.str "fact", v]) = H9 at s9 t9
      have s79 := s8.trans s9
      exact rest H9 p9 t s79 (hb7.same s79) (fun QQ EE qq => ⟨⟨D2, vals, rfl, s79 _ _ hD7, by omega, by omega, .inr ⟨j, v, hv, fun m u hm hu => (before m u hm hu).same s79, (od.same s79).fct N NM YF kF, fun p H' s n e => qq p H' s (ht H' p (s79.trans s) (s79.free n) e)⟩⟩⟩) (ht H9 p9 s79 (s8.free n9) t9)
    · rw [decide_eq_false hf]
      refine iteF ?_
      obtain ⟨as, rws, ev, hR⟩ := rows_true lk hf
      have lR := hR.length
      have lva : as.length = bs.length := by
        rw [← lvb, ev, List.length_map]
      have ok := row9_ok hR
      have hR8 : Lk (Row9 C H8) as rws := hR.imp fun _ _ x => x.same s8
      have hD78 : H8 D2 = some (.lst (as.map V.ref)) := by
        rw [← ev]
        exact s8 _ _ hD7
      refine ⟨_, rfl, D2, rfl, ⟨_, SqL.of hD78⟩, fun D3 nD3 => ?_⟩
      refine lc_it (walk_list (xs := as.map V.ref)) (fun i H' => (∀ p o, p ≠ D3 → H8 p = some o → H' p = some o) ∧ ∃ cs : List Addr, H' D3 = some (.lst (cs.map V.ref)) ∧ Lk (fun (c : Addr) (rw : Row) => c ≠ D3 ∧ H' c = some (.lst ((rootsR rw).map V.str))) cs (rws.take i))
        ⟨fun p o n e => by rw [upd_ne n]; exact e, [], upd_same, by rw [List.take_zero]; exact .nil⟩ (fun i H' _ h => SqL.of (h.1 _ _ (ne_of_none hD78 nD3) hD78)) ?_ ?_
      · rintro i2 x G1 G2 hi2 ⟨keep, cs, hcs, lkc⟩ ⟨rfl, hx⟩
        rw [List.getElem?_map] at hx
        obtain ⟨ra, hra, rfl⟩ := Option.map_eq_some_iff.mp hx
        obtain ⟨rw, hrw, rg⟩ := Lk.get hR8 hra
        have sG : Same H8 G2 := fun p o e => keep p o (ne_of_none e nD3) e
        have tk : rws.take (i2 + 1) = rws.take i2 ++ [rw] := by rw [List.take_succ, hrw]; rfl
        have lcs := lkc.length
        rw [List.length_take] at lcs
        refine ⟨rfl, yesT ?_⟩
        refine ⟨_, rfl, ra, rw, rfl, rg.same sG, fun pc G3 s3 npc hpc => ?_⟩
        have hcs3 := s3 _ _ hcs
        have pcD : pc ≠ D3 := fun z => by
          rw [z, hcs] at npc
          cases npc
        refine ⟨_, hcs3, ?_, fun p o n e => by rw [upd_ne n]; exact s3 _ _ (keep p o n e), cs ++ [pc], by rw [upd_same, List.map_append]; rfl, ?_⟩
        · rw [List.length_map]
          omega
        · rw [tk]
          exact (lkc.imp fun _ _ x => ⟨x.1, by rw [upd_ne x.1]; exact s3 _ _ x.2⟩).append (Lk.one ⟨pcD, by rw [upd_ne pcD]; exact hpc⟩)
      rintro G1 ⟨keep, cs, hcs, lkc⟩
      rw [List.length_map, List.take_of_length_le (by omega)] at lkc
      have s8G : Same H8 G1 := fun p o e => keep p o (ne_of_none e nD3) e
      clear keep
      refine ⟨(by show 0 ≤ sizeLine; decide), fun zl nzl => ?_⟩
      have sz : Same G1 (L2.upd G1 zl (.lst [])) := same_nw nzl
      have tz : L2.upd G1 zl (.lst []) zl = some (.lst []) := upd_same
      generalize L2.upd G1 zl (.lst []) = G2 at sz tz
      have lkc2 : Lk (fun (c : Addr) (rw : Row) => c ≠ D3 ∧ G2 c = some (.lst ((rootsR rw).map V.str))) cs rws := lkc.imp fun _ _ x => ⟨x.1, sz _ _ x.2⟩
      have lcs := lkc2.length
      have lro := len_roots ok
      refine ⟨D3, zl, cs, rws.map (fun rw => (rootsR rw).map V.str), rfl, rfl, SqL.of (sz _ _ hcs), tz, by rw [List.length_map]; exact lcs, roots_at lkc2, by rw [flat_roots, List.length_map]; omega, fun e => ?_, fun _ p10 n10 => ?_⟩
      · rw [e] at lcs
        exact absurd lcs (by show ¬ 0 = rws.length; omega)
      rw [flat_roots]
      have s10 : Same G2 (L2.upd G2 p10 (.lst ((rootsAll rws).map V.str))) := same_nw n10
      have t10 : L2.upd G2 p10 (.lst ((rootsAll rws).map V.str)) p10 = some (.lst ((rootsAll rws).map V.str)) := upd_same
      generalize L2.upd G2 p10 (.lst ((rootsAll rws).map V.str)) = G3 at s10 t10
      refine ⟨p10, rootsAll rws, rfl, SqL.of t10, by omega, fun ps nset nps hns => ?_⟩
      refine ⟨ps, _, nset, rfl, upd_same, by omega, fun ys ynd ymem ylen => ?_⟩
      generalize hG4 : L2.upd G3 ps _ = G4
      have s34 : Same G3 G4 := by
        rw [← hG4]
        exact same_nw nps
      clear hG4
      have s74 : Same H7 G4 := s8.trans (s8G.trans (sz.trans (s10.trans s34)))
      refine ⟨_, _, rfl, rfl, _, rfl, ?_⟩
      have hD7G : G4 D2 = some (.lst vals) := s74 _ _ hD7
      have BG4 : Bx G4 b 30 := hb7.same s74
      have hR4 : Lk (Row9 C G4) as rws := hR.imp fun _ _ x => x.same s74
      have hRg : Lk (RwG K C G4) as rws := hR4.imp fun _ _ x => x.g N
      by_cases hn : nset ≤ 2
      · rw [show decide (((nset : Nat) : Int) > 2) = false from decide_eq_false (by omega)]
        refine iteF ?_
        obtain ⟨t, ht⟩ := shn_made (X := (cxOf CX0 P w K mg base NLw "law" (defScope sLaw) f_ cdv A outer s H E).nox)
        exact rest G4 p8 t s74 BG4 (fun QQ EE qq => ⟨⟨D2, vals, rfl, hD7G, by omega, by omega, .inl ⟨as, rws, ev, hRg, .inl ⟨two_by ynd ymem (by omega), fun p H' s n e => qq p H' s (ht H' p e)⟩⟩⟩⟩) (ht G4 p8 ((s8G.trans (sz.trans (s10.trans s34))) _ _ t8))
      · rw [show decide (((nset : Nat) : Int) > 2) = true from decide_eq_true (by omega)]
        refine iteT ?_
        obtain ⟨t, ht⟩ := shn_facts (X := (cxOf CX0 P w K mg base NLw "law" (defScope sLaw) f_ cdv A outer s H E).nox) SH hR4 (by omega)
        refine ⟨_, rfl, D2, vals, rfl, .inl ⟨SqL.of hD7G, fun tp ntp => ?_⟩⟩
        rw [ev]
        have s5 : Same G4 (L2.upd G4 tp (.tup (as.map V.ref))) := same_nw ntp
        have t5 : L2.upd G4 tp (.tup (as.map V.ref)) tp = some (.tup (as.map V.ref)) := upd_same
        generalize L2.upd G4 tp (.tup (as.map V.ref)) = G5 at s5 t5
        refine ⟨(by show 2 ≤ sizeLine; decide), fun p12 n12 => ?_⟩
        have s6 : Same G5 (L2.upd G5 p12 (.lst [.str "facts", .ref tp])) := same_nw n12
        have t6 : L2.upd G5 p12 (.lst [.str "facts", .ref tp]) p12 = some (.lst [.str "facts", .ref tp]) := upd_same
        generalize L2.upd G5 p12 (.lst [.str "facts", .ref tp]) = G6 at s6 t6
        have s46 := s5.trans s6
        exact rest G6 p12 t (s74.trans s46) (BG4.same s46) (fun QQ EE qq => ⟨⟨D2, vals, rfl, s46 _ _ hD7G, by omega, by omega, .inl ⟨as, rws, ev, hRg.imp fun _ _ x => x.same s46, .inr ⟨more_by ynd ymem (by omega), fun p tp2 H' s n ntp2 etp2 e => qq p H' s (ht H' p tp2 (s46.trans s) (by rw [← ev]; exact etp2) (s46.free ntp2) e)⟩⟩⟩⟩) (ht G6 p12 tp s46 (s6 _ _ t5) ntp t6)

end
end Mz
set_option Elab.async false
set_option linter.all false
set_option maxRecDepth 100000
set_option maxHeartbeats 4000000
namespace Mz
open PySem PySem.Spec PyProof.Rows L2
theorem kb_one {K : PySem.W.Frag} {x qual : Str} {st : Stmt} {f : Addr} {fd : FuncData} {ps : List Str} (F : Fun K x qual st f fd) (n : Nat) (ks : List Str)
    (h : ∀ (kV doc pm : Value) (an : Option Addr) (cdv ct : Value) (us ws : List Value), us.length = n → ws.length = ks.length → bindArgs (PySem.W.fnOf x qual (defArgs st) (defBody st) (defScope st) .none kV doc pm an cdv ct) ⟨us, ks.zip ws⟩ = pure (ps.zip (us ++ ws))) :
    KBn K fd ps n ks (fun us ws => us ++ ws) (fun vs zs => vs ++ zs) := by
  obtain ⟨oc, od, kV, doc, pm, an, cdv, ct, osl, rfl, lk, hcd⟩ := F.ex
  exact ⟨fun s us ws _ hu hw => .of_eq (h kV doc pm an cdv ct us ws hu hw), fun r1 r2 => r1.append r2⟩
theorem kit_own {K : PySem.W.Frag} {C : Addr} {T : String} (hm : PySem.W.mroIn K C (.type T) = some false) (h2 : PySem.W.kitMeta T = true) : PySem.W.kitOne K (.ref C) (.type T) = some false := by
  unfold PySem.W.kitOne
  rw [if_neg (by intro e; cases e)]
  show (if PySem.W.kitMeta T = true then PySem.W.mroIn K C (.type T) else none) = some false
  rw [if_pos h2, hm]
theorem kit_ref {K : PySem.W.Frag} {C : Addr} {T : String} {b : Bool} (hdct : PySem.W.hasDictIn K C = true) (ht : PySem.W.typeIn K (.ref C) = some (.type "type")) (h4 : PySem.W.subIn K (.type T) (.ref C) = some b) : PySem.W.kitOne K (.type T) (.ref C) = some b := by
  obtain ⟨cd, hc, _⟩ := PySem.W.any_some hdct
  unfold PySem.W.kitOne
  rw [if_neg (by intro e; cases e)]
  show (if ((PySem.W.clsIn K C).isSome && PySem.W.typeIn K (.ref C) == some (.type "type")) = true then PySem.W.subIn K (.type T) (.ref C) else none) = some b
  rw [if_pos (by rw [hc, ht] <;> rfl)]
  exact h4
/-! a written dict from texts to ints -/
def entOf (P : Params) (q : Str × Int × Tok × Tok) : DictEntry := ⟨PyData.keyHash P q.1, .str q.1 q.2.2.1, .int q.2.1 q.2.2.2⟩
def lookF (z : Str) : List (Str × Int × Tok × Tok) → Option Int
  | [] => none
  | q :: r => if z = q.1 then some q.2.1 else lookF z r
theorem lit_of {P : Params} : ∀ l : List (Str × Int × Tok × Tok), PySem.W.KeysLit P (l.map (entOf P))
  | [] => trivial
  | q :: r => ⟨⟨q.1, q.2.2.1, rfl, rfl⟩, lit_of r⟩
theorem find_ent {P : Params} {z : Str} : ∀ l : List (Str × Int × Tok × Tok), (lookF z l = none ∧ (l.map (entOf P)).find? (fun x => x.key.isStr z) = none) ∨
    ∃ i t e, lookF z l = some i ∧ (l.map (entOf P)).find? (fun x => x.key.isStr z) = some e ∧ e.val = .int i t
  | [] => .inl ⟨rfl, rfl⟩
  | q :: r => by
    by_cases h : z = q.1
    · refine .inr ⟨q.2.1, q.2.2.2, entOf P q, if_pos h, ?_, rfl⟩
      rw [List.map_cons, List.find?_cons_of_pos]
      show (q.1 == z) = true
      rw [h]
      exact beq_self_eq_true _
    · have e1 : lookF z (q :: r) = lookF z r := if_neg h
      have e2 : ((q :: r).map (entOf P)).find? (fun x => x.key.isStr z) = (r.map (entOf P)).find? (fun x => x.key.isStr z) := by
        rw [List.map_cons, List.find?_cons_of_neg]
        show ¬ (q.1 == z) = true
        intro x
        exact h (beq_iff_eq.mp x).symm
      rw [e1, e2]
      exact find_ent r
theorem tab_of {K : PySem.W.Frag} {w : World} {d : Addr} {es : Array DictEntry} {n : Nat} {l : List (Str × Int × Tok × Tok)} {f : Str → Option Int} (h : K.lookup d = some ⟨.type "dict", none, .dict es n, #[]⟩) (hl : es.toList = l.map (entOf w.params)) (low : (d == sysModules) = false)
    (hf : ∀ z, f z = lookF z l) : Tab K w d f := by
  refine ⟨es, n, ⟨h, by rw [hl]; exact lit_of l, low⟩, fun z => ?_⟩
  have nr : (es.toList.any fun x => x.refKey) = false := by
    rw [hl]
    rw [List.any_eq_false]
    intro e he
    obtain ⟨q, _, rfl⟩ := List.mem_map.mp he
    exact Bool.false_ne_true
  unfold PySem.W.nsIn
  rw [h]
  dsimp only
  rcases find_ent (P := w.params) (z := z) l with ⟨e1, e2⟩ | ⟨i, t, e, e1, e2, e3⟩
  · rw [hl, e2]
    rw [hl] at nr
    refine ⟨none, ?_, .inl ⟨(hf z).trans e1, rfl⟩⟩
    dsimp only
    rw [nr]
    rfl
  · rw [hl, e2]
    exact ⟨some (.int i t), by rw [← e3], .inr ⟨i, t, (hf z).trans e1, rfl⟩⟩
theorem kit_ref2 {K : PySem.W.Frag} {D C : Addr} {b : Bool} (ne : D ≠ C) (hdct : PySem.W.hasDictIn K C = true) (ht : PySem.W.typeIn K (.ref C) = some (.type "type")) (h4 : PySem.W.subIn K (.ref D) (.ref C) = some b) : PySem.W.kitOne K (.ref D) (.ref C) = some b := by
  obtain ⟨cd, hc, _⟩ := PySem.W.any_some hdct
  unfold PySem.W.kitOne
  rw [if_neg (by intro e; exact ne (Value.ref.inj (eq_of_beq e)))]
  show (if ((PySem.W.clsIn K C).isSome && PySem.W.typeIn K (.ref C) == some (.type "type")) = true then PySem.W.subIn K (.ref D) (.ref C) else none) = some b
  rw [if_pos (by rw [hc, ht] <;> rfl)]
  exact h4
theorem all_mk {l : PySem.W.OpenLaw} {w : World} {K : PySem.W.Frag} {h : Heap} {mg : Str → Option Value} {fa : Addr} (X : K.In h) (G : h.Ns mainGlobals mg) (hfa : mg "law" = some (.ref fa))
    {cF cG cH cI cM cP cR cS cX po pb ph pg2 fI tD kD kG fra dtn dts dtp : Addr} {ro rb rh rg : List Value} {fi ri : Option Value}
    {fwh : Addr} {odwh anwh : Option Addr} {slwh : Array (Option Value)} {ocwh kVwh dcwh pmwh cdwh ctwh : Value}
    {fii : Addr} {odii anii : Option Addr} {slii : Array (Option Value)} {ocii kVii dcii pmii cdii ctii : Value}
    {ffr : Addr} {odfr anfr : Option Addr} {slfr : Array (Option Value)} {ocfr kVfr dcfr pmfr cdfr ctfr : Value}
    {fna : Addr} {odna anna : Option Addr} {slna : Array (Option Value)} {ocna kVna dcna pmna cdna ctna : Value}
    {fip : Addr} {odip anip : Option Addr} {slip : Array (Option Value)} {ocip kVip dcip pmip cdip ctip : Value}
    {fuo : Addr} {oduo anuo : Option Addr} {sluo : Array (Option Value)} {ocuo kVuo dcuo pmuo cduo ctuo : Value}
    {fle : Addr} {odle anle : Option Addr} {slle : Array (Option Value)} {ocle kVle dcle pmle cdle ctle : Value}
    {fpt : Addr} {odpt anpt : Option Addr} {slpt : Array (Option Value)} {ocpt kVpt dcpt pmpt cdpt ctpt : Value}
    {fhs : Addr} {odhs anhs : Option Addr} {slhs : Array (Option Value)} {ochs kVhs dchs pmhs cdhs cths : Value}
    {far : Addr} {odar anar : Option Addr} {slar : Array (Option Value)} {ocar kVar dcar pmar cdar ctar : Value}
    {fif_ : Addr} {odif_ anif_ : Option Addr} {slif_ : Array (Option Value)} {ocif_ kVif_ dcif_ pmif_ cdif_ ctif_ : Value}
    {fpl : Addr} {odpl anpl : Option Addr} {slpl : Array (Option Value)} {ocpl kVpl dcpl pmpl cdpl ctpl : Value}
    {fpo_ : Addr} {odpo_ anpo_ : Option Addr} {slpo_ : Array (Option Value)} {ocpo_ kVpo_ dcpo_ pmpo_ cdpo_ ctpo_ : Value}
    {fke : Addr} {odke anke : Option Addr} {slke : Array (Option Value)} {ocke kVke dcke pmke cdke ctke : Value}
    {fce : Addr} {odce ance : Option Addr} {slce : Array (Option Value)} {occe kVce dcce pmce cdce ctce : Value}
    {fbo : Addr} {odbo anbo : Option Addr} {slbo : Array (Option Value)} {ocbo kVbo dcbo pmbo cdbo ctbo : Value}
    {fta : Addr} {odta anta : Option Addr} {slta : Array (Option Value)} {octa kVta dcta pmta cdta ctta : Value}
    {fgo : Addr} {odgo ango : Option Addr} {slgo : Array (Option Value)} {ocgo kVgo dcgo pmgo cdgo ctgo : Value}
    {fod_ : Addr} {odod_ anod_ : Option Addr} {slod_ : Array (Option Value)} {ocod_ kVod_ dcod_ pmod_ cdod_ ctod_ : Value}
    {flr : Addr} {odlr anlr : Option Addr} {sllr : Array (Option Value)} {oclr kVlr dclr pmlr cdlr ctlr : Value}
    {fca : Addr} {odca anca : Option Addr} {slca : Array (Option Value)} {occa kVca dcca pmca cdca ctca : Value}
    {flm : Addr} {odlm anlm : Option Addr} {sllm : Array (Option Value)} {oclm kVlm dclm pmlm cdlm ctlm : Value}
    {fas_ : Addr} {odas_ anas_ : Option Addr} {slas_ : Array (Option Value)} {ocas_ kVas_ dcas_ pmas_ cdas_ ctas_ : Value}
    {fth : Addr} {odth anth : Option Addr} {slth : Array (Option Value)} {octh kVth dcth pmth cdth ctth : Value}
    {fla : Addr} {odla anla : Option Addr} {slla : Array (Option Value)} {ocla kVla dcla pmla cdla ctla : Value}
    {fmo : Addr} {odmo anmo : Option Addr} {slmo : Array (Option Value)} {ocmo kVmo dcmo pmmo cdmo ctmo : Value}
    {fmb : Addr} {odmb anmb : Option Addr} {slmb : Array (Option Value)} {ocmb kVmb dcmb pmmb cdmb ctmb : Value}
    {fmh : Addr} {odmh anmh : Option Addr} {slmh : Array (Option Value)} {ocmh kVmh dcmh pmmh cdmh ctmh : Value}
    {fms : Addr} {odms anms : Option Addr} {slms : Array (Option Value)} {ocms kVms dcms pmms cdms ctms : Value}
    {fmp : Addr} {odmp anmp : Option Addr} {slmp : Array (Option Value)} {ocmp kVmp dcmp pmmp cdmp ctmp : Value}
    {fmd : Addr} {odmd anmd : Option Addr} {slmd : Array (Option Value)} {ocmd kVmd dcmd pmmd cdmd ctmd : Value}
    {fmx : Addr} {odmx anmx : Option Addr} {slmx : Array (Option Value)} {ocmx kVmx dcmx pmmx cdmx ctmx : Value}
    {fmi : Addr} {odmi anmi : Option Addr} {slmi : Array (Option Value)} {ocmi kVmi dcmi pmmi cdmi ctmi : Value}
    {fmt : Addr} {odmt anmt : Option Addr} {slmt : Array (Option Value)} {ocmt kVmt dcmt pmmt cdmt ctmt : Value}
    {fmr : Addr} {odmr anmr : Option Addr} {slmr : Array (Option Value)} {ocmr kVmr dcmr pmmr cdmr ctmr : Value}
    {fmf : Addr} {odmf anmf : Option Addr} {slmf : Array (Option Value)} {ocmf kVmf dcmf pmmf cdmf ctmf : Value}
    {fg0 : Addr} {odg0 ang0 : Option Addr} {slg0 : Array (Option Value)} {ocg0 kVg0 dcg0 pmg0 cdg0 ctg0 : Value}
    {fg2 : Addr} {odg2 ang2 : Option Addr} {slg2 : Array (Option Value)} {ocg2 kVg2 dcg2 pmg2 cdg2 ctg2 : Value}
    {fg3 : Addr} {odg3 ang3 : Option Addr} {slg3 : Array (Option Value)} {ocg3 kVg3 dcg3 pmg3 cdg3 ctg3 : Value}
    {fg5 : Addr} {odg5 ang5 : Option Addr} {slg5 : Array (Option Value)} {ocg5 kVg5 dcg5 pmg5 cdg5 ctg5 : Value}
    {fg8 : Addr} {odg8 ang8 : Option Addr} {slg8 : Array (Option Value)} {ocg8 kVg8 dcg8 pmg8 cdg8 ctg8 : Value}
    {fh0 : Addr} {odh0 anh0 : Option Addr} {slh0 : Array (Option Value)} {och0 kVh0 dch0 pmh0 cdh0 cth0 : Value}
    {fh3 : Addr} {odh3 anh3 : Option Addr} {slh3 : Array (Option Value)} {och3 kVh3 dch3 pmh3 cdh3 cth3 : Value}
    {fh4 : Addr} {odh4 anh4 : Option Addr} {slh4 : Array (Option Value)} {och4 kVh4 dch4 pmh4 cdh4 cth4 : Value}
    {fh5 : Addr} {odh5 anh5 : Option Addr} {slh5 : Array (Option Value)} {och5 kVh5 dch5 pmh5 cdh5 cth5 : Value}
    {fh7 : Addr} {odh7 anh7 : Option Addr} {slh7 : Array (Option Value)} {och7 kVh7 dch7 pmh7 cdh7 cth7 : Value}
    (awh : PySem.W.nsIn K mainGlobals "_is_whole" = some (some (.ref fwh))) (lwh : K.lookup fwh = some ⟨ocwh, odwh, .func (PySem.W.fnOf "_is_whole" "_is_whole" (defArgs sWhole) (defBody sWhole) (defScope sWhole) .none kVwh dcwh pmwh anwh cdwh ctwh), slwh⟩) (cwh : PySem.W.codeIn K cdwh "_is_whole" = true) (kwh : PySem.W.keepIn K (.ref fwh) = true)
    (aii : PySem.W.nsIn K mainGlobals "is_integer" = some (some (.ref fii))) (lii : K.lookup fii = some ⟨ocii, odii, .func (PySem.W.fnOf "is_integer" "is_integer" (defArgs sIsInt) (defBody sIsInt) (defScope sIsInt) .none kVii dcii pmii anii cdii ctii), slii⟩) (cii : PySem.W.codeIn K cdii "is_integer" = true) (kii : PySem.W.keepIn K (.ref fii) = true)
    (afr : PySem.W.nsIn K mainGlobals "is_integer_from" = some (some (.ref ffr))) (lfr : K.lookup ffr = some ⟨ocfr, odfr, .func (PySem.W.fnOf "is_integer_from" "is_integer_from" (defArgs sIsFrom) (defBody sIsFrom) (defScope sIsFrom) .none kVfr dcfr pmfr anfr cdfr ctfr), slfr⟩) (cfr : PySem.W.codeIn K cdfr "is_integer_from" = true) (kfr : PySem.W.keepIn K (.ref ffr) = true)
    (ana : PySem.W.nsIn K mainGlobals "is_name" = some (some (.ref fna))) (lna : K.lookup fna = some ⟨ocna, odna, .func (PySem.W.fnOf "is_name" "is_name" (defArgs sIsName) (defBody sIsName) (defScope sIsName) .none kVna dcna pmna anna cdna ctna), slna⟩) (cna : PySem.W.codeIn K cdna "is_name" = true) (kna : PySem.W.keepIn K (.ref fna) = true)
    (aip : PySem.W.nsIn K mainGlobals "is_place" = some (some (.ref fip))) (lip : K.lookup fip = some ⟨ocip, odip, .func (PySem.W.fnOf "is_place" "is_place" (defArgs sIsPlace) (defBody sIsPlace) (defScope sIsPlace) .none kVip dcip pmip anip cdip ctip), slip⟩) (cip : PySem.W.codeIn K cdip "is_place" = true) (kip : PySem.W.keepIn K (.ref fip) = true)
    (auo : PySem.W.nsIn K mainGlobals "unknowns_of" = some (some (.ref fuo))) (luo : K.lookup fuo = some ⟨ocuo, oduo, .func (PySem.W.fnOf "unknowns_of" "unknowns_of" (defArgs sUnkOf) (defBody sUnkOf) (defScope sUnkOf) .none kVuo dcuo pmuo anuo cduo ctuo), sluo⟩) (cuo : PySem.W.codeIn K cduo "unknowns_of" = true) (kuo : PySem.W.keepIn K (.ref fuo) = true)
    (ale : PySem.W.nsIn K mainGlobals "_least_shift" = some (some (.ref fle))) (lle : K.lookup fle = some ⟨ocle, odle, .func (PySem.W.fnOf "_least_shift" "_least_shift" (defArgs sLeast) (defBody sLeast) (defScope sLeast) .none kVle dcle pmle anle cdle ctle), slle⟩) (cle : PySem.W.codeIn K cdle "_least_shift" = true) (kle : PySem.W.keepIn K (.ref fle) = true)
    (apt : PySem.W.nsIn K mainGlobals "_parts_of_text" = some (some (.ref fpt))) (lpt : K.lookup fpt = some ⟨ocpt, odpt, .func (PySem.W.fnOf "_parts_of_text" "_parts_of_text" (defArgs sParts) (defBody sParts) (defScope sParts) .none kVpt dcpt pmpt anpt cdpt ctpt), slpt⟩) (cpt : PySem.W.codeIn K cdpt "_parts_of_text" = true) (kpt : PySem.W.keepIn K (.ref fpt) = true)
    (ahs : PySem.W.nsIn K mainGlobals "has_sizes" = some (some (.ref fhs))) (lhs : K.lookup fhs = some ⟨ochs, odhs, .func (PySem.W.fnOf "has_sizes" "has_sizes" (defArgs sHasSizes) (defBody sHasSizes) (defScope sHasSizes) .none kVhs dchs pmhs anhs cdhs cths), slhs⟩) (chs : PySem.W.codeIn K cdhs "has_sizes" = true) (khs : PySem.W.keepIn K (.ref fhs) = true)
    (aar : PySem.W.nsIn K mainGlobals "_are_sizes" = some (some (.ref far))) (lar : K.lookup far = some ⟨ocar, odar, .func (PySem.W.fnOf "_are_sizes" "_are_sizes" (defArgs sAreSizes) (defBody sAreSizes) (defScope sAreSizes) .none kVar dcar pmar anar cdar ctar), slar⟩) (car : PySem.W.codeIn K cdar "_are_sizes" = true) (kar : PySem.W.keepIn K (.ref far) = true)
    (aif_ : PySem.W.nsIn K mainGlobals "is_fact" = some (some (.ref fif_))) (lif_ : K.lookup fif_ = some ⟨ocif_, odif_, .func (PySem.W.fnOf "is_fact" "is_fact" (defArgs sIsFact) (defBody sIsFact) (defScope sIsFact) .none kVif_ dcif_ pmif_ anif_ cdif_ ctif_), slif_⟩) (cif_ : PySem.W.codeIn K cdif_ "is_fact" = true) (kif_ : PySem.W.keepIn K (.ref fif_) = true)
    (apl : PySem.W.nsIn K mainGlobals "placed_row" = some (some (.ref fpl))) (lpl : K.lookup fpl = some ⟨ocpl, odpl, .func (PySem.W.fnOf "placed_row" "placed_row" (defArgs sPlacedRow) (defBody sPlacedRow) (defScope sPlacedRow) .none kVpl dcpl pmpl anpl cdpl ctpl), slpl⟩) (cpl : PySem.W.codeIn K cdpl "placed_row" = true) (kpl : PySem.W.keepIn K (.ref fpl) = true)
    (apo_ : PySem.W.nsIn K mainGlobals "places_of_rows" = some (some (.ref fpo_))) (lpo_ : K.lookup fpo_ = some ⟨ocpo_, odpo_, .func (PySem.W.fnOf "places_of_rows" "places_of_rows" (defArgs sPlacesOf) (defBody sPlacesOf) (defScope sPlacesOf) .none kVpo_ dcpo_ pmpo_ anpo_ cdpo_ ctpo_), slpo_⟩) (cpo_ : PySem.W.codeIn K cdpo_ "places_of_rows" = true) (kpo_ : PySem.W.keepIn K (.ref fpo_) = true)
    (ake : PySem.W.nsIn K mainGlobals "keeps" = some (some (.ref fke))) (lke : K.lookup fke = some ⟨ocke, odke, .func (PySem.W.fnOf "keeps" "keeps" (defArgs sKeeps) (defBody sKeeps) (defScope sKeeps) .none kVke dcke pmke anke cdke ctke), slke⟩) (cke : PySem.W.codeIn K cdke "keeps" = true) (kke : PySem.W.keepIn K (.ref fke) = true)
    (ace : PySem.W.nsIn K mainGlobals "_law_cell" = some (some (.ref fce))) (lce : K.lookup fce = some ⟨occe, odce, .func (PySem.W.fnOf "_law_cell" "_law_cell" (defArgs sCell) (defBody sCell) (defScope sCell) .none kVce dcce pmce ance cdce ctce), slce⟩) (cce : PySem.W.codeIn K cdce "_law_cell" = true) (kce : PySem.W.keepIn K (.ref fce) = true)
    (abo : PySem.W.nsIn K mainGlobals "_law_box" = some (some (.ref fbo))) (lbo : K.lookup fbo = some ⟨ocbo, odbo, .func (PySem.W.fnOf "_law_box" "_law_box" (defArgs sBox) (defBody sBox) (defScope sBox) .none kVbo dcbo pmbo anbo cdbo ctbo), slbo⟩) (cbo : PySem.W.codeIn K cdbo "_law_box" = true) (kbo : PySem.W.keepIn K (.ref fbo) = true)
    (ata : PySem.W.nsIn K mainGlobals "_law_take" = some (some (.ref fta))) (lta : K.lookup fta = some ⟨octa, odta, .func (PySem.W.fnOf "_law_take" "_law_take" (defArgs sTake) (defBody sTake) (defScope sTake) .none kVta dcta pmta anta cdta ctta), slta⟩) (cta : PySem.W.codeIn K cdta "_law_take" = true) (kta : PySem.W.keepIn K (.ref fta) = true)
    (ago : PySem.W.nsIn K mainGlobals "_law_good" = some (some (.ref fgo))) (lgo : K.lookup fgo = some ⟨ocgo, odgo, .func (PySem.W.fnOf "_law_good" "_law_good" (defArgs sGood9) (defBody sGood9) (defScope sGood9) .none kVgo dcgo pmgo ango cdgo ctgo), slgo⟩) (cgo : PySem.W.codeIn K cdgo "_law_good" = true) (kgo : PySem.W.keepIn K (.ref fgo) = true)
    (aod_ : PySem.W.nsIn K mainGlobals "_law_odd" = some (some (.ref fod_))) (lod_ : K.lookup fod_ = some ⟨ocod_, odod_, .func (PySem.W.fnOf "_law_odd" "_law_odd" (defArgs sOdd9) (defBody sOdd9) (defScope sOdd9) .none kVod_ dcod_ pmod_ anod_ cdod_ ctod_), slod_⟩) (cod_ : PySem.W.codeIn K cdod_ "_law_odd" = true) (kod_ : PySem.W.keepIn K (.ref fod_) = true)
    (alr : PySem.W.nsIn K mainGlobals "_law_roots" = some (some (.ref flr))) (llr : K.lookup flr = some ⟨oclr, odlr, .func (PySem.W.fnOf "_law_roots" "_law_roots" (defArgs sLRoots) (defBody sLRoots) (defScope sLRoots) .none kVlr dclr pmlr anlr cdlr ctlr), sllr⟩) (clr : PySem.W.codeIn K cdlr "_law_roots" = true) (klr : PySem.W.keepIn K (.ref flr) = true)
    (aca : PySem.W.nsIn K mainGlobals "_law_called" = some (some (.ref fca))) (lca : K.lookup fca = some ⟨occa, odca, .func (PySem.W.fnOf "_law_called" "_law_called" (defArgs sCalled) (defBody sCalled) (defScope sCalled) .none kVca dcca pmca anca cdca ctca), slca⟩) (cca : PySem.W.codeIn K cdca "_law_called" = true) (kca : PySem.W.keepIn K (.ref fca) = true)
    (alm : PySem.W.nsIn K mainGlobals "_law_made" = some (some (.ref flm))) (llm : K.lookup flm = some ⟨oclm, odlm, .func (PySem.W.fnOf "_law_made" "_law_made" (defArgs sMade9) (defBody sMade9) (defScope sMade9) .none kVlm dclm pmlm anlm cdlm ctlm), sllm⟩) (clm : PySem.W.codeIn K cdlm "_law_made" = true) (klm : PySem.W.keepIn K (.ref flm) = true)
    (aas_ : PySem.W.nsIn K mainGlobals "_law_asked" = some (some (.ref fas_))) (las_ : K.lookup fas_ = some ⟨ocas_, odas_, .func (PySem.W.fnOf "_law_asked" "_law_asked" (defArgs sAsked9) (defBody sAsked9) (defScope sAsked9) .none kVas_ dcas_ pmas_ anas_ cdas_ ctas_), slas_⟩) (cas_ : PySem.W.codeIn K cdas_ "_law_asked" = true) (kas_ : PySem.W.keepIn K (.ref fas_) = true)
    (ath : PySem.W.nsIn K mainGlobals "_law_things_right" = some (some (.ref fth))) (lth : K.lookup fth = some ⟨octh, odth, .func (PySem.W.fnOf "_law_things_right" "_law_things_right" (defArgs sThings) (defBody sThings) (defScope sThings) .none kVth dcth pmth anth cdth ctth), slth⟩) (cth : PySem.W.codeIn K cdth "_law_things_right" = true) (kth : PySem.W.keepIn K (.ref fth) = true)
    (ala : PySem.W.nsIn K mainGlobals "law" = some (some (.ref fla))) (lla : K.lookup fla = some ⟨ocla, odla, .func (PySem.W.fnOf "law" "law" (defArgs sLaw) (defBody sLaw) (defScope sLaw) .none kVla dcla pmla anla cdla ctla), slla⟩) (cla : PySem.W.codeIn K cdla "law" = true) (kla : PySem.W.keepIn K (.ref fla) = true)
    (aCP : PySem.W.nsIn K mainGlobals "Place" = some (some (.ref cP)))
    (aCG : PySem.W.nsIn K mainGlobals "Setting" = some (some (.ref cG)))
    (aCH : PySem.W.nsIn K mainGlobals "Facts" = some (some (.ref cH)))
    (aCX : PySem.W.nsIn K mainGlobals "InvalidPlace" = some (some (.ref cX)))
    (aCI : PySem.W.nsIn K mainGlobals "InvalidInteger" = some (some (.ref cI)))
    (aCS : PySem.W.nsIn K mainGlobals "InvalidSetting" = some (some (.ref cS)))
    (aCR : PySem.W.nsIn K mainGlobals "InvalidFact" = some (some (.ref cR)))
    (aCF : PySem.W.nsIn K mainGlobals "InvalidFacts" = some (some (.ref cF)))
    (aCM : PySem.W.nsIn K mainGlobals "MapError" = some (some (.ref cM)))
    (amo : PySem.W.findCls K (.ref cP) (.type "type") "of" = some (.get (.builtin "classmethod.__get__") (.ref po) .none (.ref cP))) (amo2 : PySem.W.recIn K po "classmethod" = some (.ref fmo :: ro)) (lmo : K.lookup fmo = some ⟨ocmo, odmo, .func (PySem.W.fnOf "of" "Place.of" (defArgs (inClass sPlace 1)) (defBody (inClass sPlace 1)) (defScope (inClass sPlace 1)) .none kVmo dcmo pmmo anmo cdmo ctmo), slmo⟩) (cmo : PySem.W.codeIn K cdmo "Place.of" = true) (kmo : PySem.W.keepIn K (.ref fmo) = true)
    (amb : PySem.W.findIn K (.ref cP) "base" = some (some (.ref pb))) (amb1 : PySem.W.specialIn K (.ref pb) "__get__" = some (some (.builtin "property.__get__"))) (amb2 : PySem.W.takesIn K (.ref pb) = some true) (amb3 : PySem.W.recIn K pb "property" = some (.ref fmb :: rb)) (lmb : K.lookup fmb = some ⟨ocmb, odmb, .func (PySem.W.fnOf "base" "Place.base" (defArgs (inClass sPlace 2)) (defBody (inClass sPlace 2)) (defScope (inClass sPlace 2)) .none kVmb dcmb pmmb anmb cdmb ctmb), slmb⟩) (cmb : PySem.W.codeIn K cdmb "Place.base" = true) (kmb : PySem.W.keepIn K (.ref fmb) = true)
    (amh : PySem.W.findIn K (.ref cP) "shift" = some (some (.ref ph))) (amh1 : PySem.W.specialIn K (.ref ph) "__get__" = some (some (.builtin "property.__get__"))) (amh2 : PySem.W.takesIn K (.ref ph) = some true) (amh3 : PySem.W.recIn K ph "property" = some (.ref fmh :: rh)) (lmh : K.lookup fmh = some ⟨ocmh, odmh, .func (PySem.W.fnOf "shift" "Place.shift" (defArgs (inClass sPlace 3)) (defBody (inClass sPlace 3)) (defScope (inClass sPlace 3)) .none kVmh dcmh pmmh anmh cdmh ctmh), slmh⟩) (cmh : PySem.W.codeIn K cdmh "Place.shift" = true) (kmh : PySem.W.keepIn K (.ref fmh) = true)
    (ams : PySem.W.findIn K (.ref cP) "__str__" = some (some (.ref fms))) (lms : K.lookup fms = some ⟨ocms, odms, .func (PySem.W.fnOf "__str__" "Place.__str__" (defArgs (inClass sPlace 4)) (defBody (inClass sPlace 4)) (defScope (inClass sPlace 4)) .none kVms dcms pmms anms cdms ctms), slms⟩) (cms : PySem.W.codeIn K cdms "Place.__str__" = true) (kms : PySem.W.keepIn K (.ref fms) = true)
    (amp : PySem.W.findIn K (.ref cP) "__repr__" = some (some (.ref fmp))) (lmp : K.lookup fmp = some ⟨ocmp, odmp, .func (PySem.W.fnOf "__repr__" "Place.__repr__" (defArgs (inClass sPlace 5)) (defBody (inClass sPlace 5)) (defScope (inClass sPlace 5)) .none kVmp dcmp pmmp anmp cdmp ctmp), slmp⟩) (cmp : PySem.W.codeIn K cdmp "Place.__repr__" = true) (kmp : PySem.W.keepIn K (.ref fmp) = true)
    (amd : PySem.W.findIn K (.ref cP) "__add__" = some (some (.ref fmd))) (lmd : K.lookup fmd = some ⟨ocmd, odmd, .func (PySem.W.fnOf "__add__" "Place.__add__" (defArgs (inClass sPlace 7)) (defBody (inClass sPlace 7)) (defScope (inClass sPlace 7)) .none kVmd dcmd pmmd anmd cdmd ctmd), slmd⟩) (cmd : PySem.W.codeIn K cdmd "Place.__add__" = true) (kmd : PySem.W.keepIn K (.ref fmd) = true)
    (amx : PySem.W.findIn K (.ref cX) "__init__" = some (some (.ref fmx))) (lmx : K.lookup fmx = some ⟨ocmx, odmx, .func (PySem.W.fnOf "__init__" "InvalidPlace.__init__" (defArgs (inClass sInvPlace 0)) (defBody (inClass sInvPlace 0)) (defScope (inClass sInvPlace 0)) .none kVmx dcmx pmmx anmx cdmx ctmx), slmx⟩) (cmx : PySem.W.codeIn K cdmx "InvalidPlace.__init__" = true) (kmx : PySem.W.keepIn K (.ref fmx) = true)
    (ami : PySem.W.findIn K (.ref cI) "__init__" = some (some (.ref fmi))) (lmi : K.lookup fmi = some ⟨ocmi, odmi, .func (PySem.W.fnOf "__init__" "InvalidInteger.__init__" (defArgs (inClass sInvInt 0)) (defBody (inClass sInvInt 0)) (defScope (inClass sInvInt 0)) .none kVmi dcmi pmmi anmi cdmi ctmi), slmi⟩) (cmi : PySem.W.codeIn K cdmi "InvalidInteger.__init__" = true) (kmi : PySem.W.keepIn K (.ref fmi) = true)
    (amt : PySem.W.findIn K (.ref cS) "__init__" = some (some (.ref fmt))) (lmt : K.lookup fmt = some ⟨ocmt, odmt, .func (PySem.W.fnOf "__init__" "InvalidSetting.__init__" (defArgs (inClass sInvSet 0)) (defBody (inClass sInvSet 0)) (defScope (inClass sInvSet 0)) .none kVmt dcmt pmmt anmt cdmt ctmt), slmt⟩) (cmt : PySem.W.codeIn K cdmt "InvalidSetting.__init__" = true) (kmt : PySem.W.keepIn K (.ref fmt) = true)
    (amr : PySem.W.findIn K (.ref cR) "__init__" = some (some (.ref fmr))) (lmr : K.lookup fmr = some ⟨ocmr, odmr, .func (PySem.W.fnOf "__init__" "InvalidFact.__init__" (defArgs (inClass sInvFact 0)) (defBody (inClass sInvFact 0)) (defScope (inClass sInvFact 0)) .none kVmr dcmr pmmr anmr cdmr ctmr), slmr⟩) (cmr : PySem.W.codeIn K cdmr "InvalidFact.__init__" = true) (kmr : PySem.W.keepIn K (.ref fmr) = true)
    (amf : PySem.W.findIn K (.ref cF) "__init__" = some (some (.ref fmf))) (lmf : K.lookup fmf = some ⟨ocmf, odmf, .func (PySem.W.fnOf "__init__" "InvalidFacts.__init__" (defArgs (inClass sInvFacts 0)) (defBody (inClass sInvFacts 0)) (defScope (inClass sInvFacts 0)) .none kVmf dcmf pmmf anmf cdmf ctmf), slmf⟩) (cmf : PySem.W.codeIn K cdmf "InvalidFacts.__init__" = true) (kmf : PySem.W.keepIn K (.ref fmf) = true)
    (ag0 : PySem.W.findIn K (.ref cG) "__init__" = some (some (.ref fg0))) (lg0 : K.lookup fg0 = some ⟨ocg0, odg0, .func (PySem.W.fnOf "__init__" "Setting.__init__" (defArgs (inClass sSetting 0)) (defBody (inClass sSetting 0)) (defScope (inClass sSetting 0)) .none kVg0 dcg0 pmg0 ang0 cdg0 ctg0), slg0⟩) (cg0 : PySem.W.codeIn K cdg0 "Setting.__init__" = true) (kg0 : PySem.W.keepIn K (.ref fg0) = true)
    (ag2 : PySem.W.findIn K (.ref cG) "page" = some (some (.ref pg2))) (ag21 : PySem.W.specialIn K (.ref pg2) "__get__" = some (some (.builtin "property.__get__"))) (ag22 : PySem.W.takesIn K (.ref pg2) = some true) (ag23 : PySem.W.recIn K pg2 "property" = some (.ref fg2 :: rg)) (lg2 : K.lookup fg2 = some ⟨ocg2, odg2, .func (PySem.W.fnOf "page" "Setting.page" (defArgs (inClass sSetting 2)) (defBody (inClass sSetting 2)) (defScope (inClass sSetting 2)) .none kVg2 dcg2 pmg2 ang2 cdg2 ctg2), slg2⟩) (cg2 : PySem.W.codeIn K cdg2 "Setting.page" = true) (kg2 : PySem.W.keepIn K (.ref fg2) = true)
    (ag3 : PySem.W.findIn K (.ref cG) "__getitem__" = some (some (.ref fg3))) (lg3 : K.lookup fg3 = some ⟨ocg3, odg3, .func (PySem.W.fnOf "__getitem__" "Setting.__getitem__" (defArgs (inClass sSetting 3)) (defBody (inClass sSetting 3)) (defScope (inClass sSetting 3)) .none kVg3 dcg3 pmg3 ang3 cdg3 ctg3), slg3⟩) (cg3 : PySem.W.codeIn K cdg3 "Setting.__getitem__" = true) (kg3 : PySem.W.keepIn K (.ref fg3) = true)
    (ag5 : PySem.W.findIn K (.ref cG) "__contains__" = some (some (.ref fg5))) (lg5 : K.lookup fg5 = some ⟨ocg5, odg5, .func (PySem.W.fnOf "__contains__" "Setting.__contains__" (defArgs (inClass sSetting 5)) (defBody (inClass sSetting 5)) (defScope (inClass sSetting 5)) .none kVg5 dcg5 pmg5 ang5 cdg5 ctg5), slg5⟩) (cg5 : PySem.W.codeIn K cdg5 "Setting.__contains__" = true) (kg5 : PySem.W.keepIn K (.ref fg5) = true)
    (ag8 : PySem.W.findIn K (.ref cG) "__repr__" = some (some (.ref fg8))) (lg8 : K.lookup fg8 = some ⟨ocg8, odg8, .func (PySem.W.fnOf "__repr__" "Setting.__repr__" (defArgs (inClass sSetting 8)) (defBody (inClass sSetting 8)) (defScope (inClass sSetting 8)) .none kVg8 dcg8 pmg8 ang8 cdg8 ctg8), slg8⟩) (cg8 : PySem.W.codeIn K cdg8 "Setting.__repr__" = true) (kg8 : PySem.W.keepIn K (.ref fg8) = true)
    (ah0 : PySem.W.findIn K (.ref cH) "__init__" = some (some (.ref fh0))) (lh0 : K.lookup fh0 = some ⟨och0, odh0, .func (PySem.W.fnOf "__init__" "Facts.__init__" (defArgs (inClass sFacts 0)) (defBody (inClass sFacts 0)) (defScope (inClass sFacts 0)) .none kVh0 dch0 pmh0 anh0 cdh0 cth0), slh0⟩) (ch0 : PySem.W.codeIn K cdh0 "Facts.__init__" = true) (kh0 : PySem.W.keepIn K (.ref fh0) = true)
    (ah3 : PySem.W.findIn K (.ref cH) "holds" = some (some (.ref fh3))) (lh3 : K.lookup fh3 = some ⟨och3, odh3, .func (PySem.W.fnOf "holds" "Facts.holds" (defArgs (inClass sFacts 3)) (defBody (inClass sFacts 3)) (defScope (inClass sFacts 3)) .none kVh3 dch3 pmh3 anh3 cdh3 cth3), slh3⟩) (ch3 : PySem.W.codeIn K cdh3 "Facts.holds" = true) (kh3 : PySem.W.keepIn K (.ref fh3) = true)
    (ah4 : PySem.W.findIn K (.ref cH) "__and__" = some (some (.ref fh4))) (lh4 : K.lookup fh4 = some ⟨och4, odh4, .func (PySem.W.fnOf "__and__" "Facts.__and__" (defArgs (inClass sFacts 4)) (defBody (inClass sFacts 4)) (defScope (inClass sFacts 4)) .none kVh4 dch4 pmh4 anh4 cdh4 cth4), slh4⟩) (ch4 : PySem.W.codeIn K cdh4 "Facts.__and__" = true) (kh4 : PySem.W.keepIn K (.ref fh4) = true)
    (ah5 : PySem.W.findIn K (.ref cH) "__len__" = some (some (.ref fh5))) (lh5 : K.lookup fh5 = some ⟨och5, odh5, .func (PySem.W.fnOf "__len__" "Facts.__len__" (defArgs (inClass sFacts 5)) (defBody (inClass sFacts 5)) (defScope (inClass sFacts 5)) .none kVh5 dch5 pmh5 anh5 cdh5 cth5), slh5⟩) (ch5 : PySem.W.codeIn K cdh5 "Facts.__len__" = true) (kh5 : PySem.W.keepIn K (.ref fh5) = true)
    (ah7 : PySem.W.findIn K (.ref cH) "__repr__" = some (some (.ref fh7))) (lh7 : K.lookup fh7 = some ⟨och7, odh7, .func (PySem.W.fnOf "__repr__" "Facts.__repr__" (defArgs (inClass sFacts 7)) (defBody (inClass sFacts 7)) (defScope (inClass sFacts 7)) .none kVh7 dch7 pmh7 anh7 cdh7 cth7), slh7⟩) (ch7 : PySem.W.codeIn K cdh7 "Facts.__repr__" = true) (kh7 : PySem.W.keepIn K (.ref fh7) = true)
    (jms : PySem.W.isFn K (.ref fms) = true)
    (jmp : PySem.W.isFn K (.ref fmp) = true)
    (jmd : PySem.W.isFn K (.ref fmd) = true)
    (jg0 : PySem.W.isFn K (.ref fg0) = true)
    (jg3 : PySem.W.isFn K (.ref fg3) = true)
    (jg5 : PySem.W.isFn K (.ref fg5) = true)
    (jg8 : PySem.W.isFn K (.ref fg8) = true)
    (jh0 : PySem.W.isFn K (.ref fh0) = true)
    (jh3 : PySem.W.isFn K (.ref fh3) = true)
    (jh4 : PySem.W.isFn K (.ref fh4) = true)
    (jh5 : PySem.W.isFn K (.ref fh5) = true)
    (jh7 : PySem.W.isFn K (.ref fh7) = true)
    (fo : PySem.W.fnIn K fmo = true)
    (fog : PySem.W.fnIn K fg3 = true)
    (tfX : PySem.W.typeIn K (.ref fmx) = some (.type "function"))
    (tfI : PySem.W.typeIn K (.ref fmi) = some (.type "function"))
    (tfS : PySem.W.typeIn K (.ref fmt) = some (.type "function"))
    (tfR : PySem.W.typeIn K (.ref fmr) = some (.type "function"))
    (tfF : PySem.W.typeIn K (.ref fmf) = some (.type "function"))
    {odI anI odT : Option Addr} {slI slT : Array (Option Value)} {ocI dcI pmI cdI ctI : Value} {nT : Nat} {kT kS kL kA kM kU kP : Tok}
    (eG : kVg0 = .ref kG)
    (iI : PySem.W.findIn K (.ref cP) "__init__" = some (some (.ref fI)))
    (jI : PySem.W.isFn K (.ref fI) = true)
    (lI : K.lookup fI = some ⟨ocI, odI, .func (PySem.W.fnOf "__init__" "Place.__init__" (defArgs (inClass sPlace 0)) (defBody (inClass sPlace 0)) (defScope (inClass sPlace 0)) (.ref tD) (.ref kD) dcI pmI anI cdI ctI), slI⟩)
    (cI_ : PySem.W.codeIn K cdI "Place.__init__" = true)
    (kI : PySem.W.keepIn K (.ref fI) = true)
    (lT : K.lookup tD = some ⟨.type "tuple", odT, .seq #[.str "" kT] nT, slT⟩)
    (sD : PySem.W.nsIn K kD "shift" = some (some (.int 0 kS)))
    (hn : PySem.W.specialIn K (.builtin "object.__class__") "__get__" = some (some (.builtin "getset_descriptor.__get__")))
    (htk : PySem.W.takesIn K (.builtin "object.__class__") = some true)
    (nB : PySem.W.findIn K (.ref cP) "_base" = some none)
    (nS : PySem.W.findIn K (.ref cP) "_shift" = some none)
    (rdP : PySem.W.readsIn K cP (.type "type") = true)
    (gaP : PySem.W.specialIn K (.ref cP) "__getattribute__" = some (some (.builtin "type.__getattribute__")))
    (xiP : PySem.W.mroIn K cP (.type "int") = some false)
    (xsP : PySem.W.mroIn K cP (.type "str") = some false)
    (sf : PySem.W.selfFirst K cP = true)
    (ra : PySem.W.findIn K (.ref cP) "__radd__" = some (some (.ref fra)))
    (ia : PySem.W.findIn K (.type "int") "__add__" = some fi)
    (ira : PySem.W.findIn K (.type "int") "__radd__" = some ri)
    (pgP : PySem.W.plainGet K cP Str.empty = true)
    (hdP : PySem.W.hasDictIn K cP = true)
    (pv_P : PySem.W.plainOver K cP = true)
    (saP : PySem.W.findIn K (.ref cP) "__setattr__" = some (some (.builtin "object.__setattr__")))
    (mkP : PySem.W.makesIn K cP = true)
    (kcP : PySem.W.keepIn K (.ref cP) = true)
    (haP : PySem.W.findIn K (.ref cP) "__class__" = some (some (.builtin "object.__class__")))
    (hmP : PySem.W.mroIn K cP (.type "object") = some true)
    (tCP : PySem.W.typeIn K (.ref cP) = some (.type "type"))
    (pgG : PySem.W.plainGet K cG Str.empty = true)
    (hdG : PySem.W.hasDictIn K cG = true)
    (pv_G : PySem.W.plainOver K cG = true)
    (saG : PySem.W.findIn K (.ref cG) "__setattr__" = some (some (.builtin "object.__setattr__")))
    (mkG : PySem.W.makesIn K cG = true)
    (kcG : PySem.W.keepIn K (.ref cG) = true)
    (haG : PySem.W.findIn K (.ref cG) "__class__" = some (some (.builtin "object.__class__")))
    (hmG : PySem.W.mroIn K cG (.type "object") = some true)
    (tCG : PySem.W.typeIn K (.ref cG) = some (.type "type"))
    (pgH : PySem.W.plainGet K cH Str.empty = true)
    (hdH : PySem.W.hasDictIn K cH = true)
    (pv_H : PySem.W.plainOver K cH = true)
    (saH : PySem.W.findIn K (.ref cH) "__setattr__" = some (some (.builtin "object.__setattr__")))
    (mkH : PySem.W.makesIn K cH = true)
    (kcH : PySem.W.keepIn K (.ref cH) = true)
    (haH : PySem.W.findIn K (.ref cH) "__class__" = some (some (.builtin "object.__class__")))
    (hmH : PySem.W.mroIn K cH (.type "object") = some true)
    (tCH : PySem.W.typeIn K (.ref cH) = some (.type "type"))
    (nZG : PySem.W.findIn K (.ref cG) "_sizes" = some none)
    (nPG : PySem.W.findIn K (.ref cG) "_page" = some none)
    (sG : PySem.W.nsIn K kG "page" = some (some (.int 32 kP)))
    (nRH : PySem.W.findIn K (.ref cH) "_rows" = some none)
    (nUH : PySem.W.findIn K (.ref cH) "_unknowns" = some none)
    (sfH : PySem.W.selfFirst K cH = true)
    (anH : PySem.W.findIn K (.ref cH) "__rand__" = some none)
    (sGNoneType : PySem.W.subIn K (.type "NoneType") (.ref cG) = some false)
    (sGint : PySem.W.subIn K (.type "int") (.ref cG) = some false)
    (sGbool : PySem.W.subIn K (.type "bool") (.ref cG) = some false)
    (sGstr : PySem.W.subIn K (.type "str") (.ref cG) = some false)
    (sGdict : PySem.W.subIn K (.type "dict") (.ref cG) = some false)
    (sGlist : PySem.W.subIn K (.type "list") (.ref cG) = some false)
    (sHNoneType : PySem.W.subIn K (.type "NoneType") (.ref cH) = some false)
    (sHint : PySem.W.subIn K (.type "int") (.ref cH) = some false)
    (sHtuple : PySem.W.subIn K (.type "tuple") (.ref cH) = some false)
    (sHlist : PySem.W.subIn K (.type "list") (.ref cH) = some false)
    (sPlist : PySem.W.subIn K (.type "list") (.ref cP) = some false)
    (sPtuple : PySem.W.subIn K (.type "tuple") (.ref cP) = some false)
    (suHG : PySem.W.subIn K (.ref cH) (.ref cG) = some false)
    (suGH : PySem.W.subIn K (.ref cG) (.ref cH) = some false)
    (suFR : PySem.W.subIn K (.ref cF) (.ref cR) = some false)
    (suFS : PySem.W.subIn K (.ref cF) (.ref cS) = some false)
    (xtH : PySem.W.mroIn K cH (.type "tuple") = some false)
    (d1G : PySem.W.findIn K (.ref cG) "__and__" = some none)
    (d2G : PySem.W.findIn K (.ref cG) "__rand__" = some none)
    (o1 : PySem.W.findIn K (.type "object") "__and__" = some none)
    (o2 : PySem.W.findIn K (.type "object") "__rand__" = some none)
    (mroG : (PySem.W.clsIn K cG).map (·.mro) = some [.ref cG, .type "object"])
    (neHG : cH ≠ cG)
    (ioNoneType : ∃ fo, PySem.W.findIn K (.type "NoneType") "__and__" = some fo)
    (irNoneType : ∃ fo, PySem.W.findIn K (.type "NoneType") "__rand__" = some fo)
    (ioint : ∃ fo, PySem.W.findIn K (.type "int") "__and__" = some fo)
    (irint : ∃ fo, PySem.W.findIn K (.type "int") "__rand__" = some fo)
    (iotuple : ∃ fo, PySem.W.findIn K (.type "tuple") "__and__" = some fo)
    (irtuple : ∃ fo, PySem.W.findIn K (.type "tuple") "__rand__" = some fo)
    (iolist : ∃ fo, PySem.W.findIn K (.type "list") "__and__" = some fo)
    (irlist : ∃ fo, PySem.W.findIn K (.type "list") "__rand__" = some fo)
    {nmX qqX : Str} {NNX : Addr} {bsX bmX : List Value} {snX : List Str} {subX : List Value} {abX : Bool} {colX : Option Bool} {ddX : Option Addr} {k0X k1X k2X k3X k5X : Option Value}
    (lXx : K.lookup cX = some (excClassObj nmX qqX cX NNX bsX bmX true snX subX abX colX ddX k0X k1X k2X k3X k5X "ValueError.__new__"))
    (rX : PySem.HandSPX.refsVE bmX = true)
    (saXe : PySem.W.findIn K (.ref cX) "__setattr__" = some (some (.builtin "object.__setattr__")))
    (exXe : PySem.W.subIn K (.ref cX) (.type "BaseException") = some true)
    (tyXe : PySem.W.typeIn K (.ref cX) = some (.type "type"))
    (kXe : PySem.W.keepIn K (.ref cX) = true)
    (gaXe : PySem.W.findIn K (.ref cX) "__getattribute__" = some (some (.builtin "BaseException.__getattribute__")))
    (ggXe : PySem.W.findIn K (.ref cX) "__getattr__" = some none)
    (hdXe : PySem.W.hasDictIn K cX = true)
    (suXe : PySem.W.subIn K (.ref cX) (.ref cX) = some true)
    (noXe : PySem.W.findIn K (.ref cX) "value" = some none)
    {nmI qqI : Str} {NNI : Addr} {bsI bmI : List Value} {snI : List Str} {subI : List Value} {abI : Bool} {colI : Option Bool} {ddI : Option Addr} {k0I k1I k2I k3I k5I : Option Value}
    (lIx : K.lookup cI = some (excClassObj nmI qqI cI NNI bsI bmI true snI subI abI colI ddI k0I k1I k2I k3I k5I "ValueError.__new__"))
    (rI : PySem.HandSPX.refsVE bmI = true)
    (saIe : PySem.W.findIn K (.ref cI) "__setattr__" = some (some (.builtin "object.__setattr__")))
    (exIe : PySem.W.subIn K (.ref cI) (.type "BaseException") = some true)
    (tyIe : PySem.W.typeIn K (.ref cI) = some (.type "type"))
    (kIe : PySem.W.keepIn K (.ref cI) = true)
    (gaIe : PySem.W.findIn K (.ref cI) "__getattribute__" = some (some (.builtin "BaseException.__getattribute__")))
    (ggIe : PySem.W.findIn K (.ref cI) "__getattr__" = some none)
    (hdIe : PySem.W.hasDictIn K cI = true)
    (suIe : PySem.W.subIn K (.ref cI) (.ref cI) = some true)
    (noIe : PySem.W.findIn K (.ref cI) "value" = some none)
    {nmS qqS : Str} {NNS : Addr} {bsS bmS : List Value} {snS : List Str} {subS : List Value} {abS : Bool} {colS : Option Bool} {ddS : Option Addr} {k0S k1S k2S k3S k5S : Option Value}
    (lSx : K.lookup cS = some (excClassObj nmS qqS cS NNS bsS bmS true snS subS abS colS ddS k0S k1S k2S k3S k5S "ValueError.__new__"))
    (rS : PySem.HandSPX.refsVE bmS = true)
    (saSe : PySem.W.findIn K (.ref cS) "__setattr__" = some (some (.builtin "object.__setattr__")))
    (exSe : PySem.W.subIn K (.ref cS) (.type "BaseException") = some true)
    (tySe : PySem.W.typeIn K (.ref cS) = some (.type "type"))
    (kSe : PySem.W.keepIn K (.ref cS) = true)
    (gaSe : PySem.W.findIn K (.ref cS) "__getattribute__" = some (some (.builtin "BaseException.__getattribute__")))
    (ggSe : PySem.W.findIn K (.ref cS) "__getattr__" = some none)
    (hdSe : PySem.W.hasDictIn K cS = true)
    (suSe : PySem.W.subIn K (.ref cS) (.ref cS) = some true)
    (noSe : PySem.W.findIn K (.ref cS) "value" = some none)
    {nmR qqR : Str} {NNR : Addr} {bsR bmR : List Value} {snR : List Str} {subR : List Value} {abR : Bool} {colR : Option Bool} {ddR : Option Addr} {k0R k1R k2R k3R k5R : Option Value}
    (lRx : K.lookup cR = some (excClassObj nmR qqR cR NNR bsR bmR true snR subR abR colR ddR k0R k1R k2R k3R k5R "ValueError.__new__"))
    (rR : PySem.HandSPX.refsVE bmR = true)
    (saRe : PySem.W.findIn K (.ref cR) "__setattr__" = some (some (.builtin "object.__setattr__")))
    (exRe : PySem.W.subIn K (.ref cR) (.type "BaseException") = some true)
    (tyRe : PySem.W.typeIn K (.ref cR) = some (.type "type"))
    (kRe : PySem.W.keepIn K (.ref cR) = true)
    (gaRe : PySem.W.findIn K (.ref cR) "__getattribute__" = some (some (.builtin "BaseException.__getattribute__")))
    (ggRe : PySem.W.findIn K (.ref cR) "__getattr__" = some none)
    (hdRe : PySem.W.hasDictIn K cR = true)
    (suRe : PySem.W.subIn K (.ref cR) (.ref cR) = some true)
    (noRe : PySem.W.findIn K (.ref cR) "value" = some none)
    {nmF qqF : Str} {NNF : Addr} {bsF bmF : List Value} {snF : List Str} {subF : List Value} {abF : Bool} {colF : Option Bool} {ddF : Option Addr} {k0F k1F k2F k3F k5F : Option Value}
    (lFx : K.lookup cF = some (excClassObj nmF qqF cF NNF bsF bmF true snF subF abF colF ddF k0F k1F k2F k3F k5F "ValueError.__new__"))
    (rF : PySem.HandSPX.refsVE bmF = true)
    (saFe : PySem.W.findIn K (.ref cF) "__setattr__" = some (some (.builtin "object.__setattr__")))
    (exFe : PySem.W.subIn K (.ref cF) (.type "BaseException") = some true)
    (tyFe : PySem.W.typeIn K (.ref cF) = some (.type "type"))
    (kFe : PySem.W.keepIn K (.ref cF) = true)
    (gaFe : PySem.W.findIn K (.ref cF) "__getattribute__" = some (some (.builtin "BaseException.__getattribute__")))
    (ggFe : PySem.W.findIn K (.ref cF) "__getattr__" = some none)
    (hdFe : PySem.W.hasDictIn K cF = true)
    (suFe : PySem.W.subIn K (.ref cF) (.ref cF) = some true)
    (noFe : PySem.W.findIn K (.ref cF) "value" = some none)
    (rdM : PySem.W.readsIn K cM (.type "type") = true)
    (gaM : PySem.W.specialIn K (.ref cM) "__getattribute__" = some (some (.builtin "type.__getattribute__")))
    (fcM : PySem.W.findCls K (.ref cM) (.type "type") "__init__" = some (.val (.builtin "ValueError.__init__")))
    (gL : PySem.W.nsIn K mainGlobals "_LONGEST_NAME" = some (some (.int 6 kL)))
    (gA : PySem.W.nsIn K mainGlobals "_LETTERS" = some (some (.str abc kA)))
    (gM : PySem.W.nsIn K mainGlobals "_MOST" = some (some (.int 3 kM)))
    (gU : PySem.W.nsIn K mainGlobals "MOST_UNKNOWNS" = some (some (.int 2 kU)))
    {zntn : Nat} {utn0 utn1 utn2 utn3 : Int} {ptn0 qtn0 ptn1 qtn1 ptn2 qtn2 ptn3 qtn3 : Tok}
    (gtn : PySem.W.nsIn K mainGlobals "_NUMBERS" = some (some (.ref dtn)))
    (ttn : K.lookup dtn = some ⟨.type "dict", none, .dict #[⟨utn0, .str "0" ptn0, .int 0 qtn0⟩, ⟨utn1, .str "1" ptn1, .int 1 qtn1⟩, ⟨utn2, .str "2" ptn2, .int 2 qtn2⟩, ⟨utn3, .str "3" ptn3, .int 3 qtn3⟩] zntn, #[]⟩)
    (etn0 : utn0 = PyData.keyHash w.params "0")
    (etn1 : utn1 = PyData.keyHash w.params "1")
    (etn2 : utn2 = PyData.keyHash w.params "2")
    (etn3 : utn3 = PyData.keyHash w.params "3")
    (wtn : (dtn == sysModules) = false)
    {znts : Nat} {uts0 uts1 uts2 uts3 uts4 uts5 : Int} {pts0 qts0 pts1 qts1 pts2 qts2 pts3 qts3 pts4 qts4 pts5 qts5 : Tok}
    (gts : PySem.W.nsIn K mainGlobals "_SHIFTS" = some (some (.ref dts)))
    (tts : K.lookup dts = some ⟨.type "dict", none, .dict #[⟨uts0, .str "-3" pts0, .int (-3) qts0⟩, ⟨uts1, .str "-2" pts1, .int (-2) qts1⟩, ⟨uts2, .str "-1" pts2, .int (-1) qts2⟩, ⟨uts3, .str "+1" pts3, .int 1 qts3⟩, ⟨uts4, .str "+2" pts4, .int 2 qts4⟩, ⟨uts5, .str "+3" pts5, .int 3 qts5⟩] znts, #[]⟩)
    (ets0 : uts0 = PyData.keyHash w.params "-3")
    (ets1 : uts1 = PyData.keyHash w.params "-2")
    (ets2 : uts2 = PyData.keyHash w.params "-1")
    (ets3 : uts3 = PyData.keyHash w.params "+1")
    (ets4 : uts4 = PyData.keyHash w.params "+2")
    (ets5 : uts5 = PyData.keyHash w.params "+3")
    (wts : (dts == sysModules) = false)
    {zntp : Nat} {utp0 utp1 : Int} {ptp0 qtp0 ptp1 qtp1 : Tok}
    (gtp : PySem.W.nsIn K mainGlobals "_PLACES" = some (some (.ref dtp)))
    (ttp : K.lookup dtp = some ⟨.type "dict", none, .dict #[⟨utp0, .str "at_most" ptp0, .int 2 qtp0⟩, ⟨utp1, .str "page" ptp1, .int 1 qtp1⟩] zntp, #[]⟩)
    (etp0 : utp0 = PyData.keyHash w.params "at_most")
    (etp1 : utp1 = PyData.keyHash w.params "page")
    (wtp : (dtp == sysModules) = false)
    (zlen : PySem.W.nsIn K mainGlobals "len" = some none)
    (zmax : PySem.W.nsIn K mainGlobals "max" = some none)
    (zmin : PySem.W.nsIn K mainGlobals "min" = some none)
    (zint : PySem.W.nsIn K mainGlobals "int" = some none)
    (zrange : PySem.W.nsIn K mainGlobals "range" = some none)
    (zisinstance : PySem.W.nsIn K mainGlobals "isinstance" = some none)
    (zbool : PySem.W.nsIn K mainGlobals "bool" = some none)
    (zstr : PySem.W.nsIn K mainGlobals "str" = some none)
    (zall : PySem.W.nsIn K mainGlobals "all" = some none)
    (zrepr : PySem.W.nsIn K mainGlobals "repr" = some none)
    (zdict : PySem.W.nsIn K mainGlobals "dict" = some none)
    (ztuple : PySem.W.nsIn K mainGlobals "tuple" = some none)
    (zsorted : PySem.W.nsIn K mainGlobals "sorted" = some none)
    (zsum : PySem.W.nsIn K mainGlobals "sum" = some none)
    (zset : PySem.W.nsIn K mainGlobals "set" = some none)
    : ∃ fd : FuncData, (∀ (s : Shared) (v : Value), BindsTo s fd ⟨[v], []⟩ [("_law_script", v)]) ∧ ∀ base : Heap, K.In base → base.Ns mainGlobals mg → FnG l.prog w K mg base CX0 13 fa fd ["_law_script"] (spLaw K) := by
  have e := hfa.symm.trans (PySem.W.mg_of X G ala)
  cases e
  have B : Blt mg := ⟨PySem.W.mg_none_of X G zlen, PySem.W.mg_none_of X G zmax, PySem.W.mg_none_of X G zmin, PySem.W.mg_none_of X G zint, PySem.W.mg_none_of X G zrange⟩
  have D : Blp mg := ⟨PySem.W.mg_none_of X G zisinstance, PySem.W.mg_none_of X G zbool, PySem.W.mg_none_of X G zstr, PySem.W.mg_none_of X G zall⟩
  have m_len := PySem.W.mg_none_of X G zlen
  have m_max := PySem.W.mg_none_of X G zmax
  have m_min := PySem.W.mg_none_of X G zmin
  have m_int := PySem.W.mg_none_of X G zint
  have m_range := PySem.W.mg_none_of X G zrange
  have m_isinstance := PySem.W.mg_none_of X G zisinstance
  have m_bool := PySem.W.mg_none_of X G zbool
  have m_str := PySem.W.mg_none_of X G zstr
  have m_all := PySem.W.mg_none_of X G zall
  have m_repr := PySem.W.mg_none_of X G zrepr
  have m_dict := PySem.W.mg_none_of X G zdict
  have m_tuple := PySem.W.mg_none_of X G ztuple
  have m_sorted := PySem.W.mg_none_of X G zsorted
  have m_sum := PySem.W.mg_none_of X G zsum
  have m_set := PySem.W.mg_none_of X G zset
  have Fwh := fun_mk (st := sWhole) lwh cwh kwh
  have bwh := Fwh.binds (ps := ["value"]) fun _ _ _ _ _ _ us hl => match us, hl with | [_], _ => rfl
  have mwh := PySem.W.mg_of X G awh
  have Fii := fun_mk (st := sIsInt) lii cii kii
  have bii := Fii.binds (ps := ["value", "low", "high"]) fun _ _ _ _ _ _ us hl => match us, hl with | [_, _, _], _ => rfl
  have mii := PySem.W.mg_of X G aii
  have Ffr := fun_mk (st := sIsFrom) lfr cfr kfr
  have bfr := Ffr.binds (ps := ["value", "low"]) fun _ _ _ _ _ _ us hl => match us, hl with | [_, _], _ => rfl
  have mfr := PySem.W.mg_of X G afr
  have Fna := fun_mk (st := sIsName) lna cna kna
  have bna := Fna.binds (ps := ["value"]) fun _ _ _ _ _ _ us hl => match us, hl with | [_], _ => rfl
  have mna := PySem.W.mg_of X G ana
  have Fip := fun_mk (st := sIsPlace) lip cip kip
  have bip := Fip.binds (ps := ["value"]) fun _ _ _ _ _ _ us hl => match us, hl with | [_], _ => rfl
  have mip := PySem.W.mg_of X G aip
  have Fuo := fun_mk (st := sUnkOf) luo cuo kuo
  have buo := Fuo.binds (ps := ["places"]) fun _ _ _ _ _ _ us hl => match us, hl with | [_], _ => rfl
  have muo := PySem.W.mg_of X G auo
  have Fle := fun_mk (st := sLeast) lle cle kle
  have ble := Fle.binds (ps := ["base"]) fun _ _ _ _ _ _ us hl => match us, hl with | [_], _ => rfl
  have mle := PySem.W.mg_of X G ale
  have Fpt := fun_mk (st := sParts) lpt cpt kpt
  have bpt := Fpt.binds (ps := ["text"]) fun _ _ _ _ _ _ us hl => match us, hl with | [_], _ => rfl
  have mpt := PySem.W.mg_of X G apt
  have Fhs := fun_mk (st := sHasSizes) lhs chs khs
  have bhs := Fhs.binds (ps := ["setting", "unknowns"]) fun _ _ _ _ _ _ us hl => match us, hl with | [_, _], _ => rfl
  have mhs := PySem.W.mg_of X G ahs
  have Far := fun_mk (st := sAreSizes) lar car kar
  have bar := Far.binds (ps := ["value"]) fun _ _ _ _ _ _ us hl => match us, hl with | [_], _ => rfl
  have mar := PySem.W.mg_of X G aar
  have Fif_ := fun_mk (st := sIsFact) lif_ cif_ kif_
  have bif_ := Fif_.binds (ps := ["value"]) fun _ _ _ _ _ _ us hl => match us, hl with | [_], _ => rfl
  have mif_ := PySem.W.mg_of X G aif_
  have Fpl := fun_mk (st := sPlacedRow) lpl cpl kpl
  have bpl := Fpl.binds (ps := ["row"]) fun _ _ _ _ _ _ us hl => match us, hl with | [_], _ => rfl
  have mpl := PySem.W.mg_of X G apl
  have Fpo_ := fun_mk (st := sPlacesOf) lpo_ cpo_ kpo_
  have bpo_ := Fpo_.binds (ps := ["rows"]) fun _ _ _ _ _ _ us hl => match us, hl with | [_], _ => rfl
  have mpo_ := PySem.W.mg_of X G apo_
  have Fke := fun_mk (st := sKeeps) lke cke kke
  have bke := Fke.binds (ps := ["setting", "row"]) fun _ _ _ _ _ _ us hl => match us, hl with | [_, _], _ => rfl
  have mke := PySem.W.mg_of X G ake
  have Fce := fun_mk (st := sCell) lce cce kce
  have bce := Fce.binds (ps := ["_law_script", "_law_k"]) fun _ _ _ _ _ _ us hl => match us, hl with | [_, _], _ => rfl
  have mce := PySem.W.mg_of X G ace
  have Fbo := fun_mk (st := sBox) lbo cbo kbo
  have bbo := Fbo.binds (ps := ["_law_cell_here"]) fun _ _ _ _ _ _ us hl => match us, hl with | [_], _ => rfl
  have mbo := PySem.W.mg_of X G abo
  have Fta := fun_mk (st := sTake) lta cta kta
  have bta := Fta.binds (ps := ["_law_box_here", "_law_many"]) fun _ _ _ _ _ _ us hl => match us, hl with | [_, _], _ => rfl
  have mta := PySem.W.mg_of X G ata
  have Fgo := fun_mk (st := sGood9) lgo cgo kgo
  have bgo := Fgo.binds (ps := ["_law_box_here"]) fun _ _ _ _ _ _ us hl => match us, hl with | [_], _ => rfl
  have mgo := PySem.W.mg_of X G ago
  have Fod_ := fun_mk (st := sOdd9) lod_ cod_ kod_
  have bod_ := Fod_.binds (ps := ["_law_box_here"]) fun _ _ _ _ _ _ us hl => match us, hl with | [_], _ => rfl
  have mod_ := PySem.W.mg_of X G aod_
  have Flr := fun_mk (st := sLRoots) llr clr klr
  have blr := Flr.binds (ps := ["_law_row"]) fun _ _ _ _ _ _ us hl => match us, hl with | [_], _ => rfl
  have mlr := PySem.W.mg_of X G alr
  have Fca := fun_mk (st := sCalled) lca cca kca
  have bca := Fca.binds (ps := ["_law_rows"]) fun _ _ _ _ _ _ us hl => match us, hl with | [_], _ => rfl
  have mca := PySem.W.mg_of X G aca
  have Flm := fun_mk (st := sMade9) llm clm klm
  have blm := Flm.binds (ps := ["_law_rows"]) fun _ _ _ _ _ _ us hl => match us, hl with | [_], _ => rfl
  have mlm := PySem.W.mg_of X G alm
  have Fas_ := fun_mk (st := sAsked9) las_ cas_ kas_
  have bas_ := Fas_.binds (ps := ["_law_facts", "_law_way", "_law_thing"]) fun _ _ _ _ _ _ us hl => match us, hl with | [_, _, _], _ => rfl
  have mas_ := PySem.W.mg_of X G aas_
  have Fth := fun_mk (st := sThings) lth cth kth
  have bth := Fth.binds (ps := ["_law_box_here", "_law_facts", "_law_names"]) fun _ _ _ _ _ _ us hl => match us, hl with | [_, _, _], _ => rfl
  have mth := PySem.W.mg_of X G ath
  have Fla := fun_mk (st := sLaw) lla cla kla
  have bla := Fla.binds (ps := ["_law_script"]) fun _ _ _ _ _ _ us hl => match us, hl with | [_], _ => rfl
  have mla := PySem.W.mg_of X G ala
  have Fmo := fun_mk (st := (inClass sPlace 1)) lmo cmo kmo
  have bmo := Fmo.binds (ps := ["cls", "value"]) fun _ _ _ _ _ _ us hl => match us, hl with | [_, _], _ => rfl
  have Fmb := fun_mk (st := (inClass sPlace 2)) lmb cmb kmb
  have bmb := Fmb.binds (ps := ["self"]) fun _ _ _ _ _ _ us hl => match us, hl with | [_], _ => rfl
  have Fmh := fun_mk (st := (inClass sPlace 3)) lmh cmh kmh
  have bmh := Fmh.binds (ps := ["self"]) fun _ _ _ _ _ _ us hl => match us, hl with | [_], _ => rfl
  have Fms := fun_mk (st := (inClass sPlace 4)) lms cms kms
  have bms := Fms.binds (ps := ["self"]) fun _ _ _ _ _ _ us hl => match us, hl with | [_], _ => rfl
  have Fmp := fun_mk (st := (inClass sPlace 5)) lmp cmp kmp
  have bmp := Fmp.binds (ps := ["self"]) fun _ _ _ _ _ _ us hl => match us, hl with | [_], _ => rfl
  have Fmd := fun_mk (st := (inClass sPlace 7)) lmd cmd kmd
  have bmd := Fmd.binds (ps := ["self", "other"]) fun _ _ _ _ _ _ us hl => match us, hl with | [_, _], _ => rfl
  have Fmx := fun_mk (st := (inClass sInvPlace 0)) lmx cmx kmx
  have bmx := Fmx.binds (ps := ["self", "value"]) fun _ _ _ _ _ _ us hl => match us, hl with | [_, _], _ => rfl
  have Fmi := fun_mk (st := (inClass sInvInt 0)) lmi cmi kmi
  have bmi := Fmi.binds (ps := ["self", "value"]) fun _ _ _ _ _ _ us hl => match us, hl with | [_, _], _ => rfl
  have Fmt := fun_mk (st := (inClass sInvSet 0)) lmt cmt kmt
  have bmt := Fmt.binds (ps := ["self", "value"]) fun _ _ _ _ _ _ us hl => match us, hl with | [_, _], _ => rfl
  have Fmr := fun_mk (st := (inClass sInvFact 0)) lmr cmr kmr
  have bmr := Fmr.binds (ps := ["self", "value"]) fun _ _ _ _ _ _ us hl => match us, hl with | [_, _], _ => rfl
  have Fmf := fun_mk (st := (inClass sInvFacts 0)) lmf cmf kmf
  have bmf := Fmf.binds (ps := ["self", "value"]) fun _ _ _ _ _ _ us hl => match us, hl with | [_, _], _ => rfl
  have Fg0 := fun_mk (st := (inClass sSetting 0)) lg0 cg0 kg0
  have Fg2 := fun_mk (st := (inClass sSetting 2)) lg2 cg2 kg2
  have bg2 := Fg2.binds (ps := ["self"]) fun _ _ _ _ _ _ us hl => match us, hl with | [_], _ => rfl
  have Fg3 := fun_mk (st := (inClass sSetting 3)) lg3 cg3 kg3
  have bg3 := Fg3.binds (ps := ["self", "at"]) fun _ _ _ _ _ _ us hl => match us, hl with | [_, _], _ => rfl
  have Fg5 := fun_mk (st := (inClass sSetting 5)) lg5 cg5 kg5
  have bg5 := Fg5.binds (ps := ["self", "x"]) fun _ _ _ _ _ _ us hl => match us, hl with | [_, _], _ => rfl
  have Fg8 := fun_mk (st := (inClass sSetting 8)) lg8 cg8 kg8
  have bg8 := Fg8.binds (ps := ["self"]) fun _ _ _ _ _ _ us hl => match us, hl with | [_], _ => rfl
  have Fh0 := fun_mk (st := (inClass sFacts 0)) lh0 ch0 kh0
  have Fh3 := fun_mk (st := (inClass sFacts 3)) lh3 ch3 kh3
  have bh3 := Fh3.binds (ps := ["self", "setting"]) fun _ _ _ _ _ _ us hl => match us, hl with | [_, _], _ => rfl
  have Fh4 := fun_mk (st := (inClass sFacts 4)) lh4 ch4 kh4
  have bh4 := Fh4.binds (ps := ["self", "other"]) fun _ _ _ _ _ _ us hl => match us, hl with | [_, _], _ => rfl
  have Fh5 := fun_mk (st := (inClass sFacts 5)) lh5 ch5 kh5
  have bh5 := Fh5.binds (ps := ["self"]) fun _ _ _ _ _ _ us hl => match us, hl with | [_], _ => rfl
  have Fh7 := fun_mk (st := (inClass sFacts 7)) lh7 ch7 kh7
  have bh7 := Fh7.binds (ps := ["self"]) fun _ _ _ _ _ _ us hl => match us, hl with | [_], _ => rfl
  have FI : FunD K "__init__" "Place.__init__" (defArgs (inClass sPlace 0)) (defBody (inClass sPlace 0)) (defScope (inClass sPlace 0)) [.str ""] [("shift", .int 0)] fI _ :=
    ⟨⟨ocI, odI, .ref tD, .ref kD, dcI, pmI, anI, cdI, ctI, slI, rfl, lI, cI_, .inr ⟨by simp, tD, _, [.str "" kT], nT, rfl, lT, rfl, .cons ⟨kT, rfl⟩ .nil⟩, .inr ⟨kD, rfl, fun q hq => by
      rw [List.mem_singleton.mp hq]
      exact ⟨_, sD, ⟨kS, rfl⟩⟩⟩⟩, kI⟩
  obtain ⟨ds2, hds2, bI2⟩ := FunD.binds (ps := ["self", "base", "shift"]) FI 2 1 (by simp) rfl (fun T D doc pm an cdv ct us its ks l1 l2 l3 => match us, its, ks, l1, l2, l3 with
    | [_, _], [_], [_], _, _, _ => ⟨_, rfl, ⟨_, _, _, _, _, _, rfl, rfl, rfl⟩⟩) (by simp)
  obtain ⟨its1, mv1, kb1⟩ := FunD.kbinds (ps := ["self", "base", "shift"]) FI 1 ["shift"] [] (fun us its _ ws => us ++ its ++ ws) (by simp) (by simp) (fun q hq => nomatch hq) (fun r1 r2 _ r4 => (r1.append r2).append r4)
    (fun T D doc pm an cdv ct us its mv ws l1 l2 l3 l4 => match us, its, mv, ws, l1, l2, l3, l4 with
    | [_], [_], [], [_], _, _, _, _ => ⟨_, rfl, rfl⟩)
  obtain ⟨its2, mv2, kb2⟩ := FunD.kbinds (ps := ["self", "base", "shift"]) FI 2 ["shift"] [] (fun us _ _ ws => us ++ ws) (by simp) (by simp) (fun q hq => nomatch hq) (fun r1 _ _ r4 => r1.append r4)
    (fun T D doc pm an cdv ct us its mv ws l1 l2 l3 l4 => match us, its, mv, ws, l1, l2, l3, l4 with
    | [_, _], [_], [], [_], _, _, _, _ => ⟨_, rfl, rfl⟩)
  have Z : Cpl K mg cP := ⟨⟨pgP, hdP, pv_P, saP⟩, nB, nS, PySem.W.mg_of X G aCP⟩
  have Y : Pty K cP := ⟨⟨pgP, hdP, pv_P, saP⟩, haP, hn, htk, hmP⟩
  have N1 : Npl K cP := ⟨kit_ref hdP tCP rfl, kit_ref hdP tCP rfl, kit_ref hdP tCP rfl, kit_ref hdP tCP rfl⟩
  have M : Mk K cP fI := ⟨mkP, iI, jI, kcP⟩
  subst eG
  have FS : FunD K "__init__" "Setting.__init__" (defArgs (inClass sSetting 0)) (defBody (inClass sSetting 0)) (defScope (inClass sSetting 0)) [] [("page", .int 32)] fg0 _ :=
    ⟨⟨ocg0, odg0, .none, .ref kG, dcg0, pmg0, ang0, cdg0, ctg0, slg0, rfl, lg0, cg0, .inl ⟨rfl, rfl⟩, .inr ⟨kG, rfl, fun q hq => by
      rw [List.mem_singleton.mp hq]
      exact ⟨_, sG, ⟨kP, rfl⟩⟩⟩⟩, kg0⟩
  obtain ⟨dsS, hdsS, bS2⟩ := FunD.binds0 (ps := ["self", "sizes", "page"]) FS 2 (by simp) rfl (fun D doc pm an cdv ct us ks l1 l2 => match us, ks, l1, l2 with
    | [_, _], [_], _, _ => ⟨_, _, _, _, _, _, rfl, rfl, rfl⟩)
  have kS2 := kb_one (ps := ["self", "sizes", "page"]) Fg0 2 ["page"] fun _ _ _ _ _ _ us ws hu hw => match us, ws, hu, hw with | [_, _], [_], _, _ => rfl
  have YS : Pty K cG := ⟨⟨pgG, hdG, pv_G, saG⟩, haG, hn, htk, hmG⟩
  have pP : PropOf K cG "page" pg2 fg2 := ⟨ag2, ag21, ag22, rg, ag23⟩
  have MS : Mk K cG fg0 := ⟨mkG, ag0, jg0, kcG⟩
  have TT : Scl K mg cG := ⟨⟨pgG, hdG, pv_G, saG⟩, nZG, nPG, PySem.W.mg_of X G aCG⟩
  have TF : Fcl K mg cH := ⟨⟨pgH, hdH, pv_H, saH⟩, nRH, nUH, PySem.W.mg_of X G aCH⟩
  have YF : Pty K cH := ⟨⟨pgH, hdH, pv_H, saH⟩, haH, hn, htk, hmH⟩
  have MF : Mk K cH fh0 := ⟨mkH, ah0, jh0, kcH⟩
  have TAnd : Lty K cH .BitAnd fh4 := ⟨sfH, ah4, jh4, _, anH, .inl rfl⟩
  have TA : Arith K cP .Add fmd := ⟨sf, amd, jmd, ⟨_, ra, .inr ⟨_, rfl⟩⟩, ⟨_, ia⟩, ⟨_, ira⟩, rfl⟩
  have TX_ : Xcl K mg "InvalidPlace" cX "value" := ⟨⟨⟨nmX, qqX, NNX, bsX, bmX, snX, subX, abX, colX, ddX, k0X, k1X, k2X, k3X, k5X, lXx, rX⟩, saXe, exXe, tyXe, kXe⟩, noXe, PySem.W.mg_of X G aCX, ⟨gaXe, ggXe, exXe, hdXe⟩⟩
  have teX : PySem.W.exmOne K (.ref cX) (.ref cX) = some true := PySem.W.exm_ref exXe hdXe tyXe suXe
  have TI_ : Xcl K mg "InvalidInteger" cI "value" := ⟨⟨⟨nmI, qqI, NNI, bsI, bmI, snI, subI, abI, colI, ddI, k0I, k1I, k2I, k3I, k5I, lIx, rI⟩, saIe, exIe, tyIe, kIe⟩, noIe, PySem.W.mg_of X G aCI, ⟨gaIe, ggIe, exIe, hdIe⟩⟩
  have teI : PySem.W.exmOne K (.ref cI) (.ref cI) = some true := PySem.W.exm_ref exIe hdIe tyIe suIe
  have TS_ : Xcl K mg "InvalidSetting" cS "value" := ⟨⟨⟨nmS, qqS, NNS, bsS, bmS, snS, subS, abS, colS, ddS, k0S, k1S, k2S, k3S, k5S, lSx, rS⟩, saSe, exSe, tySe, kSe⟩, noSe, PySem.W.mg_of X G aCS, ⟨gaSe, ggSe, exSe, hdSe⟩⟩
  have teS : PySem.W.exmOne K (.ref cS) (.ref cS) = some true := PySem.W.exm_ref exSe hdSe tySe suSe
  have TR_ : Xcl K mg "InvalidFact" cR "value" := ⟨⟨⟨nmR, qqR, NNR, bsR, bmR, snR, subR, abR, colR, ddR, k0R, k1R, k2R, k3R, k5R, lRx, rR⟩, saRe, exRe, tyRe, kRe⟩, noRe, PySem.W.mg_of X G aCR, ⟨gaRe, ggRe, exRe, hdRe⟩⟩
  have teR : PySem.W.exmOne K (.ref cR) (.ref cR) = some true := PySem.W.exm_ref exRe hdRe tyRe suRe
  have TF_ : Xcl K mg "InvalidFacts" cF "value" := ⟨⟨⟨nmF, qqF, NNF, bsF, bmF, snF, subF, abF, colF, ddF, k0F, k1F, k2F, k3F, k5F, lFx, rF⟩, saFe, exFe, tyFe, kFe⟩, noFe, PySem.W.mg_of X G aCF, ⟨gaFe, ggFe, exFe, hdFe⟩⟩
  have teF : PySem.W.exmOne K (.ref cF) (.ref cF) = some true := PySem.W.exm_ref exFe hdFe tyFe suFe
  have pB : PropOf K cP "base" pb fmb := ⟨amb, amb1, amb2, rb, amb3⟩
  have pS : PropOf K cP "shift" ph fmh := ⟨amh, amh1, amh2, rh, amh3⟩
  subst etn0 etn1 etn2 etn3 ets0 ets1 ets2 ets3 ets4 ets5 etp0 etp1
  have Ttn : Tab K w dtn numS := tab_of (l := [("0", 0, ptn0, qtn0), ("1", 1, ptn1, qtn1), ("2", 2, ptn2, qtn2), ("3", 3, ptn3, qtn3)]) ttn rfl wtn fun z => rfl
  have Tts : Tab K w dts shS := tab_of (l := [("-3", (-3), pts0, qts0), ("-2", (-2), pts1, qts1), ("-1", (-1), pts2, qts2), ("+1", 1, pts3, qts3), ("+2", 2, pts4, qts4), ("+3", 3, pts5, qts5)]) tts rfl wts fun z => rfl
  have Ttp : Tab K w dtp plS := tab_of (l := [("at_most", 2, ptp0, qtp0), ("page", 1, ptp1, qtp1)]) ttp rfl wtp fun z => rfl
  refine ⟨PySem.W.fnOf "law" "law" (defArgs sLaw) (defBody sLaw) (defScope sLaw) .none kVla dcla pmla anla cdla ctla, fun s v => .of_eq rfl, fun base _ _ => ?_⟩
  have gm := PySem.W.mg_of X G gM
  have Gwh : FnOk l.prog w K mg base CX0 1 _ _ ["value"] (spWhole K) := ok_whole Fwh B D
  have Gii : FnOk l.prog w K mg base CX0 2 _ _ ["value", "low", "high"] (spIsInt K) := ok_isInt Fii Gwh mwh kwh bwh
  have Gna : FnOk l.prog w K mg base CX0 1 _ _ ["value"] (spIsName K) := ok_isName Fna B D (PySem.W.mg_of X G gL) (PySem.W.mg_of X G gA)
  have Gle : FnOk l.prog w K mg base CX0 1 _ _ ["base"] spLeast := ok_least Fle gm
  have GIP : FnOk l.prog w K mg base CX0 3 fI _ ["self", "base", "shift"] (spInit cP) := ok_init FI Z Gna mna kna bna Gii mii kii bii Gle mle kle ble gm
  have T : Tk l.prog w K mg base fta _ := ⟨ok_take Fta B, mta, kta, bta⟩
  have Gpt : FnOk l.prog w K mg base CX0 2 _ _ ["text"] spParts := ok_parts Fpt Gna mna kna bna (PySem.W.mg_of X G gtn) (PySem.W.mg_of X G gts) Ttn Tts
  have GXX : FnOk l.prog w K mg base CX0 1 fmx _ ["self", "value"] (spX1 K cX "value") := ok_xinit Fmx TX_ (PySem.W.mg_of X G aCM) ⟨rdM, gaM⟩ fcM
  have XRX : Xr l.prog w K mg base "InvalidPlace" cX fmx _ := ⟨TX_, GXX, amx, tfX, bmx⟩
  have GXI : FnOk l.prog w K mg base CX0 1 fmi _ ["self", "value"] (spX1 K cI "value") := ok_xinitI Fmi TI_ (PySem.W.mg_of X G aCM) ⟨rdM, gaM⟩ fcM
  have XRI : Xr l.prog w K mg base "InvalidInteger" cI fmi _ := ⟨TI_, GXI, ami, tfI, bmi⟩
  have GXS : FnOk l.prog w K mg base CX0 1 fmt _ ["self", "value"] (spX1 K cS "value") := ok_xinitS Fmt TS_ (PySem.W.mg_of X G aCM) ⟨rdM, gaM⟩ fcM
  have XRS : Xr l.prog w K mg base "InvalidSetting" cS fmt _ := ⟨TS_, GXS, amt, tfS, bmt⟩
  have GXR : FnOk l.prog w K mg base CX0 1 fmr _ ["self", "value"] (spX1 K cR "value") := ok_xinitR Fmr TR_ (PySem.W.mg_of X G aCM) ⟨rdM, gaM⟩ fcM
  have XRR : Xr l.prog w K mg base "InvalidFact" cR fmr _ := ⟨TR_, GXR, amr, tfR, bmr⟩
  have GXF : FnOk l.prog w K mg base CX0 1 fmf _ ["self", "value"] (spX1 K cF "value") := ok_xinitFs Fmf TF_ (PySem.W.mg_of X G aCM) ⟨rdM, gaM⟩ fcM
  have XRF : Xr l.prog w K mg base "InvalidFacts" cF fmf _ := ⟨TF_, GXF, amf, tfF, bmf⟩
  have GO : FnOk l.prog w K mg base (L2.CX l.prog w) 5 fmo _ ["cls", "value"] (spOf K cP cX) := ok_of Fmo Z Y N1 B D Gii mii kii bii Gpt mpt kpt bpt gm M GIP kb1 kb2 TX_ GXX amx tfX bmx
  have O : OfM l.prog w K mg base cP cX po fmo _ := ⟨GO, ⟨rdP, gaP⟩, ⟨amo, ⟨_, amo2⟩, fo⟩, bmo⟩
  have Gb : FnOk l.prog w K mg base CX0 1 fmb _ ["self"] (spBase cP) := ok_base Fmb Z
  have Gs : FnOk l.prog w K mg base CX0 1 fmh _ ["self"] (spShift cP) := ok_shift Fmh Z
  have GS : FnOk l.prog w K mg base CX0 1 fms _ ["self"] (spStr cP) := ok_str Fms Z D
  have GAd : FnOk l.prog w K mg base CX0 5 fmd _ ["self", "other"] (spAdd cP) := ok_add Fmd Z Gii mii kii bii Gle mle kle ble gm M GIP kb2
  have Gfr : FnOk l.prog w K mg base CX0 2 _ _ ["value", "low"] (spIsFrom K) := ok_isFrom Ffr Gwh mwh kwh bwh
  have Gar : FnOk l.prog w K mg base CX0 3 _ _ ["value"] (spAre K) := ok_are Far B D m_dict (PySem.W.mg_of X G gU) Gna mna kna bna Gfr mfr kfr bfr
  have GIS : FnOk l.prog w K mg base (L2.CX l.prog w) 4 fg0 _ ["self", "sizes", "page"] (spInitS K cG cS cI) := ok_initS FS TT m_dict Gar mar kar bar Gfr mfr kfr bfr TS_ GXS amt tfS bmt TI_ GXI ami tfI bmi
  have GG : FnOk l.prog w K mg base (L2.CX l.prog w) 6 fg3 _ ["self", "at"] (spGetS K cG cP cX) := ok_getS Fg3 Z TT O TX_ GXX amx tfX bmx pB Gb bmb pS Gs bmh
  have GPg : FnOk l.prog w K mg base CX0 1 fg2 _ ["self"] (spPageS cG) := ok_pageS Fg2 TT
  have GC : FnOk l.prog w K mg base CX0 1 fg5 _ ["self", "x"] (spContS K cG) := ok_contS Fg5 TT D
  have Gip : FnOk l.prog w K mg base CX0 6 _ _ ["value"] (spIsPl K cP) := ok_isPl Fip Z O (PySem.W.mg_of X G aCX) teX
  have Gif : FnOk l.prog w K mg base CX0 7 _ _ ["value"] (spIsFact K cP) := ok_isFact Fif_ Gip mip kip bip (PySem.W.mg_of X G gtp) Ttp B D m_tuple
  have Gpl : FnOk l.prog w K mg base CX0 6 _ _ ["row"] (spPlaced K cP) := ok_placed Fpl Z O
  have Gpo : FnOk l.prog w K mg base CX0 1 _ _ ["rows"] (spPlacesOf K cP) := ok_placesOf Fpo_
  have Guo : FnOk l.prog w K mg base CX0 3 _ _ ["places"] (spUnkOf K cP) := ok_unkOf Fuo Z m_sorted pB Gb bmb
  have Ghs : FnOk l.prog w K mg base CX0 2 _ _ ["setting", "unknowns"] (spHasSizes K cG) := ok_hasSizes Fhs D GC bg5 ag5 jg5
  have Gke : FnOk l.prog w K mg base CX0 8 _ _ ["setting", "row"] (spKeeps K cG cP) := ok_keeps Fke TT GG bg3 ag3 fog jg3 pP GPg bg2
  have GIF : FnR l.prog w K mg base (L2.CX l.prog w) 8 fh0 (spMakeF K cP cH cR cF) := ok_initF Fh0 TF XRR XRF B ⟨Gif, mif_, kif_, bif_⟩ ⟨Gpl, mpl, kpl, bpl⟩ ⟨Gpo, mpo_, kpo_, bpo_⟩ ⟨Guo, muo, kuo, buo⟩ (PySem.W.mg_of X G gU) (StX.bind_star1 (B := fun l => bindArgs _ ⟨l, []⟩) (fun a => rfl) (fun a r rs => rfl))
  have GHo : FnOk l.prog w K mg base (L2.CX l.prog w) 9 fh3 _ ["self", "setting"] (spHolds K cH cG cP cS) := ok_holds Fh3 TF TT YS XRS D ⟨Ghs, mhs, khs, bhs⟩ ⟨Gke, mke, kke, bke⟩
  have GLn : FnOk l.prog w K mg base CX0 1 fh5 _ ["self"] (spLenF cH cP) := ok_lenF Fh5 TF B
  have GAn : FnOk l.prog w K mg base (L2.CX l.prog w) 10 fh4 _ ["self", "other"] (spAnd K cH cP cF) := ok_and Fh4 TF YF XRF B D MF GIF ⟨Gpo, mpo_, kpo_, bpo_⟩ ⟨Guo, muo, kuo, buo⟩ (PySem.W.mg_of X G gU)
  have GPr : FnOk l.prog w K mg base CX0 1 fmp _ ["self"] (spReprP cP) := ok_reprP Fmp Z
  have GFr : FnS l.prog w K mg base CX0 4 fh7 _ ["self"] (spReprF cH cP) := ok_reprF Fh7 TF m_tuple GPr bmp amp jmp
  have GSr : FnS l.prog w K mg base CX0 2 fg8 _ ["self"] (spReprS cG) := ok_reprS Fg8 TT
  have SH : Shows l.prog w K mg base cP cH cG fmp fh7 fg8 _ _ _ := ⟨GPr, bmp, amp, jmp, GFr, bh7, ah7, jh7, GSr, bg8, ag8, jg8⟩
  have eFR : PySem.W.exmOne K (.ref cF) (.ref cR) = some false := PySem.W.exm_ref exRe hdRe tyRe suFR
  have eFS : PySem.W.exmOne K (.ref cF) (.ref cS) = some false := PySem.W.exm_ref exSe hdSe tySe suFS
  have Gca : FnOk l.prog w K mg base (L2.CX l.prog w) 10 _ _ ["_law_rows"] (spCalled K cP cH cR cF) := ok_called Fca B TF MF GIF
  have Gm0 : FnOk l.prog w K mg base CX0 11 _ _ ["_law_rows"] (spMade9 K cP cH) := ok_made9 Flm Gca mca kca bca TR_ TF_ teR teF eFR
  have Glm : FnOk l.prog w K mg base CX0 11 _ _ ["_law_rows"] (spMade9S K cP cH) := fnOk_sub Gm0 fun _ _ _ _ x => x.h
  have Ggo : FnOk l.prog w K mg base CX0 5 _ _ ["_law_box_here"] (spGood9 cP) := ok_good9 Fgo T M Z GIP hds2 bI2 kb1 kb2
  have God_ : FnOk l.prog w K mg base CX0 10 _ _ ["_law_box_here"] (spOdd9 cP cH) := ok_odd9 Fod_ T TF MF GIF
  have Glr : FnOk l.prog w K mg base CX0 4 _ _ ["_law_row"] (spLRoots cP) := ok_lroots Flr D GS bms ams jms
  have Gas_ : FnOk l.prog w K mg base CX0 11 _ _ ["_law_facts", "_law_way", "_law_thing"] (spAsked9 K cH cG cP) := ok_asked9 Fas_ TF GHo bh3 ⟨ah3, jh3, kh3⟩ GAn bh4 TAnd GLn bh5 ah5 jh5 (PySem.W.mg_none_of X G zlen) TS_ TF_ teS teF eFS
  have NO : Nof K cH cG := ⟨kit_ref hdG tCG sGNoneType, kit_ref hdG tCG sGint, kit_ref hdG tCG sGbool, kit_ref hdG tCG sGstr, kit_ref hdG tCG sGdict, kit_ref hdG tCG sGlist, kit_ref2 neHG hdG tCG suHG, kit_ref hdH tCH sHNoneType, kit_ref hdH tCH sHint, kit_ref hdH tCH sHtuple, kit_ref hdH tCH sHlist, kit_ref2 (Ne.symm neHG) hdH tCH suGH, ⟨ioNoneType, irNoneType, sHNoneType⟩, ⟨ioint, irint, sHint⟩, ⟨iotuple, irtuple, sHtuple⟩, ⟨iolist, irlist, sHlist⟩, ⟨neHG, mroG, d1G, d2G, o1, o2, suGH⟩⟩
  have NM : Npc K cP := ⟨kit_ref hdP tCP sPlist, kit_ref hdP tCP sPtuple⟩
  have Gth : FnG l.prog w K mg base CX0 12 _ _ ["_law_box_here", "_law_facts", "_law_names"] (spThings K cP cH) := ok_things Fth B m_repr m_dict T TT MS GIS hdsS bS2 TF YF YS MF GIF ⟨Gas_, mas_, kas_, bas_⟩ NO N1 SH
  exact ok_law Fla B m_repr m_sum m_set m_sorted m_tuple T ⟨ok_cell Fce B, mce, kce, bce⟩ ⟨ok_box Fbo B, mbo, kbo, bbo⟩ ⟨Ggo, mgo, kgo, bgo⟩ ⟨God_, mod_, kod_, bod_⟩ ⟨Glr, mlr, klr, blr⟩ ⟨Glm, mlm, klm, blm⟩
    Gth mth kth bth TF YF MF GIF GAn bh4 TAnd GLn bh5 ah5 jh5 N1 NM (kit_own xtH (by decide +kernel)) SH
theorem walk {l : PySem.W.OpenLaw} {q : Program} {loose : List Str} {XP : (Str → Option Value) → Heap → Prop} {YP : World → Heap → Prop} {d : DefRec} {K : Params → PySem.W.Frag} (hn : l.most = some 63) (hdf : d.params.defaults = [])
    (hY : ∀ (w : World) (h : Heap), YP w h → (K w.params).In h)
    (F : ∀ (w : World) (mg : Str → Option Value) (fa : Addr) (h : Heap), (K w.params).In h → h.Ns mainGlobals mg → mg d.name = some (.ref fa) →
      ∃ fd : FuncData, (∀ (s : Shared) (u : Value), BindsTo s fd ⟨[u], []⟩ [("_law_script", u)]) ∧ ∀ base : Heap, (K w.params).In base → base.Ns mainGlobals mg → FnG l.prog w (K w.params) mg base CX0 13 fa fd ["_law_script"] (spLaw (K w.params))) :
    PySem.W.WalkO q loose XP YP l.row.toRowW d [] (fun f vs => PySem.call f vs) :=
  walk_G (n := 63) (k := 13) (x := "_law_script") (CX := fun _ => CX0) (sp := fun w => spLaw (K w.params)) hn (by decide) hdf ⟨rfl, by decide, by decide⟩ hY F (fun _ _ a ns hl _ _ hS => ⟨a, ns, rfl, hS, hl, fun _ => rfl⟩) fun _ _ _ _ _ z => z
end Mz
set_option Elab.async false
set_option linter.all false
set_option maxRecDepth 100000
open PySem PySem.W PyProof.Rows in
set_option maxRecDepth 100000 in
set_option maxHeartbeats 0 in
theorem PySem.Challenge.cw_mapsizes_k09_facts_refused_holds : PySem.Challenge.rw_mapsizes_k09_facts_refused.Holds := by
  w_on; o_law; k_head; (case hw => w_witness2)
  k_fill
  refine Mz.walk (l := PySem.Challenge.rw_mapsizes_k09_facts_refused) rfl rfl (fun w h Y => PySem.W.kIn_of Y) ?F
  case F =>
    intro w mg fa h KX G hmg
    refine' Mz.all_mk (w := w) KX G hmg ?awh ?lwh ?cwh ?kwh ?aii ?lii ?cii ?kii ?afr ?lfr ?cfr ?kfr ?ana ?lna ?cna ?kna ?aip ?lip ?cip ?kip ?auo ?luo ?cuo ?kuo ?ale ?lle ?cle ?kle ?apt ?lpt ?cpt ?kpt ?ahs ?lhs ?chs ?khs ?aar ?lar ?car ?kar ?aif_ ?lif_ ?cif_ ?kif_ ?apl ?lpl ?cpl ?kpl ?apo_ ?lpo_ ?cpo_ ?kpo_ ?ake ?lke ?cke ?kke ?ace ?lce ?cce ?kce ?abo ?lbo ?cbo ?kbo ?ata ?lta ?cta ?kta ?ago ?lgo ?cgo ?kgo ?aod_ ?lod_ ?cod_ ?kod_ ?alr ?llr ?clr ?klr ?aca ?lca ?cca ?kca ?alm ?llm ?clm ?klm ?aas_ ?las_ ?cas_ ?kas_ ?ath ?lth ?cth ?kth ?ala ?lla ?cla ?kla ?aCP ?aCG ?aCH ?aCX ?aCI ?aCS ?aCR ?aCF ?aCM ?amo ?amo2 ?lmo ?cmo ?kmo ?amb ?amb1 ?amb2 ?amb3 ?lmb ?cmb ?kmb ?amh ?amh1 ?amh2 ?amh3 ?lmh ?cmh ?kmh ?ams ?lms ?cms ?kms ?amp ?lmp ?cmp ?kmp ?amd ?lmd ?cmd ?kmd ?amx ?lmx ?cmx ?kmx ?ami ?lmi ?cmi ?kmi ?amt ?lmt ?cmt ?kmt ?amr ?lmr ?cmr ?kmr ?amf ?lmf ?cmf ?kmf ?ag0 ?lg0 ?cg0 ?kg0 ?ag2 ?ag21 ?ag22 ?ag23 ?lg2 ?cg2 ?kg2 ?ag3 ?lg3 ?cg3 ?kg3 ?ag5 ?lg5 ?cg5 ?kg5 ?ag8 ?lg8 ?cg8 ?kg8 ?ah0 ?lh0 ?ch0 ?kh0 ?ah3 ?lh3 ?ch3 ?kh3 ?ah4 ?lh4 ?ch4 ?kh4 ?ah5 ?lh5 ?ch5 ?kh5 ?ah7 ?lh7 ?ch7 ?kh7 ?jms ?jmp ?jmd ?jg0 ?jg3 ?jg5 ?jg8 ?jh0 ?jh3 ?jh4 ?jh5 ?jh7 ?fo ?fog ?tfX ?tfI ?tfS ?tfR ?tfF ?eG ?iI ?jI ?lI ?cI_ ?kI ?lT ?sD ?hn ?htk ?nB ?nS ?rdP ?gaP ?xiP ?xsP ?sf ?ra ?ia ?ira ?pgP ?hdP ?pv_P ?saP ?mkP ?kcP ?haP ?hmP ?tCP ?pgG ?hdG ?pv_G ?saG ?mkG ?kcG ?haG ?hmG ?tCG ?pgH ?hdH ?pv_H ?saH ?mkH ?kcH ?haH ?hmH ?tCH ?nZG ?nPG ?sG ?nRH ?nUH ?sfH ?anH ?sGNoneType ?sGint ?sGbool ?sGstr ?sGdict ?sGlist ?sHNoneType ?sHint ?sHtuple ?sHlist ?sPlist ?sPtuple ?suHG ?suGH ?suFR ?suFS ?xtH ?d1G ?d2G ?o1 ?o2 ?mroG ?neHG ?ioNoneType ?irNoneType ?ioint ?irint ?iotuple ?irtuple ?iolist ?irlist ?lXx ?rX ?saXe ?exXe ?tyXe ?kXe ?gaXe ?ggXe ?hdXe ?suXe ?noXe ?lIx ?rI ?saIe ?exIe ?tyIe ?kIe ?gaIe ?ggIe ?hdIe ?suIe ?noIe ?lSx ?rS ?saSe ?exSe ?tySe ?kSe ?gaSe ?ggSe ?hdSe ?suSe ?noSe ?lRx ?rR ?saRe ?exRe ?tyRe ?kRe ?gaRe ?ggRe ?hdRe ?suRe ?noRe ?lFx ?rF ?saFe ?exFe ?tyFe ?kFe ?gaFe ?ggFe ?hdFe ?suFe ?noFe ?rdM ?gaM ?fcM ?gL ?gA ?gM ?gU ?gtn ?ttn ?etn0 ?etn1 ?etn2 ?etn3 ?wtn ?gts ?tts ?ets0 ?ets1 ?ets2 ?ets3 ?ets4 ?ets5 ?wts ?gtp ?ttp ?etp0 ?etp1 ?wtp ?zlen ?zmax ?zmin ?zint ?zrange ?zisinstance ?zbool ?zstr ?zall ?zrepr ?zdict ?ztuple ?zsorted ?zsum ?zset
    (case awh => k_is)
    (case lwh => k_is)
    (case cwh => k_is)
    (case kwh => k_is)
    (case aii => k_is)
    (case lii => k_is)
    (case cii => k_is)
    (case kii => k_is)
    (case afr => k_is)
    (case lfr => k_is)
    (case cfr => k_is)
    (case kfr => k_is)
    (case ana => k_is)
    (case lna => k_is)
    (case cna => k_is)
    (case kna => k_is)
    (case aip => k_is)
    (case lip => k_is)
    (case cip => k_is)
    (case kip => k_is)
    (case auo => k_is)
    (case luo => k_is)
    (case cuo => k_is)
    (case kuo => k_is)
    (case ale => k_is)
    (case lle => k_is)
    (case cle => k_is)
    (case kle => k_is)
    (case apt => k_is)
    (case lpt => k_is)
    (case cpt => k_is)
    (case kpt => k_is)
    (case ahs => k_is)
    (case lhs => k_is)
    (case chs => k_is)
    (case khs => k_is)
    (case aar => k_is)
    (case lar => k_is)
    (case car => k_is)
    (case kar => k_is)
    (case aif_ => k_is)
    (case lif_ => k_is)
    (case cif_ => k_is)
    (case kif_ => k_is)
    (case apl => k_is)
    (case lpl => k_is)
    (case cpl => k_is)
    (case kpl => k_is)
    (case apo_ => k_is)
    (case lpo_ => k_is)
    (case cpo_ => k_is)
    (case kpo_ => k_is)
    (case ake => k_is)
    (case lke => k_is)
    (case cke => k_is)
    (case kke => k_is)
    (case ace => k_is)
    (case lce => k_is)
    (case cce => k_is)
    (case kce => k_is)
    (case abo => k_is)
    (case lbo => k_is)
    (case cbo => k_is)
    (case kbo => k_is)
    (case ata => k_is)
    (case lta => k_is)
    (case cta => k_is)
    (case kta => k_is)
    (case ago => k_is)
    (case lgo => k_is)
    (case cgo => k_is)
    (case kgo => k_is)
    (case aod_ => k_is)
    (case lod_ => k_is)
    (case cod_ => k_is)
    (case kod_ => k_is)
    (case alr => k_is)
    (case llr => k_is)
    (case clr => k_is)
    (case klr => k_is)
    (case aca => k_is)
    (case lca => k_is)
    (case cca => k_is)
    (case kca => k_is)
    (case alm => k_is)
    (case llm => k_is)
    (case clm => k_is)
    (case klm => k_is)
    (case aas_ => k_is)
    (case las_ => k_is)
    (case cas_ => k_is)
    (case kas_ => k_is)
    (case ath => k_is)
    (case lth => k_is)
    (case cth => k_is)
    (case kth => k_is)
    (case ala => k_is)
    (case lla => k_is)
    (case cla => k_is)
    (case kla => k_is)
    (case aCP => k_is)
    (case aCG => k_is)
    (case aCH => k_is)
    (case aCX => k_is)
    (case aCI => k_is)
    (case aCS => k_is)
    (case aCR => k_is)
    (case aCF => k_is)
    (case aCM => k_is)
    (case amo => k_is)
    (case amo2 => k_is)
    (case lmo => k_is)
    (case cmo => k_is)
    (case kmo => k_is)
    (case amb => k_is)
    (case amb1 => k_is)
    (case amb2 => k_is)
    (case amb3 => k_is)
    (case lmb => k_is)
    (case cmb => k_is)
    (case kmb => k_is)
    (case amh => k_is)
    (case amh1 => k_is)
    (case amh2 => k_is)
    (case amh3 => k_is)
    (case lmh => k_is)
    (case cmh => k_is)
    (case kmh => k_is)
    (case ams => k_is)
    (case lms => k_is)
    (case cms => k_is)
    (case kms => k_is)
    (case amp => k_is)
    (case lmp => k_is)
    (case cmp => k_is)
    (case kmp => k_is)
    (case amd => k_is)
    (case lmd => k_is)
    (case cmd => k_is)
    (case kmd => k_is)
    (case amx => k_is)
    (case lmx => k_is)
    (case cmx => k_is)
    (case kmx => k_is)
    (case ami => k_is)
    (case lmi => k_is)
    (case cmi => k_is)
    (case kmi => k_is)
    (case amt => k_is)
    (case lmt => k_is)
    (case cmt => k_is)
    (case kmt => k_is)
    (case amr => k_is)
    (case lmr => k_is)
    (case cmr => k_is)
    (case kmr => k_is)
    (case amf => k_is)
    (case lmf => k_is)
    (case cmf => k_is)
    (case kmf => k_is)
    (case ag0 => k_is)
    (case lg0 => k_is)
    (case cg0 => k_is)
    (case kg0 => k_is)
    (case ag2 => k_is)
    (case ag21 => k_is)
    (case ag22 => k_is)
    (case ag23 => k_is)
    (case lg2 => k_is)
    (case cg2 => k_is)
    (case kg2 => k_is)
    (case ag3 => k_is)
    (case lg3 => k_is)
    (case cg3 => k_is)
    (case kg3 => k_is)
    (case ag5 => k_is)
    (case lg5 => k_is)
    (case cg5 => k_is)
    (case kg5 => k_is)
    (case ag8 => k_is)
    (case lg8 => k_is)
    (case cg8 => k_is)
    (case kg8 => k_is)
    (case ah0 => k_is)
    (case lh0 => k_is)
    (case ch0 => k_is)
    (case kh0 => k_is)
    (case ah3 => k_is)
    (case lh3 => k_is)
    (case ch3 => k_is)
    (case kh3 => k_is)
    (case ah4 => k_is)
    (case lh4 => k_is)
    (case ch4 => k_is)
    (case kh4 => k_is)
    (case ah5 => k_is)
    (case lh5 => k_is)
    (case ch5 => k_is)
    (case kh5 => k_is)
    (case ah7 => k_is)
    (case lh7 => k_is)
    (case ch7 => k_is)
    (case kh7 => k_is)
    (case jms => k_is)
    (case jmp => k_is)
    (case jmd => k_is)
    (case jg0 => k_is)
    (case jg3 => k_is)
    (case jg5 => k_is)
    (case jg8 => k_is)
    (case jh0 => k_is)
    (case jh3 => k_is)
    (case jh4 => k_is)
    (case jh5 => k_is)
    (case jh7 => k_is)
    (case fo => k_is)
    (case fog => k_is)
    (case tfX => k_is)
    (case tfI => k_is)
    (case tfS => k_is)
    (case tfR => k_is)
    (case tfF => k_is)
    (case eG => rfl)
    (case iI => k_is)
    (case jI => k_is)
    (case lI => k_is)
    (case cI_ => k_is)
    (case kI => k_is)
    (case lT => k_is)
    (case sD => k_is)
    (case hn => k_is)
    (case htk => k_is)
    (case nB => k_is)
    (case nS => k_is)
    (case rdP => k_is)
    (case gaP => k_is)
    (case xiP => k_is)
    (case xsP => k_is)
    (case sf => k_is)
    (case ra => k_is)
    (case ia => k_is)
    (case ira => k_is)
    (case pgP => k_is)
    (case hdP => k_is)
    (case pv_P => k_is)
    (case saP => k_is)
    (case mkP => k_is)
    (case kcP => k_is)
    (case haP => k_is)
    (case hmP => k_is)
    (case tCP => k_is)
    (case pgG => k_is)
    (case hdG => k_is)
    (case pv_G => k_is)
    (case saG => k_is)
    (case mkG => k_is)
    (case kcG => k_is)
    (case haG => k_is)
    (case hmG => k_is)
    (case tCG => k_is)
    (case pgH => k_is)
    (case hdH => k_is)
    (case pv_H => k_is)
    (case saH => k_is)
    (case mkH => k_is)
    (case kcH => k_is)
    (case haH => k_is)
    (case hmH => k_is)
    (case tCH => k_is)
    (case nZG => k_is)
    (case nPG => k_is)
    (case sG => k_is)
    (case nRH => k_is)
    (case nUH => k_is)
    (case sfH => k_is)
    (case anH => k_is)
    (case sGNoneType => k_is)
    (case sGint => k_is)
    (case sGbool => k_is)
    (case sGstr => k_is)
    (case sGdict => k_is)
    (case sGlist => k_is)
    (case sHNoneType => first | rfl | k_is)
    (case sHint => first | rfl | k_is)
    (case sHtuple => first | rfl | k_is)
    (case sHlist => first | rfl | k_is)
    (case sPlist => k_is)
    (case sPtuple => k_is)
    (case suHG => k_is)
    (case suGH => k_is)
    (case suFR => k_is)
    (case suFS => k_is)
    (case xtH => k_is)
    (case d1G => k_is)
    (case d2G => k_is)
    (case o1 => k_is)
    (case o2 => k_is)
    (case mroG => first | rfl | decide +kernel | k_is)
    (case neHG => decide)
    (case ioNoneType => exact ⟨_, by k_is⟩)
    (case irNoneType => exact ⟨_, by k_is⟩)
    (case ioint => exact ⟨_, by k_is⟩)
    (case irint => exact ⟨_, by k_is⟩)
    (case iotuple => exact ⟨_, by k_is⟩)
    (case irtuple => exact ⟨_, by k_is⟩)
    (case iolist => exact ⟨_, by k_is⟩)
    (case irlist => exact ⟨_, by k_is⟩)
    (case lXx => k_is)
    (case rX => rfl)
    (case saXe => k_is)
    (case exXe => k_is)
    (case tyXe => k_is)
    (case kXe => k_is)
    (case gaXe => k_is)
    (case ggXe => k_is)
    (case hdXe => k_is)
    (case suXe => k_is)
    (case noXe => k_is)
    (case lIx => k_is)
    (case rI => rfl)
    (case saIe => k_is)
    (case exIe => k_is)
    (case tyIe => k_is)
    (case kIe => k_is)
    (case gaIe => k_is)
    (case ggIe => k_is)
    (case hdIe => k_is)
    (case suIe => k_is)
    (case noIe => k_is)
    (case lSx => k_is)
    (case rS => rfl)
    (case saSe => k_is)
    (case exSe => k_is)
    (case tySe => k_is)
    (case kSe => k_is)
    (case gaSe => k_is)
    (case ggSe => k_is)
    (case hdSe => k_is)
    (case suSe => k_is)
    (case noSe => k_is)
    (case lRx => k_is)
    (case rR => rfl)
    (case saRe => k_is)
    (case exRe => k_is)
    (case tyRe => k_is)
    (case kRe => k_is)
    (case gaRe => k_is)
    (case ggRe => k_is)
    (case hdRe => k_is)
    (case suRe => k_is)
    (case noRe => k_is)
    (case lFx => k_is)
    (case rF => rfl)
    (case saFe => k_is)
    (case exFe => k_is)
    (case tyFe => k_is)
    (case kFe => k_is)
    (case gaFe => k_is)
    (case ggFe => k_is)
    (case hdFe => k_is)
    (case suFe => k_is)
    (case noFe => k_is)
    (case rdM => k_is)
    (case gaM => k_is)
    (case fcM => k_is)
    (case gL => k_is)
    (case gA => k_is)
    (case gM => k_is)
    (case gU => k_is)
    (case gtn => k_is)
    (case ttn => k_is)
    (case etn0 => rfl)
    (case etn1 => rfl)
    (case etn2 => rfl)
    (case etn3 => rfl)
    (case wtn => first | rfl | k_is)
    (case gts => k_is)
    (case tts => k_is)
    (case ets0 => rfl)
    (case ets1 => rfl)
    (case ets2 => rfl)
    (case ets3 => rfl)
    (case ets4 => rfl)
    (case ets5 => rfl)
    (case wts => first | rfl | k_is)
    (case gtp => k_is)
    (case ttp => k_is)
    (case etp0 => rfl)
    (case etp1 => rfl)
    (case wtp => first | rfl | k_is)
    (case zlen => k_is)
    (case zmax => k_is)
    (case zmin => k_is)
    (case zint => k_is)
    (case zrange => k_is)
    (case zisinstance => k_is)
    (case zbool => k_is)
    (case zstr => k_is)
    (case zall => k_is)
    (case zrepr => k_is)
    (case zdict => k_is)
    (case ztuple => k_is)
    (case zsorted => k_is)
    (case zsum => k_is)
    (case zset => k_is)
