import PyProof.Rows.All
import Wide.All
import OpenK.AllK
import Wide.FinOn
import PyProof.ReprRoads
import HandS.ForMost
import HandS.EndBits
import HandS.ForExc
import HandS.TryMany
import HandS.ExcInit
import HandS.ExcField
import HandS.ClsMeth
import HandS.IsInst
import KE.KCallOwn
import KE.KFmtOwn
import KE.KOpsOwn
import HandS.FStr
import KE.KxField
import HandS.MakeKwOnly
import HandS.ExcOwn
import PyProof.StrLawsRepr
import PyProof.TwoTypes
import PyProof.FactsAll.bool
import PyProof.FactsAll.int
import OpenK.KMeth
import KE.KEqNest
import HandS.DictComp
import HandS.Set
import HandS.SetBool
import HandS.Walk
import HandS.Star
import OpenK.KOps
import HandS.SetFor
import PyProof.Rows.DictTallyStr
import HandS.SortInts
import HandS.Wide
import HandS.Property
import HandS.TupAny
import HandS.Zip
import HandS.AnyAll
import HandS.StrMore
import PySem.Challenge.RW_mapsizes_k11_settings_of_one_kind
import HandS.More
import HandS.Dict
import HandS.Style
import HandS.WordsDict
import HandS.RaiseMore
import PyProof.IsRules
import HandS.ExcIs
set_option Elab.async false
set_option linter.all false
set_option maxRecDepth 100000
set_option maxHeartbeats 4000000
/-! calls under which no container is being shown: the promises of defs that show lists -/
namespace Mz
open PySem PySem.Spec PyProof.Rows L2
section
variable {P : Program} {w : World} {K : PySem.W.Frag} {mg : Str → Option Value} {base : Heap} {CX : CXT} {k : Nat} {f : Addr} {fd : FuncData} {ps : List Str} {sp : Sp}
theorem quiet_deeper {A : Around} {env : Env} (h : A.guards = some []) : (A.deeper env).guards = some [] := h
theorem quiet_make {A : Around} {c : Addr} {us : List Value} {kw : List (Str × Value)} (h : A.guards = some []) : (A.under (.builtin "type.__call__" ⟨.ref c :: us, kw⟩)).guards = some [] := by
  have e : (Code.builtin "type.__call__" ⟨.ref c :: us, kw⟩).guards = [] := by
    have e2 : (Code.builtin "type.__call__" ⟨.ref c :: us, kw⟩).isGuard = false := by
      show guardIds.contains "type.__call__" = false
      decide +kernel
    unfold Code.guards
    rw [e2]
    rfl
  show pushGuards (Code.builtin "type.__call__" ⟨.ref c :: us, kw⟩).guards A.guards = some []
  rw [e, h]
  rfl
/-- a def's promise where nothing is being shown around it -/
structure FnG (P : Program) (w : World) (K : PySem.W.Frag) (mg : Str → Option Value) (base : Heap) (CX : CXT) (k : Nat) (f : Addr) (fd : FuncData) (ps : List Str) (sp : Sp) : Prop where
  lenG : ∀ vs H Q E, sp vs H Q E → vs.length = ps.length
  runG : ∀ (A : Around) (outer : List Env) (s : Shared) (H : Hp) (args : Args) (us : List Value) (vs : List V) (Q : VK) (E : XK),
    A.guards = some [] → Room k A → Env0 P w K mg base A outer s H → BindsTo s fd args (ps.zip us) → Vals vs us → sp vs H Q E →
    codeAny (model P w) A (.call (.ref f) args) (CR CX outer P w H s Q E) s
theorem FnG.of (F : FnOk P w K mg base CX k f fd ps sp) : FnG P w K mg base CX k f fd ps sp :=
  ⟨F.len, fun A outer s H args us vs Q E _ => F.run A outer s H args us vs Q E⟩
theorem FnG.mono {j : Nat} (F : FnG P w K mg base CX j f fd ps sp) (h : j ≤ k) : FnG P w K mg base CX k f fd ps sp :=
  ⟨F.lenG, fun A outer s H args us vs Q E g r => F.runG A outer s H args us vs Q E g (r.mono h)⟩
/-- the def by its body, told that nothing is being shown -/
theorem fnG_of {name qual : Str} {params : Arguments} {body : List Stmt} {scope : Scope} {dV kV doc pm cdv ct oc : Value} {an od : Option Addr} {osl : Array (Option Value)} {N : List Str}
    (lk : K.lookup f = some ⟨oc, od, .func (PySem.W.fnOf name qual params body scope dV kV doc pm an cdv ct), osl⟩) (hcd : PySem.W.codeIn K cdv qual = true) (S : FnScope N ps scope)
    (len : ∀ vs H Q E, sp vs H Q E → vs.length = ps.length)
    (hb : ∀ (A : Around) (outer : List Env) (s : Shared) (H : Hp) (vs : List V) (Q : VK) (E : XK), A.guards = some [] → Room k (A.deeper (envOfC qual scope s.heap.objs.size f cdv)) → sp vs H Q E →
      ∃ t, PSs (cxOf CX P w K mg base N qual scope f cdv A outer s H E) body t ∧ t { nx := fun _ H' => Q .non H', rt := Q } (start N vs) H) :
    FnG P w K mg base CX (k + 1) f (PySem.W.fnOf name qual params body scope dV kV doc pm an cdv ct) ps sp := by
  refine ⟨len, fun A outer s H args us vs Q E hg hr e0 hbi r hsp => ?_⟩
  -- the promise of the same def at this very place alone: whoever runs it stands at A
  have spA : ∀ (A2 : Around), A2 = A → A2.guards = some [] := fun A2 e => by
    rw [e]
    exact hg
  have lenv := len _ _ _ _ hsp
  have KX : K.In s.heap := e0.mod.kin.keeps fun b o e => (e0.bs b o e).1
  have lim : s.heap.NoLimit := e0.mod.nolimit.keeps fun b o e => (e0.bs b o e).1
  have kinds : ∀ y ∈ ps.zip us, scope.names.lookup y.1 = some .local ∨ (scope.names.lookup y.1 = some .cell ∧ ((cellsFrom (s.heap.objs.size + 1) scope.names []).lookup y.1).isSome = true) := by
    intro y hy
    obtain ⟨n, v⟩ := y
    rcases S.par n (List.of_mem_zip hy).1 with q | q
    · exact .inl q
    · exact .inr ⟨q, PySem.W.cellsFrom_some _ _ _ (.inl q)⟩
  refine codeAny_call_function hr.depth (KX _ _ lk) rfl S.co S.gen rfl (PySem.W.codeRec_of KX hcd) (hbi _ _ _ _ ?_)
  refine wpAny_newFunctionEnv_cells S.kind kinds fun env he s1 x => ?_
  subst he
  refine ⟨lim.keeps x.toInCall.keep, codeAny_func ?_⟩
  obtain ⟨t, ht, hq⟩ := hb A outer s H vs Q E hg (hr.deeper _) hsp
  have I : Inv (cxOf CX P w K mg base N qual scope f cdv A outer s H E) [] (start N vs) H s1 := inv_start S hr.hd e0 lenv r x
  refine wpAny_mono (ht.run [] s1 (start N vs) H _ I hq) (fun fl s' hs => ?_) fun e s' hs => hs
  cases fl with
  | ret u =>
    obtain ⟨v, σ', H', J, rv, q⟩ := hs
    exact ⟨v, H', J.os, J.bare, J.base, J.hok, rv, q⟩
  | next =>
    obtain ⟨σ', H', J, q⟩ := hs
    exact ⟨V.non, H', J.os, J.bare, J.base, J.hok, rfl, q⟩
  | brk =>
    obtain ⟨_, _, _, q⟩ := hs
    exact q.elim
  | cont =>
    obtain ⟨_, _, _, q⟩ := hs
    exact q.elim
end
section
variable {P : Program} {w : World} {K : PySem.W.Frag} {mg : Str → Option Value} {base : Heap}
theorem fun_okG {x qual : Str} {st : Stmt} {f : Addr} {fd : FuncData} {N ps : List Str} {k : Nat} {sp : Sp} (F : Fun K x qual st f fd) (S : FnScope N ps (defScope st)) (len : ∀ vs H Q E, sp vs H Q E → vs.length = ps.length)
    (hb : ∀ (cdv : Value) (A : Around) (outer : List Env) (s : Shared) (H : Hp) (vs : List V) (Q : VK) (E : XK), A.guards = some [] → Room k (A.deeper (envOfC qual (defScope st) s.heap.objs.size f cdv)) → sp vs H Q E →
      ∃ t, PSs (cxOf CX0 P w K mg base N qual (defScope st) f cdv A outer s H E).nox (defBody st) t ∧ t { nx := fun _ H' => Q .non H', rt := Q } (start N vs) H) : FnG P w K mg base CX0 (k + 1) f fd ps sp := by
  obtain ⟨oc, od, kV, doc, pm, an, cdv, ct, osl, rfl, lk, hcd⟩ := F.ex
  refine fnG_of lk hcd S len fun A outer s H vs Q E hg hr hsp => ?_
  obtain ⟨t, h, q⟩ := hb cdv A outer s H vs Q E hg hr hsp
  exact ⟨t, h.nox, q⟩
end
section
variable {X : Cx} {CX : CXT} {k : Nat} {f : Addr} {fd : FuncData} {ps : List Str} {sp : Sp} {dvs : List V} {ds : List Value} {E : XK} {x : Str} {p pos : Pos} {e : Expr} {es : List Expr} {t : TA}
/-- a call of such a def -/
theorem pe_callG (F : FnG X.prog X.w X.K X.mg X.base CX k f fd ps sp) (g0 : X.A.guards = some []) (hr : Room k X.A) (hg : Gl X x) (hm : X.mg x = some (.ref f)) (hk : PySem.W.keepIn X.K (.ref f) = true) (hb : Binds X.K fd ps ds) (hd : Vals dvs ds) (hx : Passes CX X E)
    (ha : PA X (e :: es) t) (hdb : (x == ("__debug__" : Str)) = false := by decide) (he : starEach (e :: es) X.env = (false, eval e X.env) :: starEach es X.env := by rfl) (hpl : (backTo pos (starEach es X.env)).any (·.1) = false := by rfl) :
    PE X (.Call (.Name x p) (e :: es) [] pos) (tCall sp dvs E t) := by
  refine ⟨fun pins s σ H Q I h => wpAny_Call_Name_kw (ld_glob I hg hm ?_ hdb)⟩
  refine PySem.W.callWith_K (h₀ := X.base) I.ok.mod.kin hk (thn (ha.run pos pins s σ H _ I h) fun us s1 hv => ?_) he hpl
  obtain ⟨vs, H1, I1, r, q⟩ := hv
  refine ⟨I1.kIn, ?_⟩
  have r2 : Vals (vs ++ dvs) (us ++ ds) := r.append hd
  have hl : (us ++ ds).length = ps.length := r2.length.symm.trans (F.lenG _ _ _ _ q)
  refine wpAny_call (codeAny_mono (F.runG X.A X.stack s1 H1 ⟨us, []⟩ (us ++ ds) (vs ++ dvs) Q E g0 hr I1.env0 (hb s1 us I1.kIn hl) r2 q) fun r s' hq => ?_)
  cases r with
  | error e => exact hx pins σ H1 s1 e s' I1 hq
  | ok fl =>
    cases fl with
    | ret u => exact I1.after hq
    | next => exact hq.elim
    | brk => exact hq.elim
    | cont => exact hq.elim
end
/-! ### repr of data -/
section
variable {X : Cx}
/-- repr(x), x a bool, None, an int of some size, a text, a list or a tuple of these -/
def rReprD (K : PySem.W.Frag) : List V → Hp → VK → Prop := fun xs H Q => ∃ x d, xs = [x] ∧ Dp K H x d ∧ PyData.showable d = true ∧ PyData.hasDict d = false ∧ PyData.depth d < 60 ∧ (PyData.shown d).length ≤ sizeLine ∧ Q (.str (PyData.shown d)) H
theorem call_reprD (g0 : X.A.guards = some []) (hu : X.A.units + 64 < cLine) : CallR X (.builtin "repr") (rReprD X.K) := by
  intro pins s σ H xs us Q I r h
  obtain ⟨x, d, rfl, hd, hs, hno, hdp, hz, q⟩ := h
  obtain ⟨u, rfl, rx⟩ := vals1 r
  have ends : ∀ h' t tk, (∀ b o, s.heap.get? b = some o → h'.get? b = some o) → EP X pins σ Q (.str (PyData.shown d) t) { s with heap := h', toks := tk } :=
    fun h' t tk hk => ⟨.str _, H, I.kept hk, ⟨_, rfl⟩, q⟩
  have keep : ∀ b o, s.heap.get? b = some o → s.heap.get? b = some o := fun _ _ z => z
  obtain ⟨as, rd⟩ := Dp.reads I d x u hd rx
  cases hd with
  | non =>
    cases rx
    exact PySem.P.repr_of_none (by simpa only [PyData.shown] using ends s.heap _ _ keep)
  | bl b =>
    cases rx
    exact PySem.P.repr_of_bool (by simpa only [PyData.shown] using ends s.heap _ _ keep)
  | int i =>
    obtain ⟨t, rfl⟩ := rx
    have hs' : i.natAbs.log2 < 1920 := by simpa [PyData.showable] using hs
    exact PySem.P.repr_of_int hs' (by simpa only [PyData.shown] using ends s.heap _ _ keep)
  | str z =>
    obtain ⟨t, rfl⟩ := rx
    exact PySem.P.repr_of_str (by simpa only [PyData.shown] using ends s.heap _ _ keep) (by simpa only [PyData.shown] using hz)
  | lst h1 h2 =>
    cases rx
    exact repr_of_reads' rd hs (fun z => by rw [hno] at z; cases z) g0 (by omega) keep (fun h' t tk hk => ends h' t tk hk) hz
  | tup h1 h2 =>
    cases rx
    exact repr_of_reads' rd hs (fun z => by rw [hno] at z; cases z) g0 (by omega) keep (fun h' t tk hk => ends h' t tk hk) hz
end
end Mz
set_option Elab.async false
set_option linter.all false
set_option maxRecDepth 100000
set_option maxHeartbeats 4000000
/-! the end of a row for a law whose promise wants that nothing is being shown -/
namespace Mz
open PySem PySem.Spec PyProof.Rows L2
theorem law_callG {P : Program} {w : World} {K : PySem.W.Frag} {mg mb : Str → Option Value} {CX : CXT} {k : Nat} {fa a : Addr} {fd : FuncData} {x : Str} {sp : Sp} {s1 : Shared} {vs : List Value} {ns : List Int}
    (KX : K.In s1.heap) (hns : s1.heap.Ns mainGlobals mg) (hb : s1.heap.Ns builtinsNs mb) (hbb : ∀ x : Str, x ≠ "__name__" → mb x = bootBuiltins x) (hlim : s1.heap.NoLimit) (hgen : s1.gens = #[])
    (ha : s1.heap.get? a = some { cls := .type "list", data := .seq vs.toArray }) (hi : IntsAre vs ns) (hl : ns.length ≤ sizeLine) (hr : Room k callerA)
    (F : ∀ base : Heap, K.In base → base.Ns mainGlobals mg → FnG P w K mg base CX k fa fd [x] sp) (hbind : ∀ (s : Shared) (u : Value), BindsTo s fd ⟨[u], []⟩ [(x, u)])
    (hsp : ∀ H : Hp, Only H → SqL K H a (ns.map V.int) → sp [.ref a] H (fun v _ => v = .bl true) fun _ _ _ => False)
    (hCX : ∀ H e s', CX [] H s1 (fun _ _ _ => False) e s' → False) :
    codeAny (model P w) callerA (.call (.ref fa) ⟨[.ref a], []⟩) (fun r s' => r = .ok (.ret (.bool true)) ∧ OldK s1.heap s'.heap ∧ s'.os = s1.os ∧ AllBare s'.gens) s1 := by
  have rv := vals_ints hi
  have lenV := hi.length
  have way : ∀ H : Hp, Only H → SqL K H a (ns.map V.int) → HOk P w H s1.heap → (∀ b u, H b = some u → b = a) → (∀ u, H a = some u → K.lookup a = none) →
      codeAny (model P w) callerA (.call (.ref fa) ⟨[.ref a], []⟩) (fun r s' => r = .ok (.ret (.bool true)) ∧ OldK s1.heap s'.heap ∧ s'.os = s1.os ∧ AllBare s'.gens) s1 := by
    intro H hO hS hok hA hK
    have untr : ∀ {b : Addr} {o : Obj} {es : Array DictEntry} {ep : Nat}, s1.heap.get? b = some o → o.data = .dict es ep → H b = none := by
      intro b o es ep e d
      rcases q : H b with _ | u
      · rfl
      · obtain rfl := hA b u q
        rw [ha] at e
        cases e
        exact nomatch (show Data.seq vs.toArray _ = Data.dict es ep from d)
    have nsK : ∀ {b : Addr} {m : Str → Option Value}, s1.heap.Ns b m → (hidT s1.heap H).Ns b m := by
      rintro b m ⟨o, es, ep, e, d, r⟩
      exact ⟨o, es, ep, hidT_get e (untr e d), d, r⟩
    have hKb : K.In (hidT s1.heap H) := by
      intro b o e
      refine hidT_get (KX b o e) ?_
      rcases q : H b with _ | u
      · rfl
      · obtain rfl := hA b u q
        have z := hK u q
        rw [z] at e
        cases e
    have hM : Mod K mg (hidT s1.heap H) := by
      obtain ⟨mc, h1, h2⟩ := hlim
      exact ⟨hKb, nsK hns, ⟨mb, nsK hb, hbb⟩, ⟨mc, nsK h1, h2⟩⟩
    have e0 : Env0 P w K mg (hidT s1.heap H) callerA [] s1 H :=
      ⟨rfl, hM, fun b o e => of_hidT e, Nat.le_of_eq (hidT_size _ _), trivial, fun b z => (nomatch (show b ∈ ([] : List Addr) from z)), hok, .of_eq hgen⟩
    have run := (F _ hKb (nsK hns)).runG callerA [] s1 H ⟨[.ref a], []⟩ [.ref a] [.ref a] _ _ rfl hr e0 (hbind s1 (.ref a)) (.cons rfl .nil) (hsp H hO hS)
    refine codeAny_mono run fun r s' h => ?_
    match r, h with
    | .error e, h => exact (hCX H e s' h).elim
    | .ok .next, h => exact h.elim
    | .ok .brk, h => exact h.elim
    | .ok .cont, h => exact h.elim
    | .ok (.ret u), h =>
      obtain ⟨v, H', os, bare, un, hok2, r2, q⟩ := h
      obtain rfl : v = .bl true := q
      obtain rfl : u = Value.bool true := r2
      refine ⟨rfl, OldK.of_keep fun b o e => ?_, os, bare⟩
      rcases q : H b with _ | u
      · exact un.keep b o e q (fun z => (nomatch (show b ∈ ([] : List Addr) from z))) (by simp)
      · rcases hO b with z | ⟨ob, xs, z⟩
        · rw [q] at z
          cases z
        · have z2 := un.frzs b ob _ z
          obtain ⟨e1, _⟩ := hok b _ z
          obtain ⟨e2, _⟩ := hok2 b _ z2
          rw [e] at e1
          cases e1
          exact e2
  rcases hk : K.lookup a with _ | o
  · have at_a : ∀ {b : Addr} {u : HO}, (if b = a then some (HO.frz { cls := .type "list", data := .seq vs.toArray } (.lst (ns.map V.int))) else none) = some u → b = a ∧ u = .frz { cls := .type "list", data := .seq vs.toArray } (.lst (ns.map V.int)) := by
      intro b u z
      by_cases hba : b = a
      · rw [if_pos hba] at z
        exact ⟨hba, (Option.some.inj z).symm⟩
      · rw [if_neg hba] at z
        cases z
    refine way (fun b => if b = a then some (.frz { cls := .type "list", data := .seq vs.toArray } (.lst (ns.map V.int))) else none) (fun b => ?_) (.inl (.inr ⟨{ cls := .type "list", data := .seq vs.toArray }, if_pos rfl⟩)) (fun b u z => ?_) (fun b u z => (at_a z).1) fun u _ => hk
    · by_cases hba : b = a
      · exact .inr ⟨_, _, if_pos hba⟩
      · exact .inl (if_neg hba)
    · obtain ⟨rfl, rfl⟩ := at_a z
      exact ⟨ha, by rw [List.length_map]; exact hl, vs, _, rv, ha⟩
  · have e := KX a o hk
    rw [ha] at e
    cases e
    refine way (fun _ => none) (fun _ => .inl rfl) (.inr ⟨_, vs.toArray, _, hk, rfl, rfl, rfl, by rw [List.size_toArray, lenV]; exact hl, by simpa using rv⟩) (fun b u z => ?_) (fun b u z => ?_) fun u z => ?_
    · exact nomatch (show (none : Option HO) = some u from z)
    · exact nomatch (show (none : Option HO) = some u from z)
    · exact nomatch (show (none : Option HO) = some u from z)
theorem walk_G {l : PySem.W.OpenLaw} {n k : Nat} {q : Program} {loose : List Str} {XP : (Str → Option Value) → Heap → Prop} {YP : World → Heap → Prop} {d : DefRec} {K : Params → PySem.W.Frag} {CX : World → CXT} {sp : World → Sp} {x : Str}
    (hn : l.most = some n) (hn2 : n ≤ sizeLine) (hdf : d.params.defaults = []) (hr : Room k callerA)
    (hY : ∀ (w : World) (h : Heap), YP w h → (K w.params).In h)
    (F : ∀ (w : World) (mg : Str → Option Value) (fa : Addr) (h : Heap), (K w.params).In h → h.Ns mainGlobals mg → mg d.name = some (.ref fa) →
      ∃ fd : FuncData, (∀ (s : Shared) (u : Value), BindsTo s fd ⟨[u], []⟩ [(x, u)]) ∧ ∀ base : Heap, (K w.params).In base → base.Ns mainGlobals mg → FnG l.prog w (K w.params) mg base (CX w) k fa fd [x] (sp w))
    (hsp : ∀ (w : World) (H : Hp) (a : Addr) (ns : List Int), ns.length ≤ n → (∀ z ∈ ns, Builtin.Int.intBits z ≤ 1048576) → Only H → SqL (K w.params) H a (ns.map V.int) → sp w [.ref a] H (fun v _ => v = .bl true) fun _ _ _ => False)
    (hCX : ∀ (w : World) (H : Hp) (s : Shared) (e : Value) (s' : Shared), CX w [] H s (fun _ _ _ => False) e s' → False) :
    PySem.W.WalkO q loose XP YP l.row.toRowW d [] (fun f vs => PySem.call f vs) := by
  refine Att.attach_callB hn hdf fun w s0 s1 mg mb fa o pm cd doc a vs ns G Y ho hd hcd hmg hobj hints hlen hbits hgen => ?_
  obtain ⟨fd, hb, hF⟩ := F w mg fa _ (hY w _ Y) G.T.g hmg
  exact law_callG (hY w _ Y) G.T.g G.T.b G.T.builtins G.T.nolimit hgen hobj hints (Nat.le_trans hlen hn2) hr hF hb (fun H hO hS => hsp w H a ns hlen hbits hO hS) fun H e s' => hCX w H s1 e s'
end Mz
set_option Elab.async false
set_option linter.all false
set_option maxRecDepth 100000
set_option maxHeartbeats 4000000
/-! try with several clauses «except X as n», the exception met by one of them; what else stands behind these clauses is never looked at -/
namespace Mz
open PySem PySem.Spec PyProof.Rows L2
/-- a clause: the class, the slot of its name, its suite -/
abbrev Cl := Value × Nat × (Addr → Value → Option Addr → TS)
def endsAs (i : Nat) (D : Ends) : Ends := { nx := fun t G => D.nx (t.set i none) G, rt := D.rt, bk := fun t G => D.bk (t.set i none) G, ct := fun t G => D.ct (t.set i none) G }
def wNam (K : PySem.W.Frag) (D : Ends) : List Cl → WX
  | [] => fun _ _ _ _ => False
  | (c, i, ts) :: r => fun cls d t G => ∃ b, PySem.W.exmOne K cls c = some b ∧ (b = true → ∀ a, G a = none → ts a cls d (endsAs i D) (t.set i (some (.ref a))) G) ∧ (b = false → wNam K D r cls d t G)
inductive Cls_ (X : Cx) : List ExceptHandler → List Cl → Prop
  | any (l : List ExceptHandler) : Cls_ X l []
  | one {x n : Str} {c : Value} {i : Nat} {ts : Addr → Value → Option Addr → TS} {st : Stmt} {suite : List Stmt} {p1 p2 : Pos} {hs : List ExceptHandler} {l : List Cl} (hi : X.N[i]? = some n) (hl : X.env.kindOf n = some .local) (hc : Names X x c)
      (hsu : ∀ (a : Addr) (oe : Obj) (cls : Value) (d : Option Addr) (pn : List (Addr × Obj)), Zc cls d oe → (∃ vs, oe.data = .fields vs) → PSs (X.suite a ((a, oe) :: pn)) (st :: suite) (ts a cls d)) (r : Cls_ X hs l) :
      Cls_ X (.ExceptHandler (some (.Name x p1)) (some n) (st :: suite) p2 :: hs) ((c, i, ts) :: l)
section
variable {X : Cx} {body : List Stmt} {hd0 : ExceptHandler} {hds : List ExceptHandler} {tb : WX → TS} {l : List Cl} {pos : Pos}
theorem ps_try_named (hst : X.stack = X.env :: X.outer) (hfr : X.env.frame = some X.env.locals) (hN : X.N.Nodup)
    (hb : ∀ (W : WX) (pn : List (Addr × Obj)) (xe : Value → Shared → Prop), Takes (X.tr pn xe) W → PassesOwn (model X.prog X.w) X.A X.env xe → PSs (X.tr pn xe) body (tb W))
    (hh : Cls_ X (hd0 :: hds) l) : PS X (.Try body (hd0 :: hds) [] [] pos) (fun D σ H => tb (wNam X.K D l) D σ H) := by
  refine ⟨fun pins s σ H D I h => ?_⟩
  have ok := I.ok
  have frames : X.A.frames = some (X.env :: X.outer) := ok.frames.trans (congrArg some hst)
  refine wpAny_Try_except (wpAny_mono ((hb (wNam X.K D l) (X.pn ++ pins) (fun e q1 => wpAny (model X.prog X.w) X.A (noteFrame e X.env) (fun _ q2 => wpAny (model X.prog X.w) X.A (setFlight e none) (fun _ q3 =>
    wpAny (model X.prog X.w) X.A (handleBy e X.env (hd0 :: hds)) (SP X pins D) X.xe q3) X.xe q2) X.xe q1) (fun u s' xx => ?_) PassesOwn.looking).run [] s σ H D (I.toTry _) h) (fun f q1 hsp => ?_) fun e q1 he => he)
  · obtain ⟨a, B, sI, pins2, t, G, cls, d, rfl, JT, nb, up, sky, na, os, ag, wish⟩ := xx
    have J : Inv X pins t G sI := JT.ofTry ok
    have sky2 : Sky B (X.env :: X.outer) a (Zc cls d) X.env.locals s'.heap := hst ▸ sky
    show wpAny (model X.prog X.w) X.A (noteFrame (.ref a) X.env) _ _ _
    refine Sky.land Zc.steady frames hfr sky2 fun g3 fl3 up3 => ?_
    have J3 : Inv X pins t G { s' with heap := g3 } := J.landed nb fl3.1 (up.trans up3) os ag
    obtain ⟨oe3, vs3, he3, hz3, hd3⟩ := fl3.there
    have off : a ∉ frs (X.env :: X.outer) := by
      intro hm
      obtain ⟨_, o2, e2, hnf⟩ := fl3.2.2.1.mem hm
      rw [he3] at e2
      cases e2
      exact hnf _ hd3
    have nL : a ≠ X.env.locals := fun z => off (List.mem_filterMap.mpr ⟨X.env, List.mem_cons_self, by rw [hfr, z]⟩)
    have nF : a ∉ X.fs := by
      intro hm
      obtain ⟨e, he, q⟩ := List.mem_filterMap.mp hm
      exact off (List.mem_filterMap.mpr ⟨e, List.mem_cons_of_mem _ he, q⟩)
    have S3 := J3.suite he3 hd3 na nL nF
    have go : ∀ {k : List ExceptHandler} {m : List Cl}, Cls_ X k m → wNam X.K D m cls d t G → wpAny (model X.prog X.w) X.A (handleBy (.ref a) X.env k) (SP X pins D) X.xe { s' with heap := g3 } := by
      intro k m hk
      induction hk with
      | any k => exact fun z => z.elim
      | @one x n c i ts st suite p1 p2 k2 m2 hi hl hc hsu r ih =>
        rintro ⟨b, hb1, hyes, hno⟩
        have locn : Loc X.env.scope n := .inl hl
        refine wpAny_handleBy_cons (codeAny_handlers_test ?_) (by intro q; cases q)
        have typ : PySem.W.Looks (model X.prog X.w) g3 (typeOf (.ref a)) cls := fun A Q E s k q => wpAny_typeOf_ref (k _ _ he3) (by rw [hz3.1]; exact q)
        have met := PySem.W.exm_one (M := model X.prog X.w) (J3.kIn) typ hb1
        have load : ∀ {Q : Value → Shared → Prop} {E : Value → Shared → Prop}, Q c { s' with heap := g3 } → wpAny (model X.prog X.w) (X.A.mark (some (.ref a))) (eval (.Name x p1) X.env) Q E { s' with heap := g3 } := by
          intro Q E q
          obtain ⟨h1, h2, h3 | ⟨h3, h4, h5⟩⟩ := hc
          · exact ld_glob (X := X.suite a ((a, oe3) :: (X.pn ++ pins))) S3 h1 h3 q h2
          · exact ld_blt (X := X.suite a ((a, oe3) :: (X.pn ++ pins))) S3 h1 h3 h4 q h5 h2
        refine load (met.here ?_)
        cases b with
        | false => exact ih (hno rfl)
        | true =>
          refine codeAny_handlers_suite_as (HandSPX.lands_againZ fl3 fun g4 fl4 up4 => ?_)
          have J4 : Inv X pins t G { s' with heap := g4 } := J.landed nb fl4.1 ((up.trans up3).trans up4) os ag
          obtain ⟨oe4, vs4, he4, hz4, hd4⟩ := fl4.there
          have S4 := J4.suite he4 hd4 na nL nF
          refine store_ok (X := X.suite a ((a, oe4) :: (X.pn ++ pins))) (v := .ref a) S4 hN hi locn rfl (fun q5 S5 => ?_) (.inr hl)
          refine wpAny_mono ((hsu a oe4 cls d (X.pn ++ pins) hz4 ⟨_, hd4⟩).run [] q5 _ G _ S5 (hyes rfl a na)) (fun f q6 hsp => ?_) (fun _ _ z => z.elim)
          have fin : ∀ {t6 : L2.St} {G6 : Hp} {Q : Shared → Prop}, Inv (X.suite a ((a, oe4) :: (X.pn ++ pins))) [] t6 G6 q6 → (∀ q7, Inv X pins (t6.set i none) G6 q7 → Q q7) →
              wpAny (model X.prog X.w) X.A (do bindName X.env n .none; unbindBehindTheSuite X.env n p2) (fun _ q7 => Q q7) X.xe q6 := fun S6 hq => gone_ok (S6.unsuite ok) hN hi hl hq
          match f, hsp with
          | .next, ⟨t6, G6, S6, q6⟩ => exact fin S6 fun _ J7 => ⟨_, _, J7, q6⟩
          | .brk, ⟨t6, G6, S6, q6⟩ => exact fin S6 fun _ J7 => ⟨_, _, J7, q6⟩
          | .cont, ⟨t6, G6, S6, q6⟩ => exact fin S6 fun _ J7 => ⟨_, _, J7, q6⟩
          | .ret u, ⟨v6, t6, G6, S6, r6, q6⟩ => exact fin S6 fun _ J7 => ⟨_, _, _, J7, r6, q6⟩
    first
      | exact go hh wish
      | exact HandSPX.setFlight_upZ fl3 fun h4 hh4 up4 => go hh wish
  · match f, hsp with
    | .next, ⟨t, G, J, q⟩ => exact wpAny_execs_nil ⟨t, G, J.ofTry ok, q⟩
    | .brk, ⟨t, G, J, q⟩ => exact ⟨t, G, J.ofTry ok, q⟩
    | .cont, ⟨t, G, J, q⟩ => exact ⟨t, G, J.ofTry ok, q⟩
    | .ret u, ⟨v, t, G, J, r, q⟩ => exact ⟨v, t, G, J.ofTry ok, r, q⟩
end
end Mz
set_option Elab.async false
set_option linter.all false
set_option maxRecDepth 100000
set_option maxHeartbeats 4000000
/-! own exceptions whose __init__ calls the __init__ of an own base by its name -/
namespace Mz
open PySem PySem.Spec PyProof.Rows L2
section
variable {X : Cx} {o e : Expr} {es : List Expr} {ta : TA} {x : Str} {cM : Addr} {p1 p2 pos : Pos}
/-- MapError.__init__(self, ..): what stands there is the built-in one -/
theorem pe_meinit {pl : Sem Bool} (hg : Gl X x) (hm : X.mg x = some (.ref cM)) (rd : ClX.CRead X.K cM (.type "type")) (fc : PySem.W.findCls X.K (.ref cM) (.type "type") "__init__" = some (.val (.builtin "ValueError.__init__"))) (ha : PA X (e :: es) ta)
    (hc : eval (.Call (.Attribute (.Name x p1) "__init__" p2) (e :: es) [] pos) X.env = (do
      let ov ← eval (.Name x p1) X.env
      standAt p2.atName
      let (f, first) ← holding [ov] (getMethod ov "__init__" pl)
      callWith pos f first (backTo pos (starEach (e :: es) X.env)) (backToKw pos (keywordEach [] X.env))) := by rfl)
    (hdb : (x == ("__debug__" : Str)) = false := by decide) (he : starEach (e :: es) X.env = (false, eval e X.env) :: starEach es X.env := by rfl) (hpl : (backTo pos (starEach es X.env)).any (·.1) = false := by rfl) :
    PE X (.Call (.Attribute (.Name x p1) "__init__" p2) (e :: es) [] pos) (tVeI X.K ta) := by
  refine ⟨fun pins s σ H Q I h => PySem.W.methodCall_KW (ld_glob I hg hm ?_ hdb) hc⟩
  refine PySem.W.method_cls I.kIn rd.ga (PySem.W.cls_value I.kIn rd.rd fc (by decide +kernel) ?_)
  show wpAny _ _ (callWith pos (Value.builtin "ValueError.__init__") [] (backTo pos (starEach (e :: es) X.env)) []) _ _ _
  refine PyProof.Rows.callWith_method1 (thn (ha.run pos pins _ σ H _ (I.tok _) h) fun us s1 hv => ?_) he hpl
  obtain ⟨vs, H1, I1, r1, a, C, ws, rfl, hl, T, ea, q⟩ := hv
  cases r1 with
  | @cons _ u0 _ ur ra rw2 =>
    obtain rfl : u0 = Value.ref a := ra
    have short : ur.length ≤ sizeLine := by
      have e2 := Paired.length rw2
      have e3 := sizeLine_eq
      omega
    exact oinit_ok T I1 ea short fun s2 J => ⟨.non, H1, J, rfl, q⟩
end
/-- an exception of one field that is being made: it is at a, no dict as yet; behind __init__ its dict holds the field -/
def spX1 (K : PySem.W.Frag) (C : Addr) (f : Str) : Sp := fun vs H Q _ => ∃ (a : Addr) (v : V), vs = [.ref a, v] ∧ H a = some (exo a C none) ∧
  ∀ dx, H dx = none → dx ≠ a → Q .non (upd (upd H dx (exd dx [(f, v)])) a (exo a C (some dx)))
end Mz
set_option Elab.async false
set_option linter.all false
set_option maxRecDepth 100000
set_option maxHeartbeats 4000000
/-! what an own class says of str, ==, !=, + -/
namespace Mz
open PySem PySem.Spec PyProof.Rows L2
section
variable {X : Cx} {CX : CXT} {k : Nat} {f C : Addr} {fd : FuncData} {ps : List Str} {sp : Sp} {E : XK}
/-- a def of the text called at another place of the same run -/
theorem run_at {pins : List (Addr × Obj)} {σ : L2.St} {H : Hp} {s : Shared} {A : Around} {Q : VK} {us : List Value} {vs : List V} {E2 : Value → Shared → Prop} (F : FnOk X.prog X.w X.K X.mg X.base CX k f fd ps sp) (hr : Room k A) (e0 : Env0 X.prog X.w X.K X.mg X.base A X.stack s H)
    (hb : Binds X.K fd ps []) (hx : ∀ e s2, CX X.stack H s E e s2 → E2 e s2) (I : Inv X pins σ H s) (r : Vals vs us) (h : sp vs H Q E) : wpAny (model X.prog X.w) A (call (.ref f) us) (EP X pins σ Q) E2 s := by
  have hl : (us ++ []).length = ps.length := by
    rw [List.append_nil]
    exact r.length.symm.trans (F.len _ _ _ _ h)
  have hbi := hb s us I.kIn hl
  rw [List.append_nil] at hbi
  refine wpAny_call (codeAny_mono (F.run A X.stack s H ⟨us, []⟩ us vs Q E hr e0 hbi r h) fun r s2 hq => ?_)
  match r, hq with
  | .error e, hq => exact hx e s2 hq
  | .ok (.ret u), hq => exact I.after hq
  | .ok .next, hq => exact hq.elim
  | .ok .brk, hq => exact hq.elim
  | .ok .cont, hq => exact hq.elim
/-- str(x) by the own __str__ -/
theorem call_strO (F : FnOk X.prog X.w X.K X.mg X.base CX0 k f fd ps sp) (hr : Room (k + 2) X.A) (hb : Binds X.K fd ps []) (hs : PySem.W.findIn X.K (.ref C) "__str__" = some (some (.ref f))) (hf : PySem.W.isFn X.K (.ref f) = true) :
    CallR X (.type "str") (fun xs H Q => ∃ a dx fs, xs = [.ref a] ∧ H a = some (.ins C dx fs) ∧ sp [.ref a] H (fun v H2 => ∃ z : Str, v = .str z ∧ Q (.str z) H2) E0) := by
  intro pins s σ H xs us Q I r h
  obtain ⟨a, dx, fs, rfl, ha, q⟩ := h
  obtain ⟨u, rfl, rx⟩ := vals1 r
  obtain rfl : u = Value.ref a := rx
  obtain ⟨mA, O, _⟩ := ins_get I.hok ha
  obtain ⟨od, J, _⟩ := O.look
  refine PySem.W.kso_call hr.in1.in1.units0 I.kIn J hs hf (wpAny_mono (run_at (E := E0) (vs := [.ref a]) (us := [.ref a]) F hr.in1.in1 I.env0.in1.in1 hb (fun _ _ z => z.elim) I (.cons rfl .nil) q) (fun u s2 hv => ?_) fun _ _ z => z)
  obtain ⟨v, H2, I2, rv, z, rfl, q2⟩ := hv
  obtain ⟨t, rfl⟩ := rv
  exact ⟨.str z, H2, I2, ⟨t, rfl⟩, q2⟩
/-- what stands on the other side of == : its type, no class below C -/
def Oth (K : PySem.W.Frag) (C : Addr) (H : Hp) (y : V) : Prop := ∃ t, TyX K H y t ∧ PySem.W.notFirst K C t = true
theorem op_eqO (F : FnOk X.prog X.w X.K X.mg X.base CX0 k f fd ps sp) (hr : Room k X.A) (hb : Binds X.K fd ps []) (hs : PySem.W.findIn X.K (.ref C) "__eq__" = some (some (.ref f))) (hf : PySem.W.isFn X.K (.ref f) = true) :
    OpR X (compareOp .Eq) (fun x y H Q => ∃ a dx fs, x = .ref a ∧ H a = some (.ins C dx fs) ∧ Oth X.K C H y ∧ sp [.ref a, y] H (fun v H2 => ∃ b : Bool, v = .bl b ∧ Q (.bl b) H2) E0) := by
  intro pins s σ H x y v u Q I rx ry h
  obtain ⟨a, dx, fs, rfl, ha, ⟨t, ty, nf⟩, q⟩ := h
  obtain rfl : v = Value.ref a := rx
  obtain ⟨mA, O, _⟩ := ins_get I.hok ha
  obtain ⟨od, J, _⟩ := O.look
  obtain ⟨m, hF⟩ := I.fr
  obtain ⟨P, Z, hp, _⟩ := kit_of I ry ty
  refine PySem.W.cmp_ofEq (PySem.W.cmp_K (op := .Eq) hr.units0 hF I.ok.mod.kin J (Z.ty _ _ I.kIn hp) nf hs hf (wpAny_mono (run_at (E := E0) (vs := [.ref a, y]) (us := [.ref a, u]) F hr I.env0 hb (fun _ _ z => z.elim) I (.cons rfl (.cons ry .nil)) q) (fun u s2 hv => ?_) fun _ _ z => z))
  obtain ⟨v, H2, I2, rv, b, rfl, q2⟩ := hv
  obtain rfl : u = Value.bool b := rv
  exact ⟨.bl b, H2, I2, rfl, q2⟩
/-- object.__ne__ by the own __eq__ -/
theorem op_neO (F : FnOk X.prog X.w X.K X.mg X.base CX0 k f fd ps sp) (hr : Room (k + 1) X.A) (hb : Binds X.K fd ps []) (hs : PySem.W.findIn X.K (.ref C) "__eq__" = some (some (.ref f))) (hf : PySem.W.isFn X.K (.ref f) = true)
    (hn : PySem.W.findIn X.K (.ref C) "__ne__" = some (some (.builtin "object.__ne__"))) (hm : PySem.W.mroIn X.K C (.type "object") = some true) :
    OpR X (compareOp .NotEq) (fun x y H Q => ∃ a dx fs, x = .ref a ∧ H a = some (.ins C dx fs) ∧ Oth X.K C H y ∧ sp [.ref a, y] H (fun v H2 => ∃ b : Bool, v = .bl b ∧ Q (.bl (!b)) H2) E0) := by
  intro pins s σ H x y v u Q I rx ry h
  obtain ⟨a, dx, fs, rfl, ha, ⟨t, ty, nf⟩, q⟩ := h
  obtain rfl : v = Value.ref a := rx
  obtain ⟨mA, O, _⟩ := ins_get I.hok ha
  obtain ⟨od, J, _⟩ := O.look
  obtain ⟨m, hF⟩ := I.fr
  obtain ⟨P, Z, hp, _⟩ := kit_of I ry ty
  have back : wpAny (model X.prog X.w) X.A.in1 (call (.ref f) [.ref a, u]) (fun r s2 => ∃ b, r = .bool b ∧ EP X pins σ Q (.bool (!b)) s2) X.xe s :=
    wpAny_mono (run_at (E := E0) (vs := [.ref a, y]) (us := [.ref a, u]) F hr.in1 I.env0.in1 hb (fun _ _ z => z.elim) I (.cons rfl (.cons ry .nil)) q) (fun r s2 hv => by
      obtain ⟨v, H2, I2, rv, b, rfl, q2⟩ := hv
      obtain rfl : r = Value.bool b := rv
      exact ⟨b, rfl, .bl (!b), H2, I2, rfl, q2⟩) fun _ _ z => z
  have body : wpAny (model X.prog X.w) X.A.in1 (Builtin.«object.__ne__» ⟨[.ref a, u], []⟩) (fun fin s2 => ∃ b : Bool, fin = .done (.ret (.bool b)) ∧ EP X pins σ Q (.bool b) s2) X.xe s := by
    unfold Builtin.«object.__ne__»
    refine wpAny_bind (m := slotArgs "__ne__" 1 _) (wpAny_pure ?_)
    refine wpAny_bind (m := cRoomFor _ _) (wpAny_cRoomFor hr.in1.units0 ?_)
    refine wpAny_bind (m := callSpecialIfBound? (.ref a) "__eq__" [u]) (PySem.W.ifBound_K I.kIn J hs hf (wpAny_mono back (fun r s2 hv => ?_) fun _ _ z => z))
    obtain ⟨b, rfl, e⟩ := hv
    exact wpAny_bind (wpAny_pure (wpAny_pure ⟨!b, rfl, e⟩))
  have sub : PySem.W.Looks (model X.prog X.w) s.heap (isInstance (.ref a) (.type "object")) true := J.type.andThen (PySem.W.looks_mroIn I.kIn hm)
  have ran : wpAny (model X.prog X.w) X.A (call (.builtin "object.__ne__") [.ref a, u]) (fun r s2 => ∃ b : Bool, r = .bool b ∧ EP X pins σ Q (.bool b) s2) X.xe s := by
    refine wpAny_call (codeAny_call_builtin PySem.F.slot_object_ne.plain PySem.F.entry_object_ne (PySem.W.check_slot (i := "object.__ne__") (owner := "object") (n := "__ne__") (by decide +kernel) (by decide +kernel) sub (PySem.F.args_object_ne_2 _ _) ?_))
    refine wpAny_mono body (fun fin s2 hv => ?_) fun _ _ z => z
    obtain ⟨b, rfl, e⟩ := hv
    exact ⟨b, rfl, e⟩
  have ask : wpAny (model X.prog X.w) X.A (callSpecialIfBound? (.ref a) "__ne__" [u]) (fun r s2 => ∃ b : Bool, r = some (.bool b) ∧ EP X pins σ Q (.bool b) s2) X.xe s := by
    simp only [callSpecialIfBound?, bindSpecialIfBound?]
    refine wpAny_holding (wpAny_bind (wpAny_bind (wpAny_bind (J.type.here ((PySem.W.looks_findIn I.kIn hn).here ?_)))))
    refine wpAny_bind (wpAny_askSetting (wpAny_ite ?_))
    have fin : wpAny (model X.prog X.w) X.A (call (.builtin "object.__ne__") ([.ref a] ++ [u]) >>= fun v => pure (some v)) (fun r s2 => ∃ b : Bool, r = some (.bool b) ∧ EP X pins σ Q (.bool b) s2) X.xe s :=
      wpAny_bind (wpAny_mono ran (fun v s2 hv => by
        obtain ⟨b, rfl, e⟩ := hv
        exact wpAny_pure ⟨b, rfl, e⟩) fun _ _ z => z)
    split
    · exact wpAny_bind ((PySem.W.Looks.of_pure (PySem.F.slot_object_ne.bind _)).here (wpAny_pure (by exact fin)))
    · exact wpAny_tryCatch (wpAny_bind ((PySem.W.Looks.of_pure (PySem.F.slot_object_ne.bind _)).here (wpAny_pure (by exact fin))))
  have one : wpAny (model X.prog X.w) X.A (tryCompare (.ref a) (cmpInfo .NotEq).2.1 u) (fun r s2 => ∃ v, r = some v ∧ EP X pins σ Q v s2) X.xe s := by
    unfold tryCompare
    refine wpAny_bind (wpAny_mono ask (fun r s2 hv => ?_) fun _ _ z => z)
    obtain ⟨b, rfl, e⟩ := hv
    exact wpAny_pure ⟨_, rfl, e⟩
  refine PySem.W.cmp_ofNotEq ?_
  unfold richCompare
  simp only [oneThing_ref]
  refine wpAny_holding (wpAny_bind (wpAny_cRoomFor (Nat.lt_of_lt_of_le hr.in1.units0 (Nat.le_refl _) |> fun z => Nat.lt_of_le_of_lt (Nat.le_succ _) z) ?_))
  refine wpAny_bind (J.type.here (wpAny_bind ((Z.ty _ _ I.kIn hp).here ?_)))
  have last : wpAny (model X.prog X.w) X.A (tryCompare (.ref a) (cmpInfo .NotEq).2.1 u) (fun r s2 => ∃ v, r = some v ∧ EP X pins σ Q v s2) X.xe s := one
  split
  · rename_i qn
    have e : PySem.W.subIn X.K t (.ref C) = some false := by
      rcases Bool.or_eq_true_iff.mp nf with e | e
      · rw [beq_iff_eq.mp e] at qn
        simp at qn
      · exact beq_iff_eq.mp e
    refine wpAny_bind ((PySem.W.looks_subIn I.kIn e).here ?_)
    simp only [Bool.false_eq_true, if_false]
    refine wpAny_bind (wpAny_mono last (fun r s2 z => ?_) fun _ _ e => e)
    obtain ⟨v, rfl, hq⟩ := z
    exact wpAny_pure hq
  · refine wpAny_bind (wpAny_pure ?_)
    simp only [Bool.false_eq_true, if_false]
    refine wpAny_bind (wpAny_mono last (fun r s2 z => ?_) fun _ _ e => e)
    obtain ⟨v, rfl, hq⟩ := z
    exact wpAny_pure hq
/-- what the class says of +, - with an int on the right -/
structure Arith (K : PySem.W.Frag) (C : Addr) (op : Operator) (f : Addr) : Prop where
  first : PySem.W.selfFirst K C = true
  own : PySem.W.findIn K (.ref C) (PySem.dunder op.info.2) = some (some (.ref f))
  fn : PySem.W.isFn K (.ref f) = true
  back : ∃ rc, PySem.W.findIn K (.ref C) (dunderR op.info.2) = some rc ∧ (rc = none ∨ ∃ g : Addr, rc = some (.ref g))
  io : ∃ fo, PySem.W.findIn K (.type "int") (PySem.dunder op.info.2) = some fo
  ir : ∃ ro, PySem.W.findIn K (.type "int") (dunderR op.info.2) = some ro
  sub : PySem.W.subIn K (.type "int") (.ref C) = some false
theorem op_binO {op : Operator} (F : FnOk X.prog X.w X.K X.mg X.base CX0 k f fd ps sp) (hr : Room k X.A) (hb : Binds X.K fd ps []) (T : Arith X.K C op f) :
    OpR X (binaryOp op) (fun x y H Q => ∃ a dx fs i, x = .ref a ∧ y = .int i ∧ H a = some (.ins C dx fs) ∧ sp [.ref a, y] H (fun v H2 => (∃ p, v = .ref p) ∧ Q v H2) E0) := by
  intro pins s σ H x y v u Q I rx ry h
  obtain ⟨a, dx, fs, i, rfl, rfl, ha, q⟩ := h
  obtain rfl : v = Value.ref a := rx
  obtain ⟨t, rfl⟩ := ry
  obtain ⟨mA, O, _⟩ := ins_get I.hok ha
  obtain ⟨od, J, _⟩ := O.look
  obtain ⟨m, hF⟩ := I.fr
  obtain ⟨rc, b1, b2⟩ := T.back
  obtain ⟨fo, c1⟩ := T.io
  obtain ⟨ro, c2⟩ := T.ir
  refine PySem.W.ksp_binT (T := "int") hF I.ok.mod.kin J rfl T.first T.own T.fn b1 b2 c1 c2 T.sub (wpAny_mono (run_at (E := E0) (vs := [.ref a, .int i]) (us := [.ref a, .int i t]) F hr I.env0 hb (fun _ _ z => z.elim) I (.cons rfl (.cons ⟨t, rfl⟩ .nil)) q) (fun r s2 hv => ?_) fun _ _ z => z)
  obtain ⟨v, H2, I2, rv, ⟨p, rfl⟩, q2⟩ := hv
  obtain rfl : r = Value.ref p := rv
  exact ⟨.ref p, H2, I2, rfl, q2⟩
end
end Mz
set_option Elab.async false
set_option linter.all false
set_option maxRecDepth 100000
set_option maxHeartbeats 4000000
/-! a small int in a field of an f-string with its sign written -/
namespace Mz
open PySem PySem.Spec PyProof.Rows L2 PySem.W
def signS (i : Int) : Str := if i = 1 then "+1" else if i = 2 then "+2" else if i = 3 then "+3" else if i = -1 then "-1" else if i = -2 then "-2" else "-3"
theorem small_six {i : Int} (h0 : -3 ≤ i) (h1 : i ≤ 3) (h : i ≠ 0) : i = 1 ∨ i = 2 ∨ i = 3 ∨ i = -1 ∨ i = -2 ∨ i = -3 := by omega
theorem fmt_plus {prog : Program} {w : World} {A : Around} {E : Value → Shared → Prop} {s : Shared} {i : Int} {t : Tok} {Q : Value → Shared → Prop} (h0 : -3 ≤ i) (h1 : i ≤ 3) (hz : i ≠ 0) (h : ∀ u k, Q (.str (signS i) u) { s with toks := k }) :
    wpAny (model prog w) A (formatField (.int i t) ("+d" : Str)) Q E s := by
  rcases small_six h0 h1 hz with rfl | rfl | rfl | rfl | rfl | rfl
  · exact KXf.field_int (y := "+1") rfl (by decide +kernel) (by decide +kernel) (by kxf_run_i) h
  · exact KXf.field_int (y := "+2") rfl (by decide +kernel) (by decide +kernel) (by kxf_run_i) h
  · exact KXf.field_int (y := "+3") rfl (by decide +kernel) (by decide +kernel) (by kxf_run_i) h
  · exact KXf.field_int (y := "-1") rfl (by decide +kernel) (by decide +kernel) (by kxf_run_i) h
  · exact KXf.field_int (y := "-2") rfl (by decide +kernel) (by decide +kernel) (by kxf_run_i) h
  · exact KXf.field_int (y := "-3") rfl (by decide +kernel) (by decide +kernel) (by kxf_run_i) h
section
variable {X : Cx}
theorem pe_fmtP {e : Expr} {te : TE} {j : Nat} {p1 p2 pos : Pos} (he : PE X e te) : PE X (.FormattedValue e (-1) (some (.JoinedStr [.Constant (.str "+d") j p1] p2)) pos)
    (fun σ H Q => te σ H fun x H1 => ∃ i : Int, x = .int i ∧ -3 ≤ i ∧ i ≤ 3 ∧ i ≠ 0 ∧ Q (.str (signS i)) H1) := by
  refine ⟨fun pins s σ H Q I h => ?_⟩
  refine wpAny_FormattedValue_spec (thn (he.run pins s σ H _ I h) fun v s1 hv => ?_)
  obtain ⟨x, H1, I1, r1, i, rfl, h0, h1, hz, q⟩ := hv
  obtain ⟨t, rfl⟩ := r1
  have sp : PE X (.JoinedStr [.Constant (.str "+d") j p1] p2) (tC (.str "+d")) := pe_joined1 pe_str
  refine wpAny_mono (sp.run pins s1 σ H1 (fun y H2 => y = .str "+d" ∧ Q (.str (signS i)) H2) I1 ⟨rfl, q⟩) (fun u s2 hv => ?_) fun _ _ z => z
  obtain ⟨y, H2, I2, r2, rfl, q2⟩ := hv
  obtain ⟨u2, rfl⟩ := r2
  exact ⟨_, u2, rfl, fmt_plus h0 h1 hz fun u k => ⟨.str (signS i), H2, I2.tok _, ⟨u, rfl⟩, q2⟩⟩
end
end Mz
set_option Elab.async false
set_option linter.all false
set_option maxRecDepth 100000
set_option maxHeartbeats 4000000
/-! a class held by a parameter, called; a classmethod called by keywords alone -/
namespace Mz
open PySem PySem.Spec PyProof.Rows L2
section
variable {X : Cx} {CX : CXT} {k n i : Nat} {f C : Addr} {fd : FuncData} {ps ks : List Str} {sp : Sp} {E : XK} {x : Str} {p pos : Pos} {e : Expr} {es : List Expr} {kws : List Keyword} {t tk : TA} {g : List Value → List Value → List Value} {gV : List V → List V → List V}
/-- cls(k = v, ..), cls a local name that holds the class at C -/
theorem pe_makeL0 (hN : X.N[i]? = some x) (hv : Vis X.env.scope x) (M : Mk X.K C f) (F : FnOk X.prog X.w X.K X.mg X.base CX k f fd ps sp) (hr : Room (k + 1) X.A) (hb : KBn X.K fd ps 1 ks g gV) (hx : Passes CX X E) (hkw : PK X kws tk)
    (hall : (backToKw pos (keywordEach kws X.env)).all (·.1.isSome) = true := by rfl) (hks : (backToKw pos (keywordEach kws X.env)).filterMap (·.1) = ks := by rfl) (hdb : (x == ("__debug__" : Str)) = false := by decide) (hcd : (x == ("__classdict__" : Str)) = false := by decide)
    (hpl : ((backTo pos (starEach [] X.env)).any (·.1) || (backToKw pos (keywordEach kws X.env)).any (·.1.isNone)) = false := by rfl) :
    PE X (.Call (.Name x p) [] kws pos) (fun σ H Q => σ[i]? = some (some (.ref C)) ∧ tMakeK C 0 ks.length sp gV E tNil tk σ H Q) := by
  refine ⟨fun pins s σ H Q I h => ?_⟩
  obtain ⟨hσ, h⟩ := h
  have ld : PE X (.Name x p) (tVar i) := pe_var hN hv hdb hcd
  refine wpAny_Call_Name_kw (wpAny_mono (ld.run pins s σ H (fun v H2 => v = .ref C ∧ tMakeK C 0 ks.length sp gV E tNil tk σ H2 Q) I ⟨_, hσ, rfl, h⟩) (fun u s1 hv => ?_) fun _ _ z => z)
  obtain ⟨v, H1, I1, rv, rfl, q⟩ := hv
  obtain rfl : u = Value.ref C := rv
  refine PySem.W.callWith_KW0 (h₀ := X.base) I.ok.mod.kin M.kp hall (thn (hkw.run pos pins s1 σ H1 _ I1 q) fun ws s2 hw => ?_) hpl
  obtain ⟨zs, H2, I2, rz, l1, l2, q2⟩ := hw
  rw [hks]
  exact ⟨I2.kIn, run_makeK (us := []) (vs := []) M F hr hb hx I2 .nil rz rfl l2 q2⟩
/-- cls(e, .., k = v, ..) -/
theorem pe_makeL (hN : X.N[i]? = some x) (hv : Vis X.env.scope x) (M : Mk X.K C f) (F : FnOk X.prog X.w X.K X.mg X.base CX k f fd ps sp) (hr : Room (k + 1) X.A) (hb : KBn X.K fd ps (n + 1) ks g gV) (hx : Passes CX X E) (ha : PA X (e :: es) t) (hkw : PK X kws tk)
    (hall : (backToKw pos (keywordEach kws X.env)).all (·.1.isSome) = true := by rfl) (hks : (backToKw pos (keywordEach kws X.env)).filterMap (·.1) = ks := by rfl) (hdb : (x == ("__debug__" : Str)) = false := by decide) (hcd : (x == ("__classdict__" : Str)) = false := by decide)
    (he : starEach (e :: es) X.env = (false, eval e X.env) :: starEach es X.env := by rfl) (hpl : ((backTo pos (starEach (e :: es) X.env)).any (·.1) || (backToKw pos (keywordEach kws X.env)).any (·.1.isNone)) = false := by rfl) :
    PE X (.Call (.Name x p) (e :: es) kws pos) (fun σ H Q => σ[i]? = some (some (.ref C)) ∧ tMakeK C n ks.length sp gV E t tk σ H Q) := by
  refine ⟨fun pins s σ H Q I h => ?_⟩
  obtain ⟨hσ, h⟩ := h
  have ld : PE X (.Name x p) (tVar i) := pe_var hN hv hdb hcd
  refine wpAny_Call_Name_kw (wpAny_mono (ld.run pins s σ H (fun v H2 => v = .ref C ∧ tMakeK C n ks.length sp gV E t tk σ H2 Q) I ⟨_, hσ, rfl, h⟩) (fun u s1 hv => ?_) fun _ _ z => z)
  obtain ⟨v, H1, I1, rv, rfl, q⟩ := hv
  obtain rfl : u = Value.ref C := rv
  refine PySem.W.callWith_KW (h₀ := X.base) I.ok.mod.kin M.kp hall (thn (ha.run pos pins s1 σ H1 _ I1 q) fun us s2 hw => ?_) hpl he
  obtain ⟨vs, H2, I2, r2, q2⟩ := hw
  refine thn (hkw.run pos pins s2 σ H2 _ I2 q2) fun ws s3 hw => ?_
  obtain ⟨zs, H3, I3, rz, l1, l2, q3⟩ := hw
  rw [hks]
  exact ⟨I3.kIn, run_makeK M F hr hb hx I3 r2 rz l1 l2 q3⟩
/-- C.m(k = v, ..), m a classmethod, keywords alone -/
theorem pe_cmethK0 {o : Expr} {ta : TE} {m : Str} {q g0 : Addr} {mc : Value} {apos : Pos} {pl : Sem Bool} {ES : L2.St → XK} (ho : PE X o ta) (r : ClX.CRead X.K C mc) (c : ClX.CMet X.K C mc m q g0) (F : FnOk X.prog X.w X.K X.mg X.base CX k g0 fd ps sp) (hr : Room k X.A) (hb : KBn X.K fd ps 1 ks g gV) (hx : ∀ σ, PassesAt CX X σ (ES σ)) (hkw : PK X kws tk)
    (hall : (backToKw pos (keywordEach kws X.env)).all (·.1.isSome) = true := by rfl) (hks : (backToKw pos (keywordEach kws X.env)).filterMap (·.1) = ks := by rfl)
    (hpl : ((backTo pos (starEach [] X.env)).any (·.1) || (backToKw pos (keywordEach kws X.env)).any (·.1.isNone)) = false := by rfl)
    (ht : eval (.Call (.Attribute o m apos) [] kws pos) X.env = (do
      let ov ← eval o X.env
      standAt apos.atName
      let (f, first) ← holding [ov] (getMethod ov m pl)
      callWith pos f first (backTo pos (starEach [] X.env)) (backToKw pos (keywordEach kws X.env))) := by rfl) :
    PE X (.Call (.Attribute o m apos) [] kws pos) (fun σ H Q => ta σ H fun x H1 => x = .ref C ∧ tk σ H1 fun zs H2 => zs.length = ks.length ∧ sp (gV [.ref C] zs) H2 Q (ES σ)) := by
  refine ⟨fun pins s σ H Q I h => PySem.W.methodCall_KW (pl := pl) (thn (ho.run pins s σ H _ I h) fun u s1 hv => ?_) ht⟩
  obtain ⟨x, H1, I1, rx, rfl, q1⟩ := hv
  obtain rfl : u = Value.ref C := rx
  refine ClX.getmethcm_ok I1 r c fun s2 I2 => ?_
  refine PySem.W.callWith_of (P := PySem.W.MethP X.K s1.heap.objs.size g0 (.ref C)) hpl (PySem.W.keeps_M c.fi) (evalArgs_kw2_nil hall (thn (hkw.run pos _ s2 σ H1 _ I2 q1) fun ws s3 hw => ?_))
  obtain ⟨zs, H2, I3, rz, l2, q2⟩ := hw
  refine ⟨⟨ClX.pin_at I3, I3.kIn⟩, ?_⟩
  rw [hks]
  have r1 : Vals [V.ref C] [Value.ref C] := .cons rfl .nil
  have z : wpAny (model X.prog X.w) X.A (call (.ref s1.heap.objs.size) [] (ks.zip ws)) (EP X ((s1.heap.objs.size, PySem.W.methodObj (.ref g0) (.ref C)) :: pins) σ Q) X.xe s3 := by
    refine wpAny_call (PySem.W.method_call (ClX.pin_at I3) (codeAny_mono (F.run X.A X.stack s3 H2 ⟨[.ref C], ks.zip ws⟩ (g [.ref C] ws) (gV [.ref C] zs) Q (ES σ) hr I3.env0 (hb.to s3 [.ref C] ws I3.kIn rfl (rz.length.symm.trans l2)) (hb.rel r1 rz) q2) fun r s4 hq => ?_))
    cases r with
    | error e => exact hx σ _ H2 s3 e s4 I3 hq
    | ok fl =>
      cases fl with
      | ret u => exact I3.after hq
      | next => exact hq.elim
      | brk => exact hq.elim
      | cont => exact hq.elim
  exact thn z fun _ _ y => ClX.unpinE y
/-- C.m(e, ..), m a classmethod; what is raised is wished for at the caller's slots -/
theorem pe_cmethS {o : Expr} {ta : TE} {m : Str} {q g0 : Addr} {mc : Value} {apos : Pos} {pl : Sem Bool} {ES : L2.St → XK} (ho : PE X o ta) (r : ClX.CRead X.K C mc) (c : ClX.CMet X.K C mc m q g0) (F : FnOk X.prog X.w X.K X.mg X.base CX k g0 fd ps sp) (hr : Room k X.A) (hb : Binds X.K fd ps [])
    (hx : ∀ σ, PassesAt CX X σ (ES σ)) (ha : PA X (e :: es) t) (hst : starEach (e :: es) X.env = (false, eval e X.env) :: starEach es X.env := by rfl) (hpl : (backTo pos (starEach es X.env)).any (·.1) = false := by rfl)
    (ht : eval (.Call (.Attribute o m apos) (e :: es) [] pos) X.env = (do
      let ov ← eval o X.env
      standAt apos.atName
      let (f, first) ← holding [ov] (getMethod ov m pl)
      callWith pos f first (backTo pos (starEach (e :: es) X.env)) (backToKw pos (keywordEach [] X.env))) := by rfl) :
    PE X (.Call (.Attribute o m apos) (e :: es) [] pos) (fun σ H Q => ta σ H fun x H1 => x = .ref C ∧ t σ H1 fun vs H2 => sp (.ref C :: vs) H2 Q (ES σ)) := by
  refine ⟨fun pins s σ H Q I h => PySem.W.methodCall_KW (pl := pl) (thn (ho.run pins s σ H _ I h) fun u s1 hv => ?_) ht⟩
  obtain ⟨x, H1, I1, rx, rfl, q1⟩ := hv
  obtain rfl : u = Value.ref C := rx
  refine ClX.getmethcm_ok I1 r c fun s2 I2 => ?_
  refine ClX.callwith_cm I2 (ClX.base_none I1 (Nat.le_refl _)) c.fi (thn (ha.run pos _ s2 σ H1 _ I2 q1) fun us s3 hw => ?_) hst hpl
  obtain ⟨vs, H2, I3, rv, q2⟩ := hw
  refine ⟨⟨ClX.pin_at I3, I3.kIn⟩, ?_⟩
  have r1 : Vals (V.ref C :: vs) (Value.ref C :: us) := .cons rfl rv
  have hl : (Value.ref C :: us ++ []).length = ps.length := by
    rw [List.append_nil]
    exact r1.length.symm.trans (F.len _ _ _ _ q2)
  have hbi := hb s3 (Value.ref C :: us) I3.kIn hl
  rw [List.append_nil] at hbi
  have z : wpAny (model X.prog X.w) X.A (call (.ref s1.heap.objs.size) us) (EP X ((s1.heap.objs.size, PySem.W.methodObj (.ref g0) (.ref C)) :: pins) σ Q) X.xe s3 := by
    refine wpAny_call (PySem.W.method_call (ClX.pin_at I3) (codeAny_mono (F.run X.A X.stack s3 H2 ⟨Value.ref C :: us, []⟩ (Value.ref C :: us) (V.ref C :: vs) Q (ES σ) hr I3.env0 hbi r1 q2) fun r s4 hq => ?_))
    cases r with
    | error e => exact hx σ _ H2 s3 e s4 I3 hq
    | ok fl =>
      cases fl with
      | ret u => exact I3.after hq
      | next => exact hq.elim
      | brk => exact hq.elim
      | cont => exact hq.elim
  exact thn z fun _ _ y => ClX.unpinE y
end
end Mz
set_option Elab.async false
set_option linter.all false
set_option maxRecDepth 100000
set_option maxHeartbeats 4000000
/-! repr of lists that hold instances with an own __repr__ -/
namespace Mz
open PySem PySem.Spec PyProof.Rows L2
/-- v is shown as t, under the containers as -/
def ShV (X : Cx) (k : Nat) (as : List Addr) (Pre : Hp → Prop) (v : V) (t : Str) : Prop :=
  ∀ (base : Nat), base + t.length ≤ sizeLine → ∀ (A : Around) (g : List Code) (pins : List (Addr × Obj)) (σ : L2.St) (H : Hp) (s : Shared) (u : Value) (Q : Str → Shared → Prop), A.frames = some X.stack → A.guards = some g → (∀ b ∈ as, Clear g b) → Room k A →
    Inv X pins σ H s → Pre H → RelV v u → (∀ H' s', Inv X pins σ H' s' → Same H H' → Q t s') → wpAny (model X.prog X.w) A (pyReprUnder base u) Q X.xe s
section
variable {X : Cx} {k : Nat} {as : List Addr} {Pre : Hp → Prop}
theorem shv_is {v : V} {t : Str} (h : ∀ u, RelV v u → ReprIs X.prog X.w u t) : ShV X k as Pre v t :=
  fun base hb A g pins σ H s u Q _ _ _ _ I _ r q => (h u r) base hb A X.xe s Q fun tk => q H _ (I.tok _) (Same.refl H)
theorem shv_str {z : Str} (h : (reprText z).length ≤ sizeLine) : ShV X k as Pre (.str z) (reprText z) := shv_is fun u r => by
  obtain ⟨t, rfl⟩ := r
  exact ReprIs.str z t h
theorem shv_int {i : Int} (h : i.natAbs.log2 < 1920) : ShV X k as Pre (.int i) (Str.ofString (toString i)) := shv_is fun u r => by
  obtain ⟨t, rfl⟩ := r
  exact ReprIs.int t h
theorem ifBoundBy_K {M : Model} {A : Around} {E : Value → Shared → Prop} {s : Shared} {K : PySem.W.Frag} {x C f : Addr} {ox : Obj} {od : Option Obj} {name : Str} {last : Value → List Value → Sem Value} {Q : Option Value → Shared → Prop} (KX : K.In s.heap) (I : PySem.W.InstAt s.heap x ox C od)
    (hs : PySem.W.findIn K (.ref C) name = some (some (.ref f))) (hf : PySem.W.isFn K (.ref f) = true)
    (h : wpAny M A (last (.ref f) [.ref x]) (fun v => Q (some v)) E s) : wpAny M A (callSpecialIfBoundBy? last (.ref x) name) Q E s := by
  simp only [callSpecialIfBoundBy?, bindSpecialIfBound?]
  refine wpAny_holding (wpAny_bind (wpAny_bind (wpAny_bind (I.type.here ((PySem.W.looks_findIn KX hs).here ?_)))))
  refine wpAny_bind (wpAny_askSetting (wpAny_ite ?_))
  have fin : wpAny M A (last (.ref f) [.ref x] >>= fun v => pure (some v)) Q E s := wpAny_bind (wpAny_mono h (fun v s' h' => wpAny_pure h') fun _ _ h' => h')
  split
  · exact wpAny_bind ((PySem.W.bind_fn KX _ (beq_iff_eq.mp hf)).here (wpAny_pure (by exact fin)))
  · exact wpAny_tryCatch (wpAny_bind ((PySem.W.bind_fn KX _ (beq_iff_eq.mp hf)).here (wpAny_pure (by exact fin))))
theorem env_at {pins : List (Addr × Obj)} {σ : L2.St} {H : Hp} {s : Shared} {A : Around} (I : Inv X pins σ H s) (h : A.frames = some X.stack) : Env0 X.prog X.w X.K X.mg X.base A X.stack s H := by
  have e := I.env0
  exact ⟨h, e.mod, e.bs, e.bsz, e.funs, e.frf, e.hok, e.bare⟩
theorem shv_own {j : Nat} {f C p : Addr} {fd : FuncData} {sp : Sp} {t : Str} (F : FnOk X.prog X.w X.K X.mg X.base CX0 k f fd ["self"] sp) (hb : Binds X.K fd ["self"] []) (hs : PySem.W.findIn X.K (.ref C) "__repr__" = some (some (.ref f))) (hf : PySem.W.isFn X.K (.ref f) = true)
    (hp : ∀ H, Pre H → ∃ dx fs, H p = some (.ins C dx fs) ∧ sp [.ref p] H (fun v H2 => v = .str t ∧ Same H H2) E0) : ShV X k as Pre (.ref p) t := by
  intro base hbs A g pins σ H s u Q hfr hg hcl hr I pre r q
  obtain rfl : u = Value.ref p := r
  obtain ⟨dx, fs, ha, hsp⟩ := hp H pre
  obtain ⟨mA, O, _⟩ := ins_get I.hok ha
  obtain ⟨od, J, _⟩ := O.look
  refine wpAny_pyReprUnder_ref (by omega) ?_
  unfold pyReprObjUnder pyReprObjBy
  refine wpAny_bind (wpAny_cRoomFor hr.units0 ?_)
  refine wpAny_bind (wpAny_bind (J.type.here ((PySem.W.looks_findIn I.kIn hs).here ?_)))
  refine wpAny_bind (ifBoundBy_K I.kIn J hs hf ?_)
  have run := run_at (Q := fun v H2 => v = .str t ∧ Same H H2) (E := E0) (E2 := X.xe) (vs := [.ref p]) (us := [.ref p]) F hr (env_at I hfr) hb (fun _ _ z => z.elim) I (.cons rfl .nil) hsp
  refine wpAny_mono run (fun v s2 hv => ?_) fun _ _ z => z
  obtain ⟨w, H2, I2, rv, rfl, sm⟩ := hv
  obtain ⟨tk, rfl⟩ := rv
  exact wpAny_bind (wpAny_isInstance (T := "str") (b := true) rfl isSubtype_str_str (wpAny_pure ⟨_, _, rfl, q _ _ I2 sm⟩))
/-- texts, as a tracked list has them -/
theorem strs_done : ∀ {l : List Str} {us : List Value}, Vals (l.map V.str) us → ∃ done : List (Str × Tok), us = strValues done ∧ done.map (·.1) = l
  | [], _, .nil => ⟨[], rfl, rfl⟩
  | z :: l, _, .cons ⟨t, e⟩ r => by
    obtain ⟨done, rfl, e2⟩ := strs_done r
    exact ⟨(z, t) :: done, by rw [e]; rfl, by rw [List.map_cons, e2]⟩
theorem frames_list_loop {A : Around} {l : List Env} {args : Args} (h : A.frames = some l) : (A.under (.builtin "list.__repr__.loop" args)).frames = some l := by
  first | exact h | (simpa [Around.under, Code.envs, Code.isFrame, pushEnvs] using h)
theorem loop_depth {A : Around} {args : Args} : (A.under (.builtin "list.__repr__.loop" args)).depth ≤ A.depth + 1 := by
  first | exact Nat.le_refl _ | (simp [Around.under, Code.weight, Code.isCreation, Code.isGuard, Code.isCaller, Code.frames, Code.isFrame, guardIds])
theorem _root_.L2.Room.list_loop {A : Around} {k : Nat} (r : Room (k + 1) A) (args : Args) : Room k (A.under (.builtin "list.__repr__.loop" args)) :=
  ⟨r.hd, by have := r.dp; have := loop_depth (A := A) (args := args); omega, by have := r.un; rw [units_under_list_loop]; omega⟩
/-- the loop of list.__repr__ -/
theorem loop_own {A : Around} {g : List Code} {pins : List (Addr × Obj)} {σ : L2.St} {a P : Addr} {vs : List V} {ts : List Str} {base : Nat} {R : Result → Shared → Prop} (hfr : A.frames = some X.stack) (hg : A.guards = some g) (hcl : ∀ b ∈ as, Clear g b) (hr : Room (k + 1) A) (hna : a ∉ as)
    (mono : ∀ H H', Same H H' → Pre H → Pre H') (hne : a ≠ P) (hlen : ts.length = vs.length) (hT : ∀ (i : Nat) (v : V), vs[i]? = some v → ∃ t, ts[i]? = some t ∧ ShV X k as Pre v t) (hsz : base + (listText ts).length ≤ sizeLine) (hE : ∀ e s', X.xe e s' → R (.error e) s') :
    ∀ (n i : Nat) (H : Hp) (s : Shared), vs.length - i = n → i ≤ vs.length → Inv X pins σ H s → (∀ H', (∀ p o, p ≠ P → H p = some o → H' p = some o) → Pre H') → H a = some (.lst vs) → H P = some (.lst ((ts.take i).map V.str)) →
    (∀ H' s' u, Inv X pins σ H' s' → (∀ p o, p ≠ P → H p = some o → H' p = some o) → R (.ok (.ret (.str (listText ts) u))) s') →
    codeAny (model X.prog X.w) A (.builtin "list.__repr__.loop" ⟨[.ref a, rawInt i, .ref P, rawInt ((base + piled (ts.take i) : Nat) : Int)], []⟩) R s := by
  have hL := textFrom_len ts 0 "["
  have hX : (listText ts).length = (textFrom 0 "[" ts).length + 1 := by
    show (textFrom 0 "[" ts ++ "]").length = _
    rw [strLen_append]; rfl
  have hsz1 : vs.length ≤ sizeLine := by
    have h1 := hL.1
    rw [if_neg (Nat.lt_irrefl 0)] at h1
    omega
  have hsz2 : ∀ t ∈ ts, t.length ≤ sizeLine := fun t ht => by
    have h2 := hL.2.1 t ht
    omega
  have hsz3 : (listText ts).length ≤ sizeLine := by omega
  have hp3 := piled_le_listText ts
  intro n
  induction n with
  | zero =>
    intro i H s hk hi I pre hA hP q
    obtain ⟨_, its, na, rv, l1, ha⟩ := I.lstM hA
    obtain ⟨_, its2, nc, rv2, l2, hP2⟩ := I.lstM hP
    obtain ⟨done, rfl, hdone⟩ := strs_done rv2
    have hin : i = vs.length := by omega
    refine codeAny_builtin PySem.F.entry_list_repr_loop ?_
    show wpAny _ _ (Builtin.«list.__repr__.loop» ⟨[.ref a, .int i 0, .ref P, .int ((base + piled (ts.take i) : Nat) : Int) 0], []⟩) _ _ s
    rw [repr_loop_tree]
    refine wpAny_bind (wpAny_listItems ha rfl ?_)
    have hnone : its.toArray[(i : Int).toNat]? = none := by simp [hin, l1]
    simp only [hnone]
    unfold reprEnd
    refine wpAny_bind (wpAny_listItems hP2 rfl ?_)
    rw [show (strValues done).toArray.toList = strValues done from rfl, repr_fold]
    refine wpAny_bind (wpAny_pure ?_)
    have hall : done.map (·.1) = ts := by rw [hdone, hin, ← hlen, List.take_length]
    rw [hall]
    refine wpAny_bind (wpAny_mkStr (wpAny_pure ?_) hsz3)
    exact q H _ _ (I.tok _) fun _ _ _ e => e
  | succ n ih =>
    intro i H s hk hi I pre hA hP q
    obtain ⟨_, its, na, rv, l1, ha⟩ := I.lstM hA
    have hlt : i < vs.length := by omega
    obtain ⟨t, ht, hrep⟩ := hT i vs[i] (List.getElem?_eq_getElem hlt)
    obtain ⟨u, hu, rel⟩ := rv.get (List.getElem?_eq_getElem hlt)
    have hp1 := piled_take_succ ht
    have hp2 := piled_take_le ts (i + 1)
    refine codeAny_builtin PySem.F.entry_list_repr_loop ?_
    show wpAny _ _ (Builtin.«list.__repr__.loop» ⟨[.ref a, .int i 0, .ref P, .int ((base + piled (ts.take i) : Nat) : Int) 0], []⟩) _ _ s
    rw [repr_loop_tree]
    refine wpAny_bind (wpAny_listItems ha rfl ?_)
    have hsome : its.toArray[(i : Int).toNat]? = some u := by simpa using hu
    simp only [hsome]
    rw [Int.toNat_natCast]
    have hpre : Pre H := pre H fun _ _ _ e => e
    refine wpAny_bind (wpAny_holding (wpAny_mono (hrep (base + piled (ts.take i) + 1) (by omega) _ _ pins σ H s u (fun t' s' => t' = t ∧ ∃ H', Inv X pins σ H' s' ∧ Same H H') (frames_list_loop hfr) (guards_under_guard (isGuard_list_loop _) hg) (fun b hb => (hcl b hb).cons (a := a) fun e => hna (e ▸ hb)) (hr.list_loop _) I hpre rel fun H' s' I' sm => ⟨rfl, H', I', sm⟩) (fun t' s' hh => ?_) fun e s' z => hE e s' z))
    obtain ⟨rfl, H', I', sm⟩ := hh
    refine wpAny_bind (wpAny_mkStr ?_ (hsz2 t' (List.mem_of_getElem? ht)))
    refine wpAny_bind ?_
    show wpAny _ _ (updateSeq P _) _ _ _
    have hP' := sm _ _ hP
    obtain ⟨_, its2, nc, rv2, l2, hP2⟩ := I'.lstM hP'
    have take_len : (ts.take i).length ≤ i := by rw [List.length_take]; omega
    have asz : its2.toArray.size ≤ sizeLine := by
      rw [List.size_toArray, ← l2, List.length_map]
      omega
    refine wpAny_updateSeq hP2 rfl (wpAny_pure ⟨PySem.F.quiet_list_repr_loop _, ?_⟩) asz
    have e1 : ((i : Int) + 1) = ((i + 1 : Nat) : Int) := by omega
    have e2 : base + piled (ts.take i) + (t'.length + 2) = base + piled (ts.take (i + 1)) := by omega
    rw [e1, e2]
    have e3 : (ts.take i).map V.str ++ [V.str t'] = (ts.take (i + 1)).map V.str := by
      rw [List.take_add_one, ht, List.map_append]
      rfl
    have I2 : Inv X pins σ (upd H' P (.lst ((ts.take (i + 1)).map V.str))) _ := I'.lset (its' := its2 ++ [.str t' s'.toks]) (f := fun xs => xs.push (.str t' s'.toks)) (t' := s'.toks + 1) hP' hP2 (by simp) (by rw [← e3]; exact rv2.append (.cons ⟨_, rfl⟩ .nil)) (by rw [List.length_map, List.length_take]; omega)
    have keepP : ∀ p o, p ≠ P → H p = some o → (upd H' P (.lst ((ts.take (i + 1)).map V.str))) p = some o := fun p o np e => by
      rw [upd_ne np]
      exact sm p o e
    refine ih (i + 1) _ _ (by omega) hlt I2 (fun H2 k2 => pre H2 fun p o np e => k2 p o np (keepP p o np e)) (keepP a _ hne hA) upd_same fun H2 s2 u2 I3 k3 => ?_
    exact q H2 s2 u2 I3 fun p o np e => k3 p o np (keepP p o np e)
/-- repr of a list some of whose items are instances -/
def rReprO (X : Cx) (k : Nat) : List V → Hp → VK → Prop := fun xs H Q => ∃ (a : Addr) (v0 : V) (vr : List V) (ts : List Str) (Pre : Hp → Prop), xs = [.ref a] ∧ H a = some (.lst (v0 :: vr)) ∧ (∀ H H', Same H H' → Pre H → Pre H') ∧ Pre H ∧ ts.length = (v0 :: vr).length ∧
  (∀ (i : Nat) (v : V), (v0 :: vr)[i]? = some v → ∃ t, ts[i]? = some t ∧ ShV X k [] Pre v t) ∧ (listText ts).length ≤ sizeLine ∧ ∀ H', Same H H' → Q (.str (listText ts)) H'
theorem call_reprO (g0 : X.A.guards = some []) (hr : Room (k + 2) X.A) : CallR X (.builtin "repr") (rReprO X k) := by
  intro pins s σ H xs us Q I r h
  obtain ⟨a, v0, vr, ts, Pre, rfl, hA, mono, pre, hlen, hT, hsz, q⟩ := h
  obtain ⟨u, rfl, rx⟩ := vals1 r
  obtain rfl : u = Value.ref a := rx
  obtain ⟨z, its, n, rv, l1, ha⟩ := I.lstM hA
  match its, rv with
  | x :: l, rv =>
  refine call_repr_slot (T := "list") (by have := hr.units; omega) ⟨_, ha, rfl⟩ PySem.F.slot_list_repr.toG ?_
  refine wpAny_call (codeAny_call_builtin PySem.F.slot_list_repr.plain PySem.F.entry_list_repr (PySem.F.slot_list_repr.check _ _ _ _ _ _ _ _ ⟨_, ha, rfl⟩ (PySem.F.args_list_repr_1 _) ?_))
  refine wpAny_list_repr_head (A := X.A.in1.in1) (g := []) (b := 0) g0 (fun v rest kw hm => nomatch hm) ha rfl ?_
  refine wpAny_bind (m := newList []) (wpAny_newObj_type ?_)
  refine wpAny_pure ⟨PySem.F.quiet_list_repr_loop _, ?_⟩
  have I1 := I.lnew (ys := []) (its := []) (t' := s.toks) .nil (Nat.zero_le _)
  have nP : H s.heap.objs.size = none := I.hok.fresh (Nat.le_refl _)
  have neP : a ≠ s.heap.objs.size := ne_of_none hA nP
  have same : ∀ {H' : Hp}, (∀ p o, p ≠ s.heap.objs.size → (upd H s.heap.objs.size (.lst [])) p = some o → H' p = some o) → Same H H' := fun k2 p o e => k2 p o (ne_of_none e nP) (by rw [upd_ne (ne_of_none e nP)]; exact e)
  have pz : piled (ts.take 0) = 0 := rfl
  refine loop_own (X := X) (k := k) (as := []) (Pre := Pre) (A := X.A.in1) (g := []) (pins := pins) (σ := σ) (a := a) (P := s.heap.objs.size) (vs := v0 :: vr) (ts := ts) (base := 0) I.env0.frames g0 (fun b hb => nomatch hb) hr.in1 (fun hb => nomatch hb) mono neP hlen hT (by omega) (fun e s' z => z) _ 0 (upd H s.heap.objs.size (.lst [])) _ rfl (Nat.zero_le _) I1
    (fun H' k2 => mono H H' (same k2) pre) (by rw [upd_ne neP]; exact hA) upd_same fun H' s' u2 I2 k2 => ?_
  exact ⟨_, _, rfl, .str _, H', I2, ⟨u2, rfl⟩, q H' (same k2)⟩
end
end Mz
set_option Elab.async false
set_option linter.all false
set_option maxRecDepth 100000
set_option maxHeartbeats 4000000
/-! repr of a list of a text and a dict of one pair -/
namespace Mz
open PySem PySem.Spec PyProof.Rows L2
def pairText (z : Str) (i : Int) : Str := dictText (List.zipWith (fun k v : Str => k ++ ": " ++ v) [reprText z] [Str.ofString (toString i)])
def twoText (r z : Str) (i : Int) : Str := listText [reprText r, pairText z i]
def rRepr2 : List V → Hp → VK → Prop := fun xs H Q => ∃ (p : Addr) (r : Str) (a : Addr) (z : Str) (i : Int), xs = [.ref p] ∧ H p = some (.lst [.str r, .ref a]) ∧ H a = some (.dK [(.inr z, .int i)]) ∧
  i.natAbs.log2 < 1920 ∧ (reprText r).length ≤ 1000 ∧ (reprText z).length ≤ 1000 ∧ (twoText r z i).length ≤ sizeLine ∧ Q (.str (twoText r z i)) H
theorem call_repr2 {X : Cx} (g0 : X.A.guards = some []) (hu : X.A.units + 64 < cLine) : CallR X (.builtin "repr") rRepr2 := by
  intro pins s σ H xs us Q I rv h
  obtain ⟨p, r, a, z, i, rfl, hp, ha, hi, hr, hz, hsz, q⟩ := h
  obtain ⟨u, rfl, rx⟩ := vals1 rv
  obtain rfl : u = Value.ref p := rx
  have ends : ∀ h' t tk, (∀ b o, s.heap.get? b = some o → h'.get? b = some o) → EP X pins σ Q (.str (twoText r z i) t) { s with heap := h', toks := tk } := fun h' t tk hk => ⟨.str _, H, I.kept hk, ⟨_, rfl⟩, q⟩
  obtain ⟨_, its, n, vl, hl⟩ := (show ObjOk X.prog X.w H s.heap p (.lst [.str r, .ref a]) from I.hok p _ hp)
  obtain ⟨_, hsys, vs, kv, o, es, ep, ho, hx, hd, _, hpair, _⟩ := dk_of I.hok ha
  -- the two items
  match its, vl with
  | [u1, u2], .cons r1 (.cons r2 .nil) =>
  obtain ⟨t1, rfl⟩ := r1
  obtain rfl : u2 = Value.ref a := r2
  -- the one entry
  match vs, kv with
  | [(k2, v2)], .cons ⟨ek, rv2⟩ .nil =>
  obtain ⟨t2, rfl⟩ := rv2
  have ek2 : k2 = Sum.inr z := ek.symm
  subst ek2
  have entry : ∃ e, es.toList = [e] ∧ (∃ t, e.key = .str z t) ∧ e.val = .int i t2 := by
    generalize es.toList = l at hpair ⊢
    cases hpair with
    | cons hk hv hn =>
      cases hn
      obtain ⟨t, et⟩ := Value.isStrOf_shape (x := z) hk
      exact ⟨_, rfl, ⟨t, et⟩, hv⟩
  obtain ⟨e, he, ⟨t3, hkey⟩, hval⟩ := entry
  have kz : ReprK X.prog X.w [] s.heap 0 e.key (reprText z) := by
    rw [hkey]
    exact .of_is (ReprIs.str z t3 (Nat.le_trans hz (by decide))) _ _ _
  have vz : ReprK X.prog X.w [] s.heap 0 e.val (Str.ofString (toString i)) := by
    rw [hval]
    exact .of_is (ReprIs.int t2 hi) _ _ _
  have hE : ReprEntriesK X.prog X.w [] s.heap 0 es.toList (List.zipWith (fun k v : Str => k ++ ": " ++ v) [reprText z] [Str.ofString (toString i)]) := by
    rw [he]
    exact ReprEntriesK.of_two [e] _ _ (.cons kz .nil) (.cons vz .nil)
  have dk : ReprK X.prog X.w [a] s.heap 1 (.ref a) (pairText z i) := ReprK.dict ho hx.1 hd hsys (by simp) hE
  have sk : ReprK X.prog X.w [a] s.heap 1 (.str r t1) (reprText r) := .of_is (ReprIs.str r t1 (Nat.le_trans hr (by decide))) _ _ _
  have npa : p ∉ [a] := by
    intro hm
    rw [List.mem_singleton.mp hm, ha] at hp
    cases hp
  refine call_repr_slot (T := "list") (by omega) ⟨_, hl, rfl⟩ F.slot_list_repr.toG ?_
  refine call_list_reprK (as := [a]) (d := 1) (ts := [reprText r, pairText z i]) hl rfl rfl npa rfl (fun j y hy => ?_) (A := X.A.in1) g0 (fun b _ => Clear.nil b) (by show X.A.units + 1 + 2 < cLine; omega) (fun _ _ z => z) (fun h' t tk hk => ⟨_, _, rfl, ends h' t tk hk⟩) hsz
  match j, hy with
  | 0, hy =>
    cases hy
    exact ⟨_, rfl, sk⟩
  | 1, hy =>
    cases hy
    exact ⟨_, rfl, dk⟩
  | j + 2, hy =>
    exact absurd hy (by simp)
end Mz
set_option Elab.async false
set_option linter.all false
set_option maxRecDepth 100000
set_option maxHeartbeats 4000000
/-! repr of a list of a text and a dict whose values are flat, or lists of a 1 -/
namespace Mz
open PySem PySem.Spec PyProof.Rows L2
def keyT : Key → Str
  | .inl i => Str.ofString (toString i)
  | .inr z => reprText z
def itemT : V → Str
  | .non => PyData.shown .none
  | .bl b => PyData.shown (.bool b)
  | .int i => Str.ofString (toString i)
  | .str z => reprText z
  | _ => listText [Str.ofString (toString (1 : Int))]
/-- a value of such a dict -/
def VOk (qs : List Addr) (H : Hp) (v : V) : Prop := v = .non ∨ (∃ b, v = .bl b) ∨ (∃ i, v = .int i ∧ (i.natAbs.log2 < 1920 ∧ (Str.ofString (toString i)).length ≤ 300)) ∨ (∃ z, v = .str z ∧ (reprText z).length ≤ 300) ∨ ∃ q, v = .ref q ∧ q ∈ qs ∧ H q = some (.lst [.int 1])
def KOk : Key → Prop
  | .inl i => i.natAbs.log2 < 1920 ∧ (Str.ofString (toString i)).length ≤ 300
  | .inr z => (reprText z).length ≤ 300
def entT (kv : Key × V) : Str := keyT kv.1 ++ ": " ++ itemT kv.2
def dkText (r : Str) (kvs : List (Key × V)) : Str := listText [reprText r, dictText (kvs.map entT)]
def rReprDk : List V → Hp → VK → Prop := fun xs H Q => ∃ (p : Addr) (r : Str) (a : Addr) (qs : List Addr) (kvs : List (Key × V)), xs = [.ref p] ∧ H p = some (.lst [.str r, .ref a]) ∧ H a = some (.dK kvs) ∧ p ∉ qs ∧ a ∉ qs ∧ (reprText r).length ≤ 1000 ∧
  (∀ kv ∈ kvs, KOk kv.1 ∧ VOk qs H kv.2) ∧ (dkText r kvs).length ≤ sizeLine ∧ Q (.str (dkText r kvs)) H
section
variable {X : Cx} {pins : List (Addr × Obj)} {σ : L2.St} {H : Hp} {s : Shared} {qs : List Addr}
theorem item_repr (I : Inv X pins σ H s) {v : V} {u : Value} (r : RelV v u) (h : VOk qs H v) : ReprK X.prog X.w qs s.heap 1 u (itemT v) := by
  rcases h with rfl | ⟨b, rfl⟩ | ⟨i, rfl, hi, _⟩ | ⟨z, rfl, hz⟩ | ⟨q, rfl, hq, hH⟩
  · obtain rfl : u = Value.none := r
    exact .of_is (by simpa only [itemT, PyData.shown] using ReprIs.none) _ _ _
  · obtain rfl : u = Value.bool b := r
    exact .of_is (by simpa only [itemT, PyData.shown] using ReprIs.bool b) _ _ _
  · obtain ⟨t, rfl⟩ := r
    exact .of_is (ReprIs.int t hi) _ _ _
  · obtain ⟨t, rfl⟩ := r
    exact .of_is (ReprIs.str z t (Nat.le_trans hz (by decide))) _ _ _
  · obtain rfl : u = Value.ref q := r
    obtain ⟨_, its, n, vl, hl⟩ := (show ObjOk X.prog X.w H s.heap q (.lst [.int 1]) from I.hok q _ hH)
    match its, vl with
    | [u1], .cons r1 .nil =>
    obtain ⟨t1, rfl⟩ := r1
    refine (ReprK.list (as := []) (d := 0) hl rfl rfl (by simp) rfl fun i y hy => ?_).more fun b hb => by
      rw [List.mem_singleton.mp hb]
      exact hq
    match i, hy with
    | 0, hy =>
      cases hy
      exact ⟨_, rfl, .of_is (ReprIs.int t1 (by decide +kernel)) _ _ _⟩
    | i + 1, hy => exact absurd hy (by simp)
theorem key_repr {k : Key} {u : Value} (e : keyIs k u = true) (h : KOk k) : ReprK X.prog X.w qs s.heap 1 u (keyT k) := by
  rcases keyIs_shape e with ⟨i, t, rfl, rfl⟩ | ⟨z, t, rfl, rfl⟩
  · exact .of_is (ReprIs.int t h.1) _ _ _
  · exact .of_is (ReprIs.str z t (Nat.le_trans h (by decide))) _ _ _
end
theorem item_len {qs : List Addr} {H : Hp} {v : V} (h : VOk qs H v) : (itemT v).length ≤ 300 := by
  rcases h with rfl | ⟨b, rfl⟩ | ⟨i, rfl, _, hi⟩ | ⟨z, rfl, hz⟩ | ⟨q, rfl, hq, hH⟩
  · simp only [itemT, PyData.shown]
    decide +kernel
  · cases b <;> simp only [itemT, PyData.shown] <;> decide +kernel
  · exact hi
  · exact hz
  · show (listText [Str.ofString (toString (1 : Int))]).length ≤ 300
    decide +kernel
theorem key_len {k : Key} (h : KOk k) : (keyT k).length ≤ 300 := by
  cases k with
  | inl i => exact h.2
  | inr z => exact h
theorem ent_sum {qs : List Addr} {H : Hp} : ∀ kvs : List (Key × V), (∀ kv ∈ kvs, KOk kv.1 ∧ VOk qs H kv.2) → ((kvs.map entT).map (·.length)).sum ≤ 602 * kvs.length
  | [], _ => Nat.le_refl _
  | kv :: r, h => by
    obtain ⟨h1, h2⟩ := h kv List.mem_cons_self
    have ih := ent_sum r fun x hx => h x (List.mem_cons_of_mem _ hx)
    have e : (entT kv).length = (keyT kv.1).length + 2 + (itemT kv.2).length := by
      show ((keyT kv.1 ++ ": ") ++ itemT kv.2 : Str).length = _
      rw [strLen_append, strLen_append]
      rfl
    have k1 := key_len h1
    have k2 := item_len h2
    rw [List.map_cons, List.map_cons, List.sum_cons, List.length_cons, e]
    omega
theorem dkText_len {qs : List Addr} {H : Hp} {r : Str} {kvs : List (Key × V)} (h : ∀ kv ∈ kvs, KOk kv.1 ∧ VOk qs H kv.2) (hl : kvs.length ≤ 6) (hr : (reprText r).length ≤ 1000) : (dkText r kvs).length ≤ sizeLine := by
  have e1 := ent_sum kvs h
  have e2 := StrLaws.join_length_le ", " (kvs.map entT)
  have e3 : (dictText (kvs.map entT)).length = 1 + (Str.join ", " (kvs.map entT)).length + 1 := by
    unfold dictText
    rw [strLen_append, strLen_append]
    rfl
  have e4 : (dkText r kvs).length = (reprText r).length + (dictText (kvs.map entT)).length + 4 := by
    show ((("[" ++ ((if 0 > 0 then ", " else "" : String) : Str) ++ reprText r) ++ ((if 1 > 0 then ", " else "" : String) : Str) ++ dictText (kvs.map entT)) ++ "]" : Str).length = _
    rw [if_neg (by decide), if_pos (by decide)]
    simp only [strLen_append]
    have f1 : (("[" : String) : Str).length = 1 := by decide +kernel
    have f2 : (("" : String) : Str).length = 0 := by decide +kernel
    have f3 : ((", " : String) : Str).length = 2 := by decide +kernel
    have f4 : (("]" : String) : Str).length = 1 := by decide +kernel
    rw [f1, f2, f3, f4]
    omega
  have e5 : (", " : Str).length = 2 := by decide +kernel
  rw [e5, List.length_map] at e2
  have e6 : 100000 ≤ sizeLine := by decide
  rw [e4, e3]
  omega
theorem call_reprDk {X : Cx} (g0 : X.A.guards = some []) (hu : X.A.units + 64 < cLine) : CallR X (.builtin "repr") rReprDk := by
  intro pins s σ H xs us Q I rv h
  obtain ⟨p, r, a, qs, kvs, rfl, hp, ha, npq, naq, hr, hall, hsz, q⟩ := h
  obtain ⟨u, rfl, rx⟩ := vals1 rv
  obtain rfl : u = Value.ref p := rx
  have ends : ∀ h' t tk, (∀ b o, s.heap.get? b = some o → h'.get? b = some o) → EP X pins σ Q (.str (dkText r kvs) t) { s with heap := h', toks := tk } := fun h' t tk hk => ⟨.str _, H, I.kept hk, ⟨_, rfl⟩, q⟩
  obtain ⟨_, its, n, vl, hl⟩ := (show ObjOk X.prog X.w H s.heap p (.lst [.str r, .ref a]) from I.hok p _ hp)
  obtain ⟨_, hsys, vs, kv, o, es, ep, ho, hx, hd, _, hpair, _⟩ := dk_of I.hok ha
  match its, vl with
  | [u1, u2], .cons r1 (.cons r2 .nil) =>
  obtain ⟨t1, rfl⟩ := r1
  obtain rfl : u2 = Value.ref a := r2
  have ents : ∀ (kvs : List (Key × V)) (vs : List (Key × Value)) (l : List DictEntry), KV kvs vs → Pairs (mixKind X.prog X.w) l vs → (∀ kv ∈ kvs, KOk kv.1 ∧ VOk qs H kv.2) → ReprEntriesK X.prog X.w qs s.heap 1 l (kvs.map entT) := by
    intro kvs
    induction kvs with
    | nil =>
      intro vs l kv pr _
      match vs, kv, l, pr with
      | [], .nil, _, pr =>
        cases pr
        exact .nil
    | cons x kvs ih =>
      intro vs l kv pr hall
      match vs, kv, pr with
      | (k2, v2) :: vs, .cons ⟨ek, rv2⟩ kr, pr =>
        cases pr with
        | @cons en _ es2 _ hk hv hn =>
          obtain ⟨h1, h2⟩ := hall x List.mem_cons_self
          have ek2 : x.1 = k2 := ek
          have hk2 : keyIs x.1 en.key = true := by
            rw [ek2]
            exact hk
          refine .cons (k := keyT x.1) (v := itemT x.2) (key_repr hk2 h1) ?_ (ih vs es2 kr hn fun y hy => hall y (List.mem_cons_of_mem _ hy))
          rw [hv]
          exact item_repr I rv2 h2
  have dk : ReprK X.prog X.w (a :: qs) s.heap 2 (.ref a) (dictText (kvs.map entT)) := ReprK.dict ho hx.1 hd hsys naq (ents kvs vs es.toList kv hpair hall)
  have sk : ReprK X.prog X.w (a :: qs) s.heap 2 (.str r t1) (reprText r) := .of_is (ReprIs.str r t1 (Nat.le_trans hr (by decide))) _ _ _
  have npa : p ∉ a :: qs := by
    intro hm
    rcases List.mem_cons.mp hm with e | e
    · rw [e, ha] at hp
      cases hp
    · exact npq e
  refine call_repr_slot (T := "list") (by omega) ⟨_, hl, rfl⟩ F.slot_list_repr.toG ?_
  refine call_list_reprK (as := a :: qs) (d := 2) (ts := [reprText r, dictText (kvs.map entT)]) hl rfl rfl npa rfl (fun j y hy => ?_) (A := X.A.in1) g0 (fun b _ => Clear.nil b) (by show X.A.units + 1 + 3 < cLine; omega) (fun _ _ z => z) (fun h' t tk hk => ⟨_, _, rfl, ends h' t tk hk⟩) hsz
  match j, hy with
  | 0, hy =>
    cases hy
    exact ⟨_, rfl, sk⟩
  | 1, hy =>
    cases hy
    exact ⟨_, rfl, dk⟩
  | j + 2, hy => exact absurd hy (by simp)
end Mz
set_option Elab.async false
set_option linter.all false
set_option maxRecDepth 100000
set_option maxHeartbeats 4000000
/-! o[i], o an instance with an own __getitem__ that may raise -/
namespace Mz
open PySem PySem.Spec PyProof.Rows L2
def rSubO (C : Addr) (sp : Sp) (E : XK) : R2 := fun x y H Q => ∃ a dx fs, x = .ref a ∧ H a = some (.ins C dx fs) ∧ sp [.ref a, y] H Q E
theorem pe_subS {X : Cx} {CX : CXT} {k : Nat} {f C : Addr} {fd : FuncData} {ps : List Str} {sp : Sp} {E : L2.St → XK} {ea eb : Expr} {ta tb : TE} {pos : Pos} (F : FnOk X.prog X.w X.K X.mg X.base CX k f fd ps sp) (hr : Room (k + 1) X.A) (hb : Binds X.K fd ps [])
    (iG : PySem.W.findIn X.K (.ref C) "__getitem__" = some (some (.ref f))) (fG : PySem.W.fnIn X.K f = true) (jG : PySem.W.isFn X.K (.ref f) = true) (hx : ∀ σ, PassesAt CX X σ (E σ)) (ha : PE X ea ta) (hb2 : PE X eb tb)
    (hs : ∀ (x : Addr) (i : Value), subscripted eb true (.ref x) i = runValue (.builtin "lifetime.subscript" ⟨[.ref x, i], []⟩) := by intro _ _; rfl) :
    PE X (.Subscript ea eb pos) (fun σ H Q => ta σ H fun x H1 => tb σ H1 fun y H2 => rSubO C sp (E σ) x y H2 Q) := by
  refine ⟨fun pins s σ H Q I h => Subscript_ (binT (f := fun v u => subscriptTail ea eb v u) ha hb2 I h fun v u s2 x y H2 I2 rx ry q => ?_)⟩
  obtain ⟨a, dx, fs, rfl, hH, q⟩ := q
  obtain rfl : v = Value.ref a := rx
  obtain ⟨mA, O, _⟩ := ins_get I2.hok hH
  obtain ⟨od, J, _⟩ := O.look
  obtain ⟨m, hF⟩ := I2.fr
  exact PySem.W.sub_K hF I2.ok.mod.kin J iG fG jG (run_at (vs := [.ref a, y]) (us := [.ref a, u]) F hr.in1 I2.env0.in1 hb (fun e s3 z => hx σ pins H2 s2 e s3 I2 z) I2 (.cons rfl (.cons ry .nil)) q) (hs a u)
/-- o.m(e, ..), an own method that may raise; what it raises is wished for at the caller's slots -/
theorem pe_methSS {X : Cx} {CX : CXT} {k : Nat} {f C : Addr} {fd : FuncData} {ps : List Str} {sp : Sp} {E : L2.St → XK} {o e : Expr} {es : List Expr} {ta : TE} {t : TA} {m : Str} {apos pos : Pos} {pl : Sem Bool} (he : PE X o ta) (c : Cls X.K C) (hm : Meth X.K C m f) (F : FnOk X.prog X.w X.K X.mg X.base CX k f fd ps sp) (hr : Room k X.A)
    (hb : Binds X.K fd ps []) (hx : ∀ σ, PassesAt CX X σ (E σ)) (ha : PA X (e :: es) t) (hst : starEach (e :: es) X.env = (false, eval e X.env) :: starEach es X.env := by rfl) (hpl : (backTo pos (starEach es X.env)).any (·.1) = false := by rfl)
    (ht : eval (.Call (.Attribute o m apos) (e :: es) [] pos) X.env = (do
      let ov ← eval o X.env
      standAt apos.atName
      let (f, first) ← holding [ov] (getMethod ov m pl)
      callWith pos f first (backTo pos (starEach (e :: es) X.env)) (backToKw pos (keywordEach [] X.env))) := by rfl) :
    PE X (.Call (.Attribute o m apos) (e :: es) [] pos) (fun σ H Q => ta σ H fun x H1 => ∃ a dx fs, x = .ref a ∧ H1 a = some (.ins C dx fs) ∧ fs.lookup m = none ∧ t σ H1 fun vs H2 => sp (x :: vs) H2 Q (E σ)) := by
  refine ⟨fun pins s σ H Q I h => PySem.W.methodCall_KW (pl := pl) (thn (he.run pins s σ H _ I h) fun u s1 hv => ?_) ht⟩
  obtain ⟨x, H1, I1, rx, a, dx, fs, rfl, ea, l, q⟩ := hv
  obtain rfl : u = Value.ref a := rx
  refine getmeth_ok I1 ea c hm l (PySem.W.callWith_K (first := [.ref a]) (h₀ := X.base) I.ok.mod.kin hm.kp (thn (ha.run pos pins s1 σ H1 _ I1 q) fun us s2 hw => ?_) hst hpl)
  obtain ⟨vs, H2, I2, r, q2⟩ := hw
  exact ⟨I2.kIn, run_fnS (us := .ref a :: us) (vs := .ref a :: vs) F hr hb (hx σ) I2 (.cons rfl r) q2⟩
end Mz
set_option Elab.async false
set_option linter.all false
set_option maxRecDepth 100000
set_option maxHeartbeats 4000000
/-! + and - with an instance of an own class on one side, where the own def may raise -/
namespace Mz
open PySem PySem.Spec PyProof.Rows L2
section
variable {prog : Program} {w : World} {A : Around} {E : Value → Shared → Prop} {s : Shared} {K : PySem.W.Frag} {x C f : Addr} {ox : Obj} {od : Option Obj} {T : String} {op : Operator}
open PySem.W in
/-- the instance is on the left, on the right is a value of a built-in type -/
theorem bin1_type {b : Value} {fo ro rc : Option Value} {Q : Value → Shared → Prop} (X : K.In s.heap) (J : InstAt s.heap x ox C od) (hb : ∀ h : Heap, s.heap = h → Looks (model prog w) h (typeOf b) (.type T)) (first : selfFirst K C = true)
    (own : findIn K (.ref C) (PySem.dunder op.info.2) = some (some (.ref f))) (fn : isFn K (.ref f) = true) (back : findIn K (.ref C) (dunderR op.info.2) = some rc) (how : rc = none ∨ ∃ g : Addr, rc = some (.ref g))
    (t1 : findIn K (.type T) (PySem.dunder op.info.2) = some fo) (t2 : findIn K (.type T) (dunderR op.info.2) = some ro) (low : subIn K (.type T) (.ref C) = some false)
    (run : wpAny (model prog w) A (call (.ref f) [.ref x, b]) (PySem.W.CmpBack Q) E s) : wpAny (model prog w) A (binaryOp1 op.info.2 (.ref x) b) (fun r s2 => ∃ v, r = some v ∧ Q v s2) E s := by
  obtain ⟨cd, rest, hcd, hm⟩ := ksp_first first
  rcases hi : op.info with ⟨sym, nm⟩
  rw [hi] at own back t1 t2
  have tried := ksp_try X J own fn run
  obtain ⟨hp, gn, dp, tk, os⟩ := s
  have K1 : Looks (model prog w) hp (typeOf (.ref x)) (.ref C) := J.type
  have K2 : Looks (model prog w) hp (typeOf b) (.type T) := hb _ rfl
  have K3 : Looks (model prog w) hp (fillsNumberSlot (.ref C) nm) true := fills_K X hcd hm own
  have K4 := ksp_fillsT (M := model prog w) X t1 t2
  have K5 : Looks (model prog w) hp (isSubtype (.type T) (.ref C)) false := looks_subIn X low
  have K6 : Looks (model prog w) hp (numberSlotInPython (.ref C) nm) true := ksp_inPy X own back how
  have K7 : Looks (model prog w) hp (numberSlotInPython (.type T) nm) false := Looks.of_pure rfl
  have K8 : Looks (model prog w) hp (typeLookup (.type T) (dunderR nm)) ro := looks_findIn X t2
  have unlike : (Value.ref C == Value.type T) = false := by
    cases e : (Value.ref C == Value.type T) with
    | false => rfl
    | true => cases beq_iff_eq.mp e
  revert K4
  generalize ((fo.isSome && !isSeqSlot fo) || (ro.isSome && !isSeqSlot ro)) = fills
  intro K4
  have fin : ∀ r s2, (∃ v, r = some v ∧ Q v s2) → wpAny (model prog w) A (pure r) (fun r s3 => ∃ v, r = some v ∧ Q v s3) E s2 := fun r s2 h => wpAny_pure h
  show wpAny (model prog w) A (binaryOp1 nm (.ref x) b) _ E _
  unfold binaryOp1
  refine wpAny_bind (K1.at (wpAny_bind (K2.at (wpAny_bind (K3.at ?_)))))
  simp only [unlike, Bool.false_eq_true, if_false]
  cases fills
  all_goals
    ksp_lk
    refine wpAny_mono tried (fun r s2 hr => ?_) fun _ _ z => z
    obtain ⟨v, rfl, hq⟩ := hr
    ksp_lk
    exact ⟨v, rfl, hq⟩
open PySem.W in
theorem bin_of1 {a b : Value} {Q : Value → Shared → Prop} (h : wpAny (model prog w) A (binaryOp1 op.info.2 a b) (fun r s2 => ∃ v, r = some v ∧ Q v s2) E s) : wpAny (model prog w) A (binaryOp op a b) Q E s := by
  rcases hi : op.info with ⟨sym, nm⟩
  rw [hi] at h
  simp only [binaryOp, hi]
  refine wpAny_holding (wpAny_bind (wpAny_mono h (fun r s2 hr => ?_) fun _ _ z => z))
  obtain ⟨v, rfl, hq⟩ := hr
  exact wpAny_pure hq
/-- a class whose types ahead of object know no += : it goes as + -/
theorem inp_of1 {b : Value} {Q : Value → Shared → Prop} (X : K.In s.heap) (J : PySem.W.InstAt s.heap x ox C od) (hc : (PySem.W.clsIn K C).map (·.mro) = some [.ref C, .type "object"]) (n1 : PySem.W.findIn K (.ref C) (dunderI op.info.2) = some none) (n2 : PySem.W.findIn K (.type "object") (dunderI op.info.2) = some none)
    (h : wpAny (model prog w) A (binaryOp1 op.info.2 (.ref x) b) (fun r s2 => ∃ v, r = some v ∧ Q v s2) E s) : wpAny (model prog w) A (inplaceOp op (.ref x) b) Q E s := by
  obtain ⟨cd, hcd, hm⟩ := Option.map_eq_some_iff.mp hc
  have no : PySem.W.Looks (model prog w) s.heap (fillsInplaceSlot (.ref C) op.info.2 (op == .Add)) false := by
    intro A2 Q2 E2 s2 k q2
    have Lm : PySem.W.Looks (model prog w) s.heap (mroOf (.ref C)) cd.mro := (PySem.W.looks_clsIn X hcd).andThen (f := fun cd => pure cd.mro) .now
    have L1 : PySem.W.Looks (model prog w) s.heap (typeLookup (.ref C) (dunderI op.info.2)) none := PySem.W.looks_findIn X n1
    have L2' : PySem.W.Looks (model prog w) s.heap (typeLookup (.type "object") (dunderI op.info.2)) none := PySem.W.looks_findIn X n2
    have M1 := Lm.keeps k
    have M2 := L1.keeps k
    have M3 := L2'.keeps k
    obtain ⟨hp, gn, dp, tk, os⟩ := s2
    unfold fillsInplaceSlot
    refine wpAny_bind (M1.at ?_)
    rw [hm, List.anyM_cons]
    refine wpAny_bind (wpAny_bind (M2.at (wpAny_pure ?_)))
    rw [if_neg Bool.false_ne_true, List.anyM_cons]
    refine wpAny_bind (wpAny_bind (M3.at (wpAny_pure ?_)))
    exact wpAny_pure q2
  unfold inplaceOp
  refine wpAny_holding (wpAny_bind (J.type.here (wpAny_bind (no.here ?_))))
  simp only [Bool.false_eq_true, if_false]
  refine wpAny_bind (wpAny_mono h (fun r s2 hr => ?_) fun _ _ z => z)
  obtain ⟨v, rfl, hq⟩ := hr
  exact wpAny_pure hq
open PySem.W in
/-- both sides are of the class -/
theorem bin_own {b : Value} {Q : Value → Shared → Prop} (X : K.In s.heap) (J : InstAt s.heap x ox C od) (hb : ∀ h : Heap, s.heap = h → Looks (model prog w) h (typeOf b) (.ref C)) (first : selfFirst K C = true)
    (own : findIn K (.ref C) (PySem.dunder op.info.2) = some (some (.ref f))) (fn : isFn K (.ref f) = true)
    (run : wpAny (model prog w) A (call (.ref f) [.ref x, b]) (PySem.W.CmpBack Q) E s) : wpAny (model prog w) A (binaryOp op (.ref x) b) Q E s := by
  obtain ⟨cd, rest, hcd, hm⟩ := ksp_first first
  rcases hi : op.info with ⟨sym, nm⟩
  rw [hi] at own
  have tried := ksp_try X J own fn run
  obtain ⟨hp, gn, dp, tk, os⟩ := s
  have K1 : Looks (model prog w) hp (typeOf (.ref x)) (.ref C) := J.type
  have K2 : Looks (model prog w) hp (typeOf b) (.ref C) := hb _ rfl
  have K3 : Looks (model prog w) hp (fillsNumberSlot (.ref C) nm) true := fills_K X hcd hm own
  have like : (Value.ref C == Value.ref C) = true := beq_self_eq_true _
  simp only [binaryOp, hi]
  refine wpAny_holding (wpAny_bind ?_)
  unfold binaryOp1
  refine wpAny_bind (K1.at (wpAny_bind (K2.at (wpAny_bind (K3.at ?_)))))
  simp only [like, if_true]
  ksp_lk
  refine wpAny_mono tried (fun r s2 hr => ?_) fun _ _ z => z
  obtain ⟨v, rfl, hq⟩ := hr
  ksp_lk
  exact hq
/-- int.__add__ declines what is an instance -/
theorem add_declines {b : Value} {dx : Addr} {Q : Value → Shared → Prop} (hx : s.heap.get? x = some (PySem.W.instObj C dx)) (hb : (∃ i t, b = .int i t) ∨ ∃ y, b = .bool y) (q : Q .notImplemented s) :
    wpAny (model prog w) A (call (.builtin "int.__add__") [b, .ref x]) Q E s := by
  have body : ∀ (A2 : Around) (E2 : Value → Shared → Prop) (Q2 : Fin → Shared → Prop), Q2 (.done (.ret .notImplemented)) s → wpAny (model prog w) A2 (Builtin.«int.__add__» ⟨[b, .ref x], []⟩) Q2 E2 s := by
    intro A2 E2 Q2 q2
    obtain ⟨hp, gn, dp, tk, os⟩ := s
    rcases hb with ⟨i, t, rfl⟩ | ⟨y, rfl⟩
    all_goals
      unfold Builtin.«int.__add__» Builtin.Int.intBinary
      refine wpAny_bind (m := slotArgs "__add__" 1 _) (wpAny_pure ?_)
      refine wpAny_bind (wpAny_pure ?_)
      refine wpAny_bind ?_
      show wpAny _ _ (asInt? (.ref x)) _ _ _
      unfold asInt?
      refine wpAny_bind (wpAny_load hx ?_)
      refine wpAny_pure ?_
      exact wpAny_bind (wpAny_rule (wpAny_pure q2))
  rcases hb with ⟨i, t, rfl⟩ | ⟨y, rfl⟩
  · exact wpAny_call (codeAny_call_builtin F.slot_int_add.plain F.entry_int_add (F.slot_int_add.check _ _ _ _ _ _ _ _ (typeIs_int s i t) (F.args_int_add_2 _ _) (body _ _ _ q)))
  · exact wpAny_call (codeAny_call_builtin F.slot_bool_add.plain F.entry_int_add (F.slot_bool_add.check _ _ _ _ _ _ _ _ rfl (F.args_int_add_2 _ _) (body _ _ _ q)))
open PySem.W in
/-- an int or a bool on the left, which declines, the instance on the right -/
theorem add_back {b : Value} {dx : Addr} {Q : Value → Shared → Prop} (X : K.In s.heap) (J : InstAt s.heap x ox C od) (hx : s.heap.get? x = some (PySem.W.instObj C dx)) (first : selfFirst K C = true) (own : findIn K (.ref C) (PySem.dunder "add") = some (some (.ref f))) {g : Addr} (back : findIn K (.ref C) (dunderR "add") = some (some (.ref g)))
    (fn : isFn K (.ref g) = true) (lo1 : subIn K (.ref C) (.type "int") = some false) (lo2 : subIn K (.ref C) (.type "bool") = some false) (hb : (∃ i t, b = .int i t) ∨ ∃ y, b = .bool y)
    (run : wpAny (model prog w) A (call (.ref g) [.ref x, b]) (PySem.W.CmpBack Q) E s) : wpAny (model prog w) A (binaryOp .Add b (.ref x)) Q E s := by
  obtain ⟨cd, rest, hcd, hm⟩ := ksp_first first
  have tried := ksp_try X J back fn run
  have no : ∀ {Q2 : Option Value → Shared → Prop}, Q2 none s → wpAny (model prog w) A (tryMethod b (PySem.dunder "add") (.ref x)) Q2 E s := by
    intro Q2 q
    have dec : wpAny (model prog w) A (call (.builtin "int.__add__") [b, .ref x]) (fun v s2 => v = .notImplemented ∧ Q2 none s2) E s := add_declines hx hb ⟨rfl, q⟩
    rcases id hb with ⟨i, t, e⟩ | ⟨y, e⟩
    · have ty : s.TypeIs b "int" := by
        rw [e]
        exact typeIs_int s i t
      exact wpAny_tryMethod_declines ty F.slot_int_add dec
    · have ty : s.TypeIs b "bool" := by
        rw [e]
        exact rfl
      exact wpAny_tryMethod_declines ty F.slot_bool_add dec
  have main : ∀ T : String, typeOf b = pure (.type T) → fillsNumberSlot (.type T) "add" = pure true → subIn K (.ref C) (.type T) = some false → wpAny (model prog w) A (binaryOp .Add b (.ref x)) Q E s := by
    intro T hty hf hlow
    have no2 := @no
    revert tried no2
    obtain ⟨hp, gn, dp, tk, os⟩ := s
    intro tried no2
    have K1 : Looks (model prog w) hp (typeOf b) (.type T) := Looks.of_pure hty
    have K2 : Looks (model prog w) hp (typeOf (.ref x)) (.ref C) := J.type
    have K3 : Looks (model prog w) hp (fillsNumberSlot (.type T) "add") true := Looks.of_pure hf
    have K4 : Looks (model prog w) hp (fillsNumberSlot (.ref C) "add") true := fills_K X hcd hm own
    have K5 : Looks (model prog w) hp (isSubtype (.ref C) (.type T)) false := looks_subIn X hlow
    have K6 : Looks (model prog w) hp (numberSlotInPython (.type T) "add") false := Looks.of_pure rfl
    have unlike : (Value.type T == Value.ref C) = false := by
      cases e : (Value.type T == Value.ref C) with
      | false => rfl
      | true => cases beq_iff_eq.mp e
    simp only [binaryOp, Operator.info]
    refine wpAny_holding (wpAny_bind ?_)
    unfold binaryOp1
    refine wpAny_bind (K1.at (wpAny_bind (K2.at (wpAny_bind (K3.at ?_)))))
    simp only [unlike, Bool.false_eq_true, if_false]
    ksp_lk
    refine no2 ?_
    ksp_lk
    refine wpAny_mono tried (fun r s2 hr => ?_) fun _ _ z => z
    obtain ⟨v, rfl, hq⟩ := hr
    ksp_lk
    exact hq
  rcases id hb with ⟨i, t, rfl⟩ | ⟨y, rfl⟩
  · exact main "int" rfl F.fills_int_add lo1
  · exact main "bool" rfl F.fills_bool_add lo2
end
/-! the rules -/
theorem back_of {X : Cx} {pins : List (Addr × Obj)} {σ : L2.St} {Q : VK} {u : Value} {s : Shared} (h : EP X pins σ Q u s) : PySem.W.CmpBack (EP X pins σ Q) u s := by
  cases u
  case notImplemented =>
    obtain ⟨v, H, I, r, q⟩ := h
    exfalso
    cases v <;> first | exact nomatch r | (obtain ⟨_, e⟩ := r; cases e)
  all_goals exact h
/-- what the class says of a operator's def on its left -/
structure Lty (K : PySem.W.Frag) (C : Addr) (op : Operator) (f : Addr) : Prop where
  first : PySem.W.selfFirst K C = true
  own : PySem.W.findIn K (.ref C) (PySem.dunder op.info.2) = some (some (.ref f))
  fn : PySem.W.isFn K (.ref f) = true
  back : ∃ rc, PySem.W.findIn K (.ref C) (dunderR op.info.2) = some rc ∧ (rc = none ∨ ∃ g : Addr, rc = some (.ref g))
/-- what a built-in type on the right says -/
structure Rty (K : PySem.W.Frag) (C : Addr) (op : Operator) (T : String) : Prop where
  io : ∃ fo, PySem.W.findIn K (.type T) (PySem.dunder op.info.2) = some fo
  ir : ∃ ro, PySem.W.findIn K (.type T) (dunderR op.info.2) = some ro
  sub : PySem.W.subIn K (.type T) (.ref C) = some false
def rLeft (K : PySem.W.Frag) (C : Addr) (op : Operator) (sp : Sp) (E : XK) : R2 := fun x y H Q => ∃ a dx fs, x = .ref a ∧ H a = some (.ins C dx fs) ∧ ((∃ T, TyX K H y (.type T) ∧ Rty K C op T) ∨ TyX K H y (.ref C)) ∧ sp [.ref a, y] H Q E
section
variable {X : Cx} {CX : CXT} {k : Nat} {f C : Addr} {fd : FuncData} {ps : List Str} {sp : Sp} {op : Operator} {E : L2.St → XK} {ea eb : Expr} {ta tb : TE} {pos : Pos}
theorem op_leftS (F : FnOk X.prog X.w X.K X.mg X.base CX k f fd ps sp) (hr : Room k X.A) (hb : Binds X.K fd ps []) (T : Lty X.K C op f) (hx : ∀ σ, PassesAt CX X σ (E σ)) (pins : List (Addr × Obj)) (s : Shared) (σ : L2.St) (H : Hp) (x y : V) (v u : Value) (Q : VK) (I : Inv X pins σ H s) (rx : RelV x v) (ry : RelV y u)
    (h : rLeft X.K C op sp (E σ) x y H Q) : wpAny (model X.prog X.w) X.A (binaryOp op v u) (EP X pins σ Q) X.xe s := by
  obtain ⟨a, dx, fs, rfl, ha, hy, q⟩ := h
  obtain rfl : v = Value.ref a := rx
  obtain ⟨mA, O, _⟩ := ins_get I.hok ha
  obtain ⟨od, J, _⟩ := O.look
  have run : wpAny (model X.prog X.w) X.A (call (.ref f) [.ref a, u]) (PySem.W.CmpBack (EP X pins σ Q)) X.xe s := wpAny_mono (run_fnS (vs := [.ref a, y]) (us := [.ref a, u]) F hr hb (hx σ) I (.cons rfl (.cons ry .nil)) q) (fun _ _ z => back_of z) fun _ _ z => z
  rcases hy with ⟨T2, ty, R⟩ | ty
  · obtain ⟨P, Z, hp, _⟩ := kit_of I ry ty
    obtain ⟨rc, b1, b2⟩ := T.back
    obtain ⟨fo, c1⟩ := R.io
    obtain ⟨ro, c2⟩ := R.ir
    exact bin_of1 (bin1_type I.kIn J (fun h e => by rw [← e]; exact Z.ty _ _ I.kIn hp) T.first T.own T.fn b1 b2 c1 c2 R.sub run)
  · obtain ⟨P, Z, hp, _⟩ := kit_of I ry ty
    exact bin_own I.kIn J (fun h e => by rw [← e]; exact Z.ty _ _ I.kIn hp) T.first T.own T.fn run
theorem pe_leftS {K : PySem.W.Frag} (F : FnOk X.prog X.w X.K X.mg X.base CX k f fd ps sp) (hr : Room k X.A) (hb : Binds X.K fd ps []) (T : Lty K C op f) (hx : ∀ σ, PassesAt CX X σ (E σ)) (ha : PE X ea ta) (hb2 : PE X eb tb) (hK : X.K = K := by rfl) :
    PE X (.BinOp ea op eb pos) (fun σ H Q => ta σ H fun x H1 => tb σ H1 fun y H2 => rLeft K C op sp (E σ) x y H2 Q) := by
  subst hK
  exact ⟨fun pins s σ H Q I h => wpAny_BinOp (binT ha hb2 I h fun v u s2 x y H2 I2 rx ry q => op_leftS F hr hb T hx pins s2 σ H2 x y v u Q I2 rx ry q)⟩
/-- += at a name that holds an instance -/
theorem pip_left (F : FnOk X.prog X.w X.K X.mg X.base CX k f fd ps sp) (hr : Room k X.A) (hb : Binds X.K fd ps []) (T : Lty X.K C op f) (R : Rty X.K C op "int") (hc : (PySem.W.clsIn X.K C).map (·.mro) = some [.ref C, .type "object"]) (n1 : PySem.W.findIn X.K (.ref C) (dunderI op.info.2) = some none) (n2 : PySem.W.findIn X.K (.type "object") (dunderI op.info.2) = some none)
    (hx : ∀ σ, PassesAt CX X σ E0) : InOp X op (fun x y H Q => ∃ a dx fs i, x = .ref a ∧ y = .int i ∧ H a = some (.ins C dx fs) ∧ sp [.ref a, y] H Q E0) := by
  intro pins s σ H x y v u Q I rx ry h
  obtain ⟨a, dx, fs, i, rfl, rfl, ha, q⟩ := h
  obtain rfl : v = Value.ref a := rx
  obtain ⟨mA, O, _⟩ := ins_get I.hok ha
  obtain ⟨od, J, _⟩ := O.look
  have run : wpAny (model X.prog X.w) X.A (call (.ref f) [.ref a, u]) (PySem.W.CmpBack (EP X pins σ Q)) X.xe s := wpAny_mono (run_fnS (E := fun _ => E0) (vs := [.ref a, .int i]) (us := [.ref a, u]) F hr hb (hx σ) I (.cons rfl (.cons ry .nil)) q) (fun _ _ z => back_of z) fun _ _ z => z
  obtain ⟨P, Z, hp, _⟩ := kit_of I ry (.base (.int i))
  obtain ⟨rc, b1, b2⟩ := T.back
  obtain ⟨fo, c1⟩ := R.io
  obtain ⟨ro, c2⟩ := R.ir
  exact inp_of1 I.kIn J hc n1 n2 (bin1_type I.kIn J (fun h e => by rw [← e]; exact Z.ty _ _ I.kIn hp) T.first T.own T.fn b1 b2 c1 c2 R.sub run)
def rBack (C : Addr) (sp : Sp) (E : XK) : R2 := fun x y H Q => ∃ a dx fs, y = .ref a ∧ H a = some (.ins C dx fs) ∧ ((∃ i, x = .int i) ∨ ∃ b, x = .bl b) ∧ sp [.ref a, x] H Q E
/-- int + instance -/
theorem pe_backS {fA : Addr} (F : FnOk X.prog X.w X.K X.mg X.base CX k f fd ps sp) (hr : Room k X.A) (hb : Binds X.K fd ps []) (first : PySem.W.selfFirst X.K C = true) (own : PySem.W.findIn X.K (.ref C) (PySem.dunder "add") = some (some (.ref fA))) (back : PySem.W.findIn X.K (.ref C) (dunderR "add") = some (some (.ref f))) (fn : PySem.W.isFn X.K (.ref f) = true)
    (lo1 : PySem.W.subIn X.K (.ref C) (.type "int") = some false) (lo2 : PySem.W.subIn X.K (.ref C) (.type "bool") = some false) (hx : ∀ σ, PassesAt CX X σ (E σ)) (ha : PE X ea ta) (hb2 : PE X eb tb) :
    PE X (.BinOp ea .Add eb pos) (fun σ H Q => ta σ H fun x H1 => tb σ H1 fun y H2 => rBack C sp (E σ) x y H2 Q) := by
  refine ⟨fun pins s σ H Q I h => wpAny_BinOp (binT ha hb2 I h fun v u s2 x y H2 I2 rx ry q => ?_)⟩
  obtain ⟨a, dx, fs, rfl, hH, hx2, q⟩ := q
  obtain rfl : u = Value.ref a := ry
  obtain ⟨mA, O, _⟩ := ins_get I2.hok hH
  obtain ⟨od, J, _⟩ := O.look
  have run : wpAny (model X.prog X.w) X.A (call (.ref f) [.ref a, v]) (PySem.W.CmpBack (EP X pins σ Q)) X.xe s2 := wpAny_mono (run_fnS (vs := [.ref a, x]) (us := [.ref a, v]) F hr hb (hx σ) I2 (.cons rfl (.cons rx .nil)) q) (fun _ _ z => back_of z) fun _ _ z => z
  refine add_back I2.kIn J O.1 first own back fn lo1 lo2 ?_ run
  rcases hx2 with ⟨i, rfl⟩ | ⟨b, rfl⟩
  · obtain ⟨t, rfl⟩ := rx
    exact .inl ⟨i, t, rfl⟩
  · exact .inr ⟨b, rx⟩
/-- a call that raises nothing here -/
theorem pass_no {σ : L2.St} : PassesAt (L2.CX X.prog X.w) X σ E0 := by
  intro pins H s e s2 I c
  obtain ⟨_, _, _, _, _, _, _, _, _, _, _, _, z⟩ := c
  exact z.elim
end
end Mz
set_option Elab.async false
set_option linter.all false
set_option maxRecDepth 100000
set_option maxHeartbeats 4000000
/-! what an own class says of in -/
namespace Mz
open PySem PySem.Spec PyProof.Rows L2
section
variable {X : Cx} {k : Nat} {f C : Addr} {fd : FuncData} {ps : List Str} {sp : Sp}
theorem op_inO (F : FnOk X.prog X.w X.K X.mg X.base CX0 k f fd ps sp) (hr : Room k X.A) (hb : Binds X.K fd ps []) (hs : PySem.W.findIn X.K (.ref C) "__contains__" = some (some (.ref f))) (hf : PySem.W.isFn X.K (.ref f) = true) :
    OpR X (compareOp .In) (fun x y H Q => ∃ a dx fs, y = .ref a ∧ H a = some (.ins C dx fs) ∧ sp [.ref a, x] H (fun v H2 => ∃ b : Bool, v = .bl b ∧ Q (.bl b) H2) E0) := by
  intro pins s σ H x y v u Q I rx ry h
  obtain ⟨a, dx, fs, rfl, ha, q⟩ := h
  obtain rfl : u = Value.ref a := ry
  obtain ⟨mA, O, _⟩ := ins_get I.hok ha
  obtain ⟨od, J, _⟩ := O.look
  obtain ⟨m, hF⟩ := I.fr
  refine PySem.W.in_K hF I.ok.mod.kin J hs hf (wpAny_mono (run_at (E := E0) (vs := [.ref a, x]) (us := [.ref a, v]) F hr I.env0 hb (fun _ _ z => z.elim) I (.cons rfl (.cons rx .nil)) q) (fun r s2 hv => ?_) fun _ _ z => z)
  obtain ⟨v, H2, I2, rv, b, rfl, q2⟩ := hv
  obtain rfl : r = Value.bool b := rv
  exact wpAny_truthy_bool ⟨.bl b, H2, I2, rfl, q2⟩
end
end Mz
set_option Elab.async false
set_option linter.all false
set_option maxRecDepth 100000
set_option maxHeartbeats 4000000
/-! == and != of two tuples (dict, int), == of two dicts of ints: whichever way it goes -/
namespace Mz
open PySem PySem.Spec PyProof.Rows L2
open PySem.SeqAt (EqIn)
open PySem.AutoSeq1 (wpAny_loadPart')
section
variable {prog : Program} {w : World}
theorem tup2_ne (l b : Addr) (u1 u2 w1 w2 : Value) (n n2 : Nat) (dd dd2 : Option Addr) (sl sl2 : Array (Option Value)) (e1 e2 : Bool) :
    MeetsIn prog w (Builtin.«tuple.__ne__» ⟨[.ref l, .ref b], []⟩)
      (fun A R s => s.heap.get? l = some { cls := .type "tuple", dict := dd, data := .seq #[u1, u2] n, slots := sl } ∧ s.heap.get? b = some { cls := .type "tuple", dict := dd2, data := .seq #[w1, w2] n2, slots := sl2 } ∧
        EqIn prog w A.in1 s u1 w1 e1 ∧ EqIn prog w A.in1 s u2 w2 e2 ∧ R (.ok (.ret (.bool (!(e1 && e2))))) s) :=
  .of_wp fun A R s h => by
    obtain ⟨hp, g, d, tk, os⟩ := s
    obtain ⟨hl, hb, h1, h2, h⟩ := h
    have f2 := AutoSeq1.sub_tuple_tuple
    have k1 : ∀ (E : Value → Shared → Prop) (Q : Bool → Shared → Prop), Q e1 ⟨hp, g, d, tk, os⟩ → wpAny (model prog w) A.in1 (eqBool u1 w1) Q E ⟨hp, g, d, tk, os⟩ := h1
    have k2 : ∀ (E : Value → Shared → Prop) (Q : Bool → Shared → Prop), Q e2 ⟨hp, g, d, tk, os⟩ → wpAny (model prog w) A.in1 (eqBool u2 w2) Q E ⟨hp, g, d, tk, os⟩ := h2
    cases e1 with
    | false =>
      wp_walk using wpAny_loadPart' hl, wpAny_loadPart' hb, k1 _ _
      exact ⟨_, rfl, h⟩
    | true =>
      cases e2 with
      | false =>
        wp_walk using wpAny_loadPart' hl, wpAny_loadPart' hb, k1 _ _, k2 _ _
        exact ⟨_, rfl, h⟩
      | true =>
        wp_walk using wpAny_loadPart' hl, wpAny_loadPart' hb, k1 _ _, k2 _ _
        exact ⟨_, rfl, h⟩
end
/-- the dicts hold the same -/
def eqDV (ks ls : List (Key × V)) : Bool := (ks.length == ls.length) && ks.all fun p => decide (valV ls p.1 = some p.2)
def AllI (ks : List (Key × V)) : Prop := ∀ p ∈ ks, ∃ n, p.2 = V.int n
theorem valV_mem {ks : List (Key × V)} {k : Key} {v : V} (h : valV ks k = some v) : ∃ p ∈ ks, p.1 = k ∧ p.2 = v := by
  unfold valV at h
  cases e : ks.find? fun kv => decide (kv.1 = k) with
  | none =>
    rw [e] at h
    cases h
  | some p =>
    rw [e] at h
    exact ⟨p, List.mem_of_find?_eq_some e, of_decide_eq_true (by simpa using List.find?_some e), Option.some.inj h⟩
theorem valV_self : ∀ {ks : List (Key × V)}, (ks.map (·.1)).Nodup → ∀ p ∈ ks, valV ks p.1 = some p.2
  | q :: r, nd, p, hp => by
    rw [List.map_cons, List.nodup_cons] at nd
    rcases List.mem_cons.mp hp with rfl | hp
    · exact valV_pos rfl
    · rw [valV_neg fun e => nd.1 (by rw [e]; exact List.mem_map_of_mem hp)]
      exact valV_self nd.2 p hp
theorem eqDV_self {ks : List (Key × V)} (nd : (ks.map (·.1)).Nodup) : eqDV ks ks = true := by
  unfold eqDV
  rw [beq_self_eq_true, Bool.true_and, List.all_eq_true]
  exact fun p hp => decide_eq_true (valV_self nd p hp)
section
variable {X : Cx} {pins : List (Addr × Obj)} {σ : L2.St} {H : Hp} {s : Shared}
theorem hits_ints {prog : Program} {w : World} {A : Around} {ls : List (Key × V)} {vb : List (Key × Value)} (rb : KV ls vb) (il : AllI ls) {ks : List (Key × V)} {va : List (Key × Value)} (ra : KV ks va) :
    AllI ks → PySem.W.KeqHitsIn prog w A s vb va (ks.all fun p => decide (valV ls p.1 = some p.2)) := by
  unfold KV at ra
  induction ra with
  | nil => exact fun _ => .nil
  | @cons p q ps qs h t ih =>
    intro hi
    obtain ⟨h1, h2⟩ := h
    obtain ⟨key, v⟩ := q
    have hk : p.1 = key := h1
    obtain ⟨n, en⟩ := hi p List.mem_cons_self
    have h2 : RelV p.2 v := h2
    rw [en] at h2
    obtain ⟨t1, rfl⟩ := h2
    have rr := rb.val p.1
    rw [List.all_cons]
    cases e : valV ls p.1 with
    | none =>
      rw [e] at rr
      rw [decide_eq_false (fun x => nomatch x), Bool.false_and]
      refine .miss ?_
      rw [← hk]
      cases x : valueAt vb p.1 with
      | none => rfl
      | some y =>
        rw [x] at rr
        exact absurd rr (fun z => nomatch z)
    | some u =>
      rw [e] at rr
      obtain ⟨y, hy, ry⟩ := RelO.some_of rr
      obtain ⟨m, em⟩ : ∃ m, u = .int m := by
        obtain ⟨q, hq, _, e2⟩ := valV_mem e
        obtain ⟨m, em⟩ := il q hq
        exact ⟨m, by rw [← e2, em]⟩
      subst em
      obtain ⟨t2, rfl⟩ := ry
      have hd : decide (some (V.int m) = some p.2) = (n == m) := by
        rw [en]
        by_cases x : m = n
        · rw [x]
          simp
        · rw [decide_eq_false (fun z => x (V.int.inj (Option.some.inj z)))]
          exact (beq_false_of_ne fun z => x z.symm).symm
      rw [hd]
      exact .hit (by rw [← hk]; exact hy) ((SeqAt.EqAt.int_int _ _ _ _).inModel prog w) (ih fun z hz => hi z (List.mem_cons_of_mem _ hz))
theorem dict_eqIn (I : Inv X pins σ H s) {A : Around} (hu : A.units + 1 < cLine) {a b : Addr} {ks ls : List (Key × V)} (ea : H a = some (.dK ks)) (eb : H b = some (.dK ls)) (ia : AllI ks) (ib : AllI ls) (nd : (ks.map (·.1)).Nodup) :
    EqIn X.prog X.w A s (.ref a) (.ref b) (eqDV ks ls) := by
  by_cases x : a = b
  · subst x
    rw [ea] at eb
    cases eb
    rw [eqDV_self nd]
    exact (SeqAt.EqAt.same _).inModel _ _
  · obtain ⟨_, ya, va, ra, da⟩ := (show ObjOk X.prog X.w H s.heap a (.dK ks) from I.hok a _ ea)
    obtain ⟨_, yb, vb, rb, db⟩ := (show ObjOk X.prog X.w H s.heap b (.dK ls) from I.hok b _ eb)
    refine SeqAt.EqIn.of_refs x fun E Q hq => PySem.W.keq_eqIn (knd := mixKind X.prog X.w) ya yb da db (by omega) (fun _ => hits_ints rb ib ra ia) ?_
    unfold eqDV at hq
    rw [ra.length, rb.length] at hq
    exact hq
def rEqDI : R2 := fun x y H Q => ∃ a b ks ls, x = .ref a ∧ y = .ref b ∧ H a = some (.dK ks) ∧ H b = some (.dK ls) ∧ AllI ks ∧ AllI ls ∧ Q (.bl (eqDV ks ls)) H
theorem op_eqDI (hu : X.A.units + 1 < cLine) : OpR X (compareOp .Eq) rEqDI := by
  intro pins s σ H x y v u Q I rx ry h
  obtain ⟨a, b, ks, ls, rfl, rfl, ea, eb, ia, ib, q⟩ := h
  obtain rfl : v = Value.ref a := rx
  obtain rfl : u = Value.ref b := ry
  obtain ⟨_, ya, va, ra, da⟩ := (show ObjOk X.prog X.w H s.heap a (.dK ks) from I.hok a _ ea)
  obtain ⟨_, yb, vb, rb, db⟩ := (show ObjOk X.prog X.w H s.heap b (.dK ls) from I.hok b _ eb)
  refine PySem.W.keq_eqIn (knd := mixKind X.prog X.w) ya yb da db (by omega) (fun _ => hits_ints rb ib ra ia) ⟨.bl (eqDV ks ls), H, I, ?_, q⟩
  show Value.bool _ = Value.bool _
  unfold eqDV
  rw [ra.length, rb.length]
def rTD (f : Bool → Bool) : R2 := fun x y H Q => ∃ a b d e ks ls i j, x = .ref a ∧ y = .ref b ∧ H a = some (.tup [.ref d, .int i]) ∧ H b = some (.tup [.ref e, .int j]) ∧ H d = some (.dK ks) ∧ H e = some (.dK ls) ∧ AllI ks ∧ AllI ls ∧ (ks.map (·.1)).Nodup ∧ Q (.bl (f (eqDV ks ls && decide (i = j)))) H
theorem int_deq {i j : Int} : (i == j) = decide (i = j) := rfl
theorem op_eqTD (hu : X.A.units + 64 < cLine) : OpR X (compareOp .Eq) (rTD fun b => b) := by
  intro pins s σ H x y v u Q I rx ry h
  obtain ⟨a, b, d, e, ks, ls, i, j, rfl, rfl, ha, hb, hd, he, ia, ib, nd, q⟩ := h
  obtain rfl : v = Value.ref a := rx
  obtain rfl : u = Value.ref b := ry
  obtain ⟨us, r1, p1, _⟩ := I.tuple (SqT.of ha)
  obtain ⟨ws, r2, p2, _⟩ := I.tuple (SqT.of hb)
  obtain ⟨x1, x2, rfl, e1, ⟨t1, rfl⟩⟩ := vals2 r1
  obtain ⟨y1, y2, rfl, e2, ⟨t2, rfl⟩⟩ := vals2 r2
  obtain rfl : x1 = Value.ref d := e1
  obtain rfl : y1 = Value.ref e := e2
  refine SeqAt.rcIn_tuples (e := fun n => if n = 0 then eqDV ks ls else (i == j)) p1 p2 (by omega) (fun n h1 h2 => ?_) ⟨.bl (eqDV ks ls && decide (i = j)), H, I, ?_, q⟩
  · match n, h1, h2 with
    | 0, _, _ => exact dict_eqIn I (by show X.A.units + 1 + 1 < cLine; omega) hd he ia ib nd
    | 1, _, _ => exact (SeqAt.EqAt.int_int _ _ _ _).inModel _ _
    | n + 2, h1, _ => exact absurd h1 (by simp)
  · show Value.bool _ = Value.bool _
    simp [List.range_succ]
    rfl
theorem op_neTD (hu : X.A.units + 64 < cLine) : OpR X (compareOp .NotEq) (rTD fun b => !b) := by
  intro pins s σ H x y v u Q I rx ry h
  obtain ⟨a, b, d, e, ks, ls, i, j, rfl, rfl, ha, hb, hd, he, ia, ib, nd, q⟩ := h
  obtain rfl : v = Value.ref a := rx
  obtain rfl : u = Value.ref b := ry
  obtain ⟨us, r1, p1, _⟩ := I.tuple (SqT.of ha)
  obtain ⟨ws, r2, p2, _⟩ := I.tuple (SqT.of hb)
  obtain ⟨x1, x2, rfl, e1, ⟨t1, rfl⟩⟩ := vals2 r1
  obtain ⟨y1, y2, rfl, e2, ⟨t2, rfl⟩⟩ := vals2 r2
  obtain rfl : x1 = Value.ref d := e1
  obtain rfl : y1 = Value.ref e := e2
  obtain ⟨⟨cls, dd, data, sl⟩, ho, hc, n, hdt⟩ := id p1
  obtain ⟨⟨cls2, dd2, data2, sl2⟩, ho2, hc2, n2, hdt2⟩ := id p2
  simp only at hc hdt hc2 hdt2
  subst hc hdt hc2 hdt2
  refine PySem.W.cmp_ofNotEq (wpAny_richCompare_same_room (T := "tuple") (op := .NotEq) ⟨_, ho, rfl⟩ ⟨_, ho2, rfl⟩ F.slot_tuple_ne (call_meetsIn F.slot_tuple_ne ⟨_, ho, rfl⟩ F.entry_tuple_ne (F.args_tuple_ne_2 _ _) (tup2_ne a b _ _ _ _ n n2 dd dd2 sl sl2 (eqDV ks ls) (i == j))
    ⟨ho, ho2, dict_eqIn I (by show X.A.units + 1 + 1 < cLine; omega) hd he ia ib nd, (SeqAt.EqAt.int_int _ _ _ _).inModel _ _, (show Value.bool _ ≠ Value.notImplemented ∧ _ from ⟨(fun x => nomatch x), .bl (!(eqDV ks ls && decide (i = j))), H, I, rfl, q⟩)⟩) (by omega))
end
end Mz
set_option Elab.async false
set_option linter.all false
set_option maxRecDepth 100000
set_option maxHeartbeats 4000000
/-! sets over any kind of keys that keep what a walk wants; set comprehensions and sorted of texts -/
namespace Mz
open PySem PySem.Spec PyProof.Rows L2
/-- the values of a key kind, and the key that a value has -/
structure KeyIn {P : Program} {w : World} {α : Type} [DecidableEq α] (κ : PySem.KeyKind P w α) (ok : Value → Prop) (rd : Value → α) : Prop where
  self : ∀ v, ok v → κ.is (rd v) v = true
  scan : ∀ v, ok v → v.scannable = true
section
variable {P : Program} {w : World} {α : Type} [DecidableEq α]
/-- the set at a: which keys are in it, how many -/
def SetG (κ : PySem.KeyKind P w α) (ok : Value → Prop) (rd : Value → α) (h : Heap) (a : Addr) (S : α → Bool) (n : Nat) : Prop :=
  ∃ (ob : Obj) (ents : Array (Int × Value)) (age : Nat) (tab : SetTable), h.get? a = some ob ∧ ob.ExactSet ∧ ob.data = .set ents age tab ∧ (∀ e ∈ ents.toList, ok e.2 ∧ e.1 = κ.hash (rd e.2)) ∧
    (ents.toList.map fun e => rd e.2).Nodup ∧ (∀ k, S k = true ↔ k ∈ ents.toList.map fun e => rd e.2) ∧ ents.size < scanBound ∧ tab.fits ents.size = true ∧ ents.size = n ∧ Ris tab.place.toList ∧
    (w.params.followText "set-order" = true ∨ tab.led = true)
variable {κ : PySem.KeyKind P w α} {ok : Value → Prop} {rd : Value → α}
theorem SetG.at {h h' : Heap} {a : Addr} {S : α → Bool} {n : Nat} (R : SetG κ ok rd h a S n) (keep : ∀ o, h.get? a = some o → h'.get? a = some o) : SetG κ ok rd h' a S n := by
  obtain ⟨ob, ents, age, tab, hob, more⟩ := R
  exact ⟨ob, ents, age, tab, keep ob hob, more⟩
theorem elems_in (k : KeyIn κ ok rd) {l : List (Int × Value)} (g : ∀ e ∈ l, ok e.2 ∧ e.1 = κ.hash (rd e.2)) : ElemsOf κ l :=
  fun e he => ⟨⟨rd e.2, k.self _ (g e he).1, (g e he).2⟩, k.scan _ (g e he).1⟩
theorem mem_in (ki : KeyIn κ ok rd) {l : List (Int × Value)} (g : ∀ e ∈ l, ok e.2 ∧ e.1 = κ.hash (rd e.2)) (k : α) : (k ∈ l.map fun e => rd e.2) ↔ ∃ e ∈ l, κ.is k e.2 = true := by
  constructor
  · intro h
    obtain ⟨e, he, rfl⟩ := List.mem_map.mp h
    exact ⟨e, he, ki.self _ (g e he).1⟩
  · rintro ⟨e, he, hk⟩
    exact List.mem_map.mpr ⟨e, he, κ.inj e.2 _ _ (ki.self _ (g e he).1) hk⟩
theorem SetG.setOf (ki : KeyIn κ ok rd) {h : Heap} {a : Addr} {S : α → Bool} {n : Nat} (R : SetG κ ok rd h a S n) : h.SetOf κ a S n := by
  obtain ⟨ob, ents, age, tab, h1, h2, h3, g, _, hm, h4, h5, h6, _⟩ := R
  exact ⟨ob, ents, age, tab, h1, h2, h3, elems_in ki g, fun k => (hm k).trans (mem_in ki g k), h4, h5, h6⟩
/-- a new set -/
theorem setG_fresh {h : Heap} : SetG κ ok rd (h.push { cls := .type "set", dict := none, data := .set #[] 0 (.fresh 0 0 (!w.params.followText "set-order")) }) h.objs.size (fun _ => false) 0 := by
  refine ⟨_, #[], 0, _, Heap.get?_push_size _ rfl, ⟨rfl, rfl, rfl⟩, rfl, (fun e he => absurd he (by simp)), by simp, fun k => by simp, by decide, by rfl, rfl, List.Pairwise.nil, ?_⟩
  show _ ∨ (!w.params.followText "set-order") = true
  cases w.params.followText "set-order" <;> simp
variable {A : Around} {E : Value → Shared → Prop} {s : Shared} {a : Addr} {S : α → Bool} {n : Nat}
theorem stored {h : Heap} {ob : Obj} {e1 e2 : Array (Int × Value)} {age : Nat} {t1 t2 : SetTable} (hob : h.get? a = some ob) (hd : ob.data = .set e1 age t1) : (h.update a (Obj.putSet e2 t2)).get? a = some { ob with data := .set e2 (age + 1) t2 } :=
  PpSet.storeB_at hob hd
/-- what stands behind an entry that was laid: stored, and laid anew where the table is too full -/
theorem laid_tail {say : Bool → Sem Unit} (hsay : ∀ (b : Bool) (s1 : Shared) (Q1 : Unit → Shared → Prop), Q1 () s1 → wpAny (model P w) A (say b) Q1 E s1) {ob : Obj} {old : Array (Int × Value)} {age : Nat} {told : SetTable} (hob : s.heap.get? a = some ob)
    (hex : ob.ExactSet) (hd : ob.data = .set old age told) {ents : Array (Int × Value)} {tab : SetTable} {S2 : α → Bool} (g : ∀ e ∈ ents.toList, ok e.2 ∧ e.1 = κ.hash (rd e.2)) (nd : (ents.toList.map fun e => rd e.2).Nodup)
    (hm : ∀ k, S2 k = true ↔ k ∈ ents.toList.map fun e => rd e.2) (hb : ents.size < scanBound) (hf : tab.fits ents.size = true) (hr : Ris tab.place.toList) (hl : w.params.followText "set-order" = true ∨ tab.led = true) {dummy : Bool} {R : Option Bool → Shared → Prop}
    (hR : ∀ h2, Heap.SameBut a s.heap h2 → SetG κ ok rd h2 a S2 ents.size → R (some true) { s with heap := h2 }) :
    wpAny (model P w) A (do
        storeSet a ents tab
        if (!dummy && tab.tooFull) = true then do
            say (relayAll tab ents (SetTable.grown ents.size)).2.2
            storeSet a (relayAll tab ents (SetTable.grown ents.size)).1 (relayAll tab ents (SetTable.grown ents.size)).2.1
            pure (some true)
          else pure (some true)) R E s := by
  have once := Heap.SameBut.update s.heap a (Obj.putSet ents tab)
  have put1 := stored (e2 := ents) (t2 := tab) hob hd
  refine wpAny_bind (wpAny_storeSet_of hob hd ?_ (fits_of_scanBound hb))
  by_cases full : (!dummy && tab.tooFull) = true
  · rw [if_pos full]
    have q1 := relayAll_perm tab ents (SetTable.grown ents.size)
    have q2 := relayAll_fits tab ents (SetTable.grown ents.size)
    have q3 := relayAll_ris tab ents (SetTable.grown ents.size)
    have q4 := relayAll_led tab ents (SetTable.grown ents.size)
    generalize relayAll tab ents (SetTable.grown ents.size) = T at q1 q2 q3 q4 ⊢
    have size2 : T.1.size = ents.size := by rw [← Array.length_toList, q1.length_eq, Array.length_toList]
    refine wpAny_bind (hsay _ _ _ (wpAny_bind (wpAny_storeSet_of put1 rfl (wpAny_pure (hR _ (once.trans (Heap.SameBut.update _ a _)) ?_)) (fits_of_scanBound (by rw [size2]; exact hb)))))
    refine ⟨_, T.1, _, T.2.1, stored (e2 := T.1) (t2 := T.2.1) put1 rfl, hex, rfl, fun e he => g e (q1.mem_iff.mp he), ((q1.map fun e => rd e.2).nodup_iff).mpr nd, fun k => (hm k).trans ((q1.map fun e => rd e.2).mem_iff).symm, by rw [size2]; exact hb, q2, size2, q3, ?_⟩
    rw [q4]
    exact hl
  · rw [if_neg full]
    exact wpAny_pure (hR _ once ⟨_, ents, _, tab, put1, hex, rfl, g, nd, hm, hb, hf, rfl, hr, hl⟩)
/-- an entry laid into the set -/
theorem setG_add_hashed (ki : KeyIn κ ok rd) {v : Value} (hv : ok v) {Q : Bool → Shared → Prop} (R : SetG κ ok rd s.heap a S n) (room : n + 1 < scanBound)
    (hQ : ∀ h2, Heap.SameBut a s.heap h2 → SetG κ ok rd h2 a (fun j => S j || decide (j = rd v)) (if S (rd v) = true then n else n + 1) → Q (!S (rd v)) { s with heap := h2 }) : wpAny (model P w) A (setAddHashed a v (κ.hash (rd v))) Q E s := by
  obtain ⟨ob, ents, age, tab, hob, hex, hd, g, nd, hm, hb, hf, hn, hr, hl⟩ := R
  have isv : κ.is (rd v) v = true := ki.self v hv
  have sv : v.scannable = true := ki.scan v hv
  have els : ElemsOf κ ents.toList := elems_in ki g
  unfold setAddHashed setAddHashedIn
  refine wpAny_holding (wpAny_bind (wpAny_setState_of hob hd hf ?_))
  dsimp only
  rw [byScan_of sv hb els]
  simp only [↓reduceIte]
  unfold setAddByScan
  refine wpAny_bind (wpAny_bind (wpAny_rule (wpAny_bind (wpAny_setScan_of isv hob hd hf els ?_))))
  cases hit : List.findIdx? (fun e => κ.is (rd v) e.2) ents.toList with
  | some j =>
    obtain ⟨lj, pj, _⟩ := List.findIdx?_eq_some_iff_getElem.mp hit
    have inS : S (rd v) = true := (hm _).2 ((mem_in ki g _).2 ⟨ents.toList[j], List.getElem_mem lj, pj⟩)
    have z := hQ s.heap (Heap.SameBut.refl a s.heap) ⟨ob, ents, age, tab, hob, hex, hd, g, nd, fun i => by
      rw [← hm i, Bool.or_eq_true, decide_eq_true_eq]
      exact ⟨fun q => q.elim id fun e => by rw [e]; exact inS, Or.inl⟩, hb, hf, by rw [if_pos inS]; exact hn, hr, hl⟩
    rw [inS] at z
    exact wpAny_pure (wpAny_pure z)
  | none =>
    dsimp only
    have out : rd v ∉ ents.toList.map fun e => rd e.2 := fun q => by
      obtain ⟨e, he, hk⟩ := (mem_in ki g _).1 q
      rw [List.findIdx?_eq_none_iff.mp hit e he] at hk
      exact Bool.false_ne_true hk
    have outS : S (rd v) = false := Bool.eq_false_iff.mpr fun q => out ((hm _).1 q)
    have q1 := layNew_perm tab ents (κ.hash (rd v)) v
    have q2 := layNew_fits tab ents (κ.hash (rd v)) v
    have q3 := layNew_ris tab ents (κ.hash (rd v)) v hr
    have q4 := layNew_led tab ents (κ.hash (rd v)) v
    generalize layNew tab ents (κ.hash (rd v)) v = T at q1 q2 q3 q4 ⊢
    obtain ⟨en2, tab2, dummy, gave⟩ := T
    dsimp only at q1 q2 q3 q4 ⊢
    rw [Array.toList_push] at q1
    have pc : en2.toList.Perm ((κ.hash (rd v), v) :: ents.toList) := q1.trans (List.perm_append_singleton _ _)
    have pk : (en2.toList.map fun e => rd e.2).Perm (rd v :: ents.toList.map fun e => rd e.2) := pc.map fun e => rd e.2
    have g2 : ∀ e ∈ en2.toList, ok e.2 ∧ e.1 = κ.hash (rd e.2) := fun e he => by
      rcases List.mem_cons.mp (pc.mem_iff.mp he) with rfl | q
      · exact ⟨hv, rfl⟩
      · exact g e q
    have nd2 : (en2.toList.map fun e => rd e.2).Nodup := pk.nodup_iff.mpr (List.nodup_cons.mpr ⟨out, nd⟩)
    have m2 : ∀ i, (S i || decide (i = rd v)) = true ↔ i ∈ en2.toList.map fun e => rd e.2 := fun i => by
      rw [pk.mem_iff, List.mem_cons, ← hm i, Bool.or_eq_true, decide_eq_true_eq]
      exact Or.comm
    have sz : en2.size = n + 1 := by rw [← Array.length_toList, pc.length_eq, List.length_cons, Array.length_toList, hn]
    have b2 : en2.size < scanBound := by rw [sz]; exact room
    have led2 : w.params.followText "set-order" = true ∨ tab2.led = true := by rw [q4]; exact hl
    have done : ∀ h2, Heap.SameBut a s.heap h2 → SetG κ ok rd h2 a (fun j => S j || decide (j = rd v)) en2.size → Q true { s with heap := h2 } := fun h2 sb r => by
      have z := hQ h2 sb
      rw [outS, if_neg Bool.false_ne_true, ← sz] at z
      exact z r
    have say : ∀ (b : Bool) (s1 : Shared) (Q1 : Unit → Shared → Prop), Q1 () s1 → wpAny (model P w) A (match b with | true => rule "set.scan.the-table-gave-way" | false => pure ()) Q1 E s1 := fun b s1 Q1 q => by
      cases b with
      | true => exact wpAny_rule q
      | false => exact wpAny_pure q
    refine wpAny_bind (say _ _ _ ?_)
    split
    · refine wpAny_bind ?_
      rw [hashByValue_scannable 8 sv]
      refine wpAny_pure (laid_tail ?_ hob hex hd g2 nd2 m2 b2 ?_ ?_ ?_ fun h2 sb r => ?_)
      · exact fun b s1 Q1 q => by cases b <;> first | exact wpAny_rule q | exact wpAny_pure q
      · first | exact q2 | (split <;> first | exact q2 | exact SetTable.fits_plain_off q2)
      · first | exact q3 | (split <;> exact q3)
      · first | exact led2 | (split <;> exact led2)
      · dsimp only
        exact wpAny_pure (done h2 sb r)
    · refine wpAny_bind (wpAny_pure ?_)
      simp only [↓reduceIte]
      refine laid_tail ?_ hob hex hd g2 nd2 m2 b2 q2 q3 led2 fun h2 sb r => ?_
      · exact fun b s1 Q1 q => by cases b <;> first | exact wpAny_rule q | exact wpAny_pure q
      · dsimp only
        exact wpAny_pure (done h2 sb r)
theorem setG_add (ki : KeyIn κ ok rd) {v : Value} (hv : ok v) {Q : Value → Shared → Prop} (R : SetG κ ok rd s.heap a S n) (room : n + 1 < scanBound)
    (hQ : ∀ h2, Heap.SameBut a s.heap h2 → SetG κ ok rd h2 a (fun j => S j || decide (j = rd v)) (if S (rd v) = true then n else n + 1) → Q .none { s with heap := h2, toks := s.toks + 1 }) :
    wpAny (model P w) A (call (.builtin "set.add") [.ref a, v]) Q E s := by
  refine wpAny_call_entry F.slot_set_add (R.setOf ki).typeIs F.entry_set_add ?_ (F.args_set_add_2 _ _)
  unfold Builtin.«set.add» Builtin.Frozenset.oneOther Builtin.Frozenset.addrOf
  simp only [List.isEmpty_nil, bind_assoc]
  refine wpAny_bind (wpAny_pure ?_)
  try dsimp only
  unfold setAdd
  refine wpAny_bind (wpAny_pure ?_)
  try dsimp only
  refine wpAny_bind (wpAny_holding (wpAny_bind (κ.pyHash (ki.self v hv) ?_)))
  refine setG_add_hashed ki hv (s := { s with toks := s.toks + 1 }) R room fun h2 sb r => ?_
  show wpAny _ _ (ret Value.none) _ _ _
  exact wpAny_pure ⟨_, rfl, hQ h2 sb r⟩
end
/-! ### sets of texts -/
def txtV : Value → Str
  | .str z _ => z
  | _ => Str.empty
def isTxt (v : Value) : Prop := ∃ z t, v = .str z t
theorem txt_in (P : Program) (w : World) : KeyIn (PySem.strKind P w) isTxt txtV :=
  ⟨fun v ⟨z, t, e⟩ => by rw [e]; exact PySem.strKind_is P w z t, fun v ⟨z, t, e⟩ => by rw [e]; rfl⟩
def SetS (P : Program) (w : World) (a : Addr) (S : Str → Bool) (n : Nat) : HO := .ext fun h => SetG (PySem.strKind P w) isTxt txtV h a S n
theorem setS_new {w : World} {P : Program} {H : Hp} {h : Heap} {a : Addr} {S : Str → Bool} {n : Nat} (R : SetG (PySem.strKind P w) isTxt txtV h a S n) : ObjOk P w H h a (SetS P w a S n) := by
  have ⟨ob, _, _, _, hob, _⟩ := R
  exact ⟨R, ⟨ob, hob⟩, fun h1 h2 p k => SetG.at p k⟩
theorem strs_txt : ∀ vs : List Value, (∀ v ∈ vs, isTxt v) → StrsAre vs (vs.map txtV)
  | [], _ => .nil
  | v :: r, h => by
    obtain ⟨z, t, e⟩ := h v (List.mem_cons_self ..)
    rw [e]
    exact .cons z t (strs_txt r fun u hu => h u (List.mem_cons_of_mem _ hu))
section
variable {X : Cx} {pins : List (Addr × Obj)} {σ : L2.St} {H : Hp} {s : Shared} {a : Addr} {S : Str → Bool} {n : Nat}
theorem setS_get (I : Inv X pins σ H s) (ha : H a = some (SetS X.prog X.w a S n)) : SetG (PySem.strKind X.prog X.w) isTxt txtV s.heap a S n := (I.hok a _ ha).1
theorem addS_ok {E : Value → Shared → Prop} {z : Str} {tk : Tok} {Q : Value → Shared → Prop} (I : Inv X pins σ H s) (ha : H a = some (SetS X.prog X.w a S n)) (room : n + 1 < scanBound)
    (h : ∀ s2, Inv X pins σ (upd H a (SetS X.prog X.w a (fun j => S j || decide (j = z)) (if S z = true then n else n + 1))) s2 → Q .none s2) : wpAny (model X.prog X.w) X.A (call (.builtin "set.add") [.ref a, .str z tk]) Q E s := by
  refine setG_add (txt_in X.prog X.w) ⟨z, tk, rfl⟩ (setS_get I ha) room fun h2 sb new => ?_
  have there : ∃ u, h2.get? a = some u := by
    have ⟨ob, _, _, _, hob, _⟩ := new
    exact ⟨ob, hob⟩
  exact h _ (I.write (e := a) (t' := s.toks + 1) (by rw [ha]; trivial) (.inl rfl) (fun b u hb hu => (sb.2 b hb).trans hu) there (setS_new new))
/-- sorted(a set of texts) -/
def rSortSet (P : Program) (w : World) : List V → Hp → VK → Prop := fun vs H Q => ∃ (a : Addr) (S : Str → Bool) (n : Nat), vs = [V.ref a] ∧ H a = some (SetS P w a S n) ∧ n < 64 ∧
  ∀ (ys : List Str) (p : Addr), sortedS ys = true → ys.Nodup → (∀ z, z ∈ ys ↔ S z = true) → ys.length = n → H p = none → Q (.ref p) (upd H p (.lst (ys.map V.str)))
theorem cr_sortSet (hc : X.calm = true) : CallR X (.builtin "sorted") (rSortSet X.prog X.w) := by
  intro pins s σ H vs us Q I r h
  obtain ⟨a, S, n, rfl, ha, h64, q⟩ := h
  rw [Vals.ref1 r]
  obtain ⟨ob, ents, age, tab, hob, hex, hd, g, nd, hm, hb, hf, hn, hr, hl⟩ := setS_get I ha
  refine Calls.call_function_entry kind_sorted plain_sorted entry_sorted (args_sorted1 _) ?_
  unfold Builtin.«sorted»
  refine wpAny_bind (m := checkCount "sorted" 1 1 _) (wpAny_pure ?_)
  refine wpAny_bind (collect_set (A := X.A.in1) (I.ok.hd hc) ⟨ob, hob, hex.1, hd⟩ hf hb hr hl fun s1 vals k1 big g1 o1 pm => ?_)
  have lenv : vals.length = n := by rw [pm.length_eq, List.length_map, Array.length_toList]; exact hn
  have hS : StrsAre vals (vals.map txtV) := strs_txt vals fun v hv => by
    obtain ⟨e, he, rfl⟩ := List.mem_map.mp (pm.mem_iff.mp hv)
    exact (g e he).1
  have pk : (vals.map txtV).Perm (ents.toList.map fun e => txtV e.2) := by
    have z := pm.map txtV
    rw [List.map_map] at z
    exact z
  refine wpAny_bind (wpAny_newList ?_ (by rw [lenv, sizeLine_eq]; omega))
  have hoL : (s1.heap.push (seqObj "list" vals.toArray 0)).get? s1.heap.objs.size = some (seqObj "list" vals.toArray 0) := Heap.get?_push_size _ rfl
  refine wpAny_bind (wpAny_holding (wpAny_call_entry slot_list_sort ⟨_, hoL, rfl⟩ entry_list_sort
    (list_sort_treeK strKind_oneLt hoL hS.keysOf (fun v1 v2 rest e => keyKind_strs (by rw [← e]; exact hS)) (by rw [lenv]; exact h64) fun st a1 a2 => ⟨_, rfl, ?_⟩) (args_list_sort _)))
  obtain ⟨ys, h1, h2, h3⟩ := sorted_out_str hS a1 a2
  obtain ⟨c, hc2⟩ := sortedHeap_at (vs := vals) (out := (arrOf st).map (·.2)) hoL
  have py : ys.Perm (ents.toList.map fun e => txtV e.2) := h2.trans pk
  have ly : ys.length = n := by rw [py.length_eq, List.length_map, Array.length_toList]; exact hn
  have kall : ∀ b u, s.heap.get? b = some u → (sortedHeap (s1.heap.push (seqObj "list" vals.toArray 0)) s1.heap.objs.size vals ((arrOf st).map (·.2))).get? b = some u := fun b u e => by
    have z := k1 b u e
    have lt := Heap.lt_size z
    rw [sortedHeap_old (Nat.ne_of_lt lt) (by rw [size_push']; exact Nat.lt_succ_of_lt lt)]
    exact Heap.get?_push_of_some _ z
  have hp : H s1.heap.objs.size = none := I.hok.fresh big
  have lenY : (ys.map V.str).length ≤ sizeLine := by rw [List.length_map, ly, sizeLine_eq]; omega
  generalize hs3 : ({ s1 with heap := sortedHeap (s1.heap.push (seqObj "list" vals.toArray 0)) s1.heap.objs.size vals ((arrOf st).map (·.2)) } : Shared) = s3
  have hh : s3.heap = sortedHeap (s1.heap.push (seqObj "list" vals.toArray 0)) s1.heap.objs.size vals ((arrOf st).map (·.2)) := by rw [← hs3]
  have gg : s3.gens = s.gens := by rw [← hs3]; exact g1
  have oo : s3.os = s.os := by rw [← hs3]; exact o1
  have J : Inv X pins σ (upd H s1.heap.objs.size (.lst (ys.map V.str))) { s with heap := s3.heap, gens := s3.gens, drawn := s3.drawn, toks := s3.toks } :=
    I.call (ch := []) (Un.laid (by rw [hh]; exact kall) big hp) (I.hok.laid (by rw [hh]; exact kall) big ⟨lenY, _, c, vals_of_strs h1, by rw [hh]; exact hc2⟩) (by rw [gg]; exact I.bare) (fun _ z => nomatch z)
  have es : s3 = { s with heap := s3.heap, gens := s3.gens, drawn := s3.drawn, toks := s3.toks } := by
    clear J hs3 hh gg
    cases s3
    cases s
    cases oo
    rfl
  refine wpAny_pure ⟨_, rfl, ?_⟩
  show EP X pins σ Q (.ref s1.heap.objs.size) _
  have fin : EP X pins σ Q (.ref s1.heap.objs.size) s3 := by
    rw [es]
    exact ⟨.ref _, _, J, rfl, q ys _ h3 (py.nodup_iff.mpr nd) (fun z => by rw [py.mem_iff, ← hm z]) ly hp⟩
  exact fin
/-! ### a set comprehension of texts -/
def tScS (P : Program) (w : World) (wi : TI) (g : TG) (tt : TT) (te : TE) (vs : List Nat) : TE := fun σ H Q => wi σ H fun J H1 => ∀ D, H1 D = none → ∃ W : Nat → Nat → Hp → Prop, (∃ m, W 0 m (upd H1 D (SetS P w D (fun _ => false) 0))) ∧ ∀ i m H, W i m H →
  (J.stop i H ∧ Q (.ref D) H) ∨ (J.go i H ∧ ∃ Nx : Hp → Prop, (∀ H', Nx H' → ∃ m', m' < m ∧ W (i + 1) m' H') ∧ ∀ x H', J.yld i H x H' → g x (wipe σ vs) H' fun σ2 H2 => wipe σ2 vs = wipe σ vs ∧ tt σ2 H2 fun b H3 =>
    if b = true then te σ2 H3 fun y H4 => ∃ (z : Str) (S : Str → Bool) (n : Nat), y = .str z ∧ H4 D = some (SetS P w D S n) ∧ n + 1 < scanBound ∧ Nx (upd H4 D (SetS P w D (fun j => S j || decide (j = z)) (if S z = true then n else n + 1))) else Nx H3)
theorem pe_scS {elt tg iter : Expr} {ifs : List Expr} {scope : Scope} {own : List (PySem.Str × Nat)} {pos : Pos} {wi : TI} {g : TG} {tt : TT} {te : TE} (hc : X.calm = true) (hN : X.N.Nodup) (hi : PI X tg iter wi) (ok : BlkOk X.N X.env.scope scope own)
    (hg : ∀ (s : Shared) (H : Hp) (C : Addr) (cl : List (PySem.Str × Addr)) (fp : List Addr), PG (X.blk s H scope (compEnvC scope cl C X.env) fp) tg g) (ht : ∀ (s : Shared) (H : Hp) (C : Addr) (cl : List (PySem.Str × Addr)) (fp : List Addr), PTs (X.blk s H scope (compEnvC scope cl C X.env) fp) ifs tt)
    (he : ∀ (s : Shared) (H : Hp) (C : Addr) (cl : List (PySem.Str × Addr)) (fp : List Addr), PE (X.blk s H scope (compEnvC scope cl C X.env) fp) elt te) (hs : ∀ x, foldedSetIterable iter X.env x = pure x := by intro _; rfl) :
    PE X (.SetComp elt [⟨tg, iter, ifs, 0⟩] scope pos) (tScS X.prog X.w wi g tt te (own.map (·.2))) := by
  refine ⟨fun pins s σ H Q I h => ?_⟩
  rw [PpSet.eval_SetComp]
  have closed : ∀ y ∈ scope.names, y.2 = .free → ∃ c, X.env.cells.lookup y.1 = some c := fun y hy e => (ok.free y hy e).elim (fun k => I.ok.has _ (.inl k)) fun k => I.ok.has _ (.inr k)
  refine wpAny_comprehension_free (use := none) rfl hs (closure_ok closed) ok.kind (fun y hy e => by rw [ok.uniq y hy, e]) (thn (hi.run pins s σ H _ I h) fun xv s1 hx => thn hx fun itv s2 h2 => ?_)
  obtain ⟨it, fp, tn, J, H2, e, I2, T, st2, f2, q⟩ := h2
  subst e
  refine PpSet.newSet_ok (newEnv_comp ?_)
  generalize hD : s2.heap.objs.size = D
  obtain ⟨W, ⟨m0, w0⟩, turn⟩ := q D (I2.hok.fresh (Nat.le_of_eq hD))
  generalize hs3 : ({ s2 with heap := s2.heap.push { cls := .type "set", dict := none, data := .set #[] 0 (.fresh 0 0 (!X.w.params.followText "set-order")) } } : Shared) = s3
  have h3 : s3.heap = s2.heap.push { cls := .type "set", dict := none, data := .set #[] 0 (.fresh 0 0 (!X.w.params.followText "set-order")) } := by rw [← hs3]
  generalize hH3 : upd H2 D (SetS X.prog X.w D (fun _ => false) 0) = H3 at w0
  have I3 : Inv X pins σ H3 s3 := by
    rw [← hH3, ← hs3]
    refine I2.laid (t' := s2.toks) (fun b o e => Heap.get?_push_of_some _ e) (Nat.le_of_eq hD) ?_
    rw [← hD]
    exact setS_new setG_fresh
  have f3 : ∀ b ∈ fp, FpOk X pins H3 b ∧ b < s3.heap.objs.size := fun b hb => by
    have lt : b < s2.heap.objs.size := by
      obtain ⟨o, e, _⟩ := T.obj _ _ st2 b hb
      exact Heap.lt_size e
    refine ⟨⟨?_, (f2 b hb).2⟩, by rw [h3, Heap.size_push]; exact Nat.lt_succ_of_lt lt⟩
    rw [← hH3, upd_ne (by rw [← hD]; exact Nat.ne_of_lt lt)]
    exact (f2 b hb).1
  have I4 := block_start I3 ok hN f3
  have pg := hg s3 H3 s3.heap.objs.size (cellsFrom (s3.heap.objs.size + 1) scope.names (cloFrom X.env.cells scope.names [])) fp
  have pt := ht s3 H3 s3.heap.objs.size (cellsFrom (s3.heap.objs.size + 1) scope.names (cloFrom X.env.cells scope.names [])) fp
  have pe := he s3 H3 s3.heap.objs.size (cellsFrom (s3.heap.objs.size + 1) scope.names (cloFrom X.env.cells scope.names [])) fp
  have nfp : ∀ b ∈ fp, H3 b = none := fun b hb => (f3 b hb).1.1
  show codeAny _ _ (.compStart (.SetComp elt [⟨tg, iter, ifs, 0⟩] scope pos) 0 (.ref it) (.ref D) (compEnvC scope (cellsFrom (s3.heap.objs.size + 1) scope.names (cloFrom X.env.cells scope.names [])) s3.heap.objs.size X.env))
    (compPost (model X.prog X.w) X.A X.xe none (EP X pins σ Q) (.ref D) s3.heap.objs.size) { s3 with heap := pushCells (s3.heap.push { cls := .type "dict", data := .dict #[] }) scope.names }
  generalize hce : compEnvC scope (cellsFrom (s3.heap.objs.size + 1) scope.names (cloFrom X.env.cells scope.names [])) s3.heap.objs.size X.env = ce at I4 pg pt pe ⊢
  have locE : ce.locals = s3.heap.objs.size := by
    rw [← hce]
    rfl
  generalize hs4 : ({ s3 with heap := pushCells (s3.heap.push { cls := .type "dict", data := .dict #[] }) scope.names } : Shared) = s4 at I4 ⊢
  have st4 : tn 0 s4.heap := by
    refine T.keep _ s3.heap s4.heap (T.keep _ s2.heap s3.heap st2 fun b _ o e => ?_) fun b _ o e => ?_
    · rw [h3]
      exact Heap.get?_push_of_some _ e
    · rw [← hs4]
      exact pushCells_keeps _ _ _ _ (Heap.get?_push_of_some _ e)
  have walked : ∀ {σ1 : L2.St} {H1 : Hp} {s1 : Shared}, Inv (X.blk s3 H3 scope ce fp) [] σ1 H1 s1 → (∀ b ∈ fp, H1 b = none) → ∀ b ∈ fp, FpOk (X.blk s3 H3 scope ce fp) [] H1 b := fun {σ1 H1 s1} J1 free b hb =>
    ⟨free b hb, (J1.ok.exf b hb).1, J1.ok.exfs b hb, .inl hb, fun x c e => (J1.ok.exf b hb).2 x c e, fun y hy => absurd hy (by simp)⟩
  have loop : codeAny (model X.prog X.w) X.A (.compLoop (.SetComp elt [⟨tg, iter, ifs, 0⟩] scope pos) 0 (.ref it) (.ref D) ce) (compPost (model X.prog X.w) X.A X.xe none (EP X pins σ Q) (.ref D) s3.heap.objs.size) s4 := by
    refine PpSet.compLoopS_any (fun m s5 => ∃ i H5, Inv (X.blk s3 H3 scope ce fp) [] (wipe σ (own.map (·.2))) H5 s5 ∧ tn i s5.heap ∧ (∀ b ∈ fp, H5 b = none) ∧ W i m H5) ?_ m0 ⟨0, H3, I4, st4, nfp, w0⟩
    rintro m s5 ⟨i, H5, I5, st5, n5, w5⟩
    rcases turn i m H5 w5 with ⟨stop, qd⟩ | ⟨go, Nx, less, step⟩
    · refine thnF (T.done (X.blk s3 H3 scope ce fp) rfl rfl rfl hc i [] s5 _ H5 (fun _ _ => False) I5 (walked I5 n5) st5 stop) fun r s6 ⟨er, I6⟩ => ?_
      rw [er]
      have I7 : Inv X pins σ H5 s6 := I3.call' (ch := fp) I6.os I6.base I6.hok I6.bare fun b hb => ⟨(f3 b hb).1.2.2.2.1, (f3 b hb).1.2.1, (f3 b hb).1.2.2.2.2.1, (f3 b hb).1.2.2.2.2.2⟩
      have free : H5 s3.heap.objs.size = none := by
        rw [← locE]
        exact I6.free
      obtain ⟨names, hns, _⟩ := I6.loc
      have hns : s6.heap.Ns ce.locals names := hns
      rw [locE] at hns
      obtain ⟨p0, p1, p2, p3, p4, p5⟩ := I3.fpOk (Nat.le_refl _) free
      exact ⟨names, hns, fun h9 sb => ⟨.ref D, H5, I7.turned (t' := s6.toks) (fun b o hb e => (sb.2 b hb).trans e) p0 p1 p3 p4 p5, rfl, qd⟩⟩
    · refine thnF (T.item (X.blk s3 H3 scope ce fp) rfl rfl rfl hc i [] s5 _ H5 (fun _ _ => False) I5 (walked I5 n5) st5 go) fun r s6 ⟨u, er, h6⟩ => ?_
      rw [er]
      refine thnF h6 fun _ s7 ⟨x, H7, I7, r7, y7, st7, n7⟩ => ?_
      refine thnF (pg.run _ s7 _ H7 x u _ (I7.pinned (walked I7 n7) (T.obj _ _ st7)) r7 (step x H7 y7)) fun _ s8 ⟨σ8, H8, I8, wip, q8⟩ => ?_
      refine thnF (pt.run _ s8 σ8 H8 _ I8 q8) fun b s9 ⟨H9, I9, q9⟩ => ?_
      have turned : ∀ {sE : Shared} {HE : Hp}, Inv (X.blk s3 H3 scope ce fp) ([] ++ pinsAt fp s7.heap) σ8 HE sE → Nx HE → ∃ m2, m2 < m ∧ ∃ i2 H2, Inv (X.blk s3 H3 scope ce fp) [] (wipe σ (own.map (·.2))) H2 sE ∧ tn i2 sE.heap ∧ (∀ b ∈ fp, H2 b = none) ∧ W i2 m2 H2 := fun {sE HE} JE nx => by
        obtain ⟨m2, lt, wE⟩ := less HE nx
        have stay : ∀ b ∈ fp, ∀ o, s7.heap.get? b = some o → sE.heap.get? b = some o ∧ HE b = none := fun b hb o e =>
          have z := JE.pin (b, o) (List.mem_append_right _ (List.mem_append_right _ (mem_pinsAt hb e)))
          ⟨z.1, z.2.1⟩
        refine ⟨m2, lt, i + 1, HE, (JE.unpinned (pins := [])).weak (by rw [← wip, wipe_length]) (fun j v e => ?_), T.keep _ _ _ st7 fun b hb o e => (stay b hb o e).1, fun b hb => ?_, wE⟩
        · rw [← wip] at e
          exact (wipe_some e).1
        · obtain ⟨o, e, _⟩ := T.obj _ _ st7 b hb
          exact (stay b hb o e).2
      cases b with
      | false =>
        rw [if_neg Bool.false_ne_true] at q9 ⊢
        exact turned I9 q9
      | true =>
        rw [if_pos rfl] at q9 ⊢
        refine thnF (pe.run _ s9 σ8 H9 _ I9 q9) fun yv s10 ⟨y, H10, I10, r10, z, S0, k0, ey, at10, room, nx⟩ => ?_
        subst ey
        obtain ⟨tk, rfl⟩ := r10
        exact addS_ok (X := X.blk s3 H3 scope ce fp) I10 at10 room fun s11 I11 => turned I11 nx
  exact PpSet.codeAny_compStart_set loop (T.self X.A 0 _ _ _ st4 loop)
end
/-- the reading of such a comprehension over what is walked -/
theorem scS_it {P : Program} {w : World} {J : It} {k : Nat} {G : Hp → Prop} {Y : Nat → Hp → V → Hp → Prop} (wk : L2.Walk J k G Y) {g : TG} {tt : TT} {te : TE} {vs : List Nat} {σ : L2.St} {H1 : Hp} {D : Addr} {Qd : Hp → Prop} (Pv : Nat → Hp → Prop)
    (h0 : Pv 0 (upd H1 D (SetS P w D (fun _ => false) 0))) (hG : ∀ i H, i ≤ k → Pv i H → G H)
    (hs : ∀ i x H H2, i < k → Pv i H → Y i H x H2 → g x (wipe σ vs) H2 fun σ2 H3 => wipe σ2 vs = wipe σ vs ∧ tt σ2 H3 fun b H4 =>
      if b = true then te σ2 H4 fun y H5 => ∃ (z : Str) (S : Str → Bool) (n : Nat), y = .str z ∧ H5 D = some (SetS P w D S n) ∧ n + 1 < scanBound ∧ Pv (i + 1) (upd H5 D (SetS P w D (fun j => S j || decide (j = z)) (if S z = true then n else n + 1))) else Pv (i + 1) H4)
    (hd : ∀ H, Pv k H → Qd H) : ∃ W : Nat → Nat → Hp → Prop, (∃ m, W 0 m (upd H1 D (SetS P w D (fun _ => false) 0))) ∧ ∀ i m H, W i m H →
      (J.stop i H ∧ Qd H) ∨ (J.go i H ∧ ∃ Nx : Hp → Prop, (∀ H', Nx H' → ∃ m', m' < m ∧ W (i + 1) m' H') ∧ ∀ x H', J.yld i H x H' → g x (wipe σ vs) H' fun σ2 H2 => wipe σ2 vs = wipe σ vs ∧ tt σ2 H2 fun b H3 =>
        if b = true then te σ2 H3 fun y H4 => ∃ (z : Str) (S : Str → Bool) (n : Nat), y = .str z ∧ H4 D = some (SetS P w D S n) ∧ n + 1 < scanBound ∧ Nx (upd H4 D (SetS P w D (fun j => S j || decide (j = z)) (if S z = true then n else n + 1))) else Nx H3) := by
  refine ⟨fun i m H => m + i = k ∧ Pv i H, ⟨k, by omega, h0⟩, fun i m H ⟨hm, p⟩ => ?_⟩
  have gs := hG i H (by omega) p
  rcases Nat.lt_or_ge i k with lt | ge
  · exact .inr ⟨wk.goes i H lt gs, Pv (i + 1), fun H' p' => ⟨m - 1, by omega, by omega, p'⟩, fun x H' y => hs i x H H' lt p (wk.yields i H x H' lt gs y)⟩
  · have e : i = k := by omega
    subst e
    exact .inl ⟨wk.stops H gs, hd H p⟩
end Mz
set_option Elab.async false
set_option linter.all false
set_option maxRecDepth 100000
set_option maxHeartbeats 4000000
/-! == where a side is empty, whatever the items -/
namespace Mz
open PySem PySem.Spec PyProof.Rows L2
section
variable {X : Cx}
/-- tuples, one of them empty -/
def rEqT0 (K : PySem.W.Frag) : R2 := fun x y H Q => ∃ a b xs, x = .ref a ∧ y = .ref b ∧ SqT K H a xs ∧ SqT K H b [] ∧ Q (.bl xs.isEmpty) H
theorem op_eqT0 (hu : X.A.units + 64 < cLine) : OpR X (compareOp .Eq) (rEqT0 X.K) := by
  intro pins s σ H x y v u Q I rx ry h
  obtain ⟨a, b, xs, rfl, rfl, ha, hb, q⟩ := h
  obtain rfl : v = Value.ref a := rx
  obtain rfl : u = Value.ref b := ry
  obtain ⟨us, r1, p1, _⟩ := I.tuple ha
  obtain ⟨ws, r2, p2, _⟩ := I.tuple hb
  cases r2
  refine SeqAt.eq_tupleAt (e := fun _ => true) p1 p2 (by omega) (fun j h1 h2 => absurd h2 (by simp)) ⟨.bl xs.isEmpty, H, I, ?_, q⟩
  show Value.bool _ = Value.bool _
  cases r1 <;> rfl
theorem isl {h : Heap} {a : Addr} {its : Array Value} (p : PlainL h a its) : h.IsList a its := by
  obtain ⟨o, n, h1, h2, _, h3⟩ := p
  exact ⟨o, h1, h2, n, h3⟩
/-- lists, one of them empty -/
def rEqL0 (K : PySem.W.Frag) : R2 := fun x y H Q => ∃ a b xs, x = .ref a ∧ y = .ref b ∧ SqL K H a xs ∧ SqL K H b [] ∧ Q (.bl xs.isEmpty) H
theorem op_eqL0 (hu : X.A.units + 64 < cLine) : OpR X (compareOp .Eq) (rEqL0 X.K) := by
  intro pins s σ H x y v u Q I rx ry h
  obtain ⟨a, b, xs, rfl, rfl, ha, hb, q⟩ := h
  obtain rfl : v = Value.ref a := rx
  obtain rfl : u = Value.ref b := ry
  obtain ⟨us, r1, p1, _⟩ := I.list ha
  obtain ⟨ws, r2, p2, _⟩ := I.list hb
  cases r2
  cases r1 with
  | nil => exact SeqAt.eq_listAt (e := fun _ => true) (isl p1) (isl p2) rfl (by omega) (fun j h1 h2 => absurd h2 (by simp)) ⟨.bl true, H, I, rfl, q⟩
  | cons r1 t => exact SeqAt.eq_list_lengthsAt (isl p1) (isl p2) (by simp) (by omega) ⟨.bl false, H, I, rfl, q⟩
end
end Mz
set_option Elab.async false
set_option linter.all false
set_option maxRecDepth 100000
set_option maxHeartbeats 4000000
/-! classes made by a positional promise of their __init__ (a star parameter): C(), C(*xs); len of an own instance -/
namespace Mz
open PySem PySem.Spec PyProof.Rows L2
section
variable {X : Cx} {CX : CXT} {k : Nat} {f C : Addr} {fd : FuncData} {ps : List Str} {sp : Sp} {E : XK} {x : Str} {e : Expr} {te : TE} {p sp_ pos : Pos}
theorem pe_makeR0 (M : Mk X.K C f) (F : FnR X.prog X.w X.K X.mg X.base CX k f sp) (hr : Room (k + 1) X.A) (hg : Gl X x) (hm : X.mg x = some (.ref C)) (hx : Passes CX X E) (hdb : (x == ("__debug__" : Str)) = false := by decide) : PE X (.Call (.Name x p) [] [] pos) (StX.tMakeR C sp E tNil) := by
  refine ⟨fun pins s σ H Q I h => wpAny_Call_Name_kw (ld_glob I hg hm ?_ hdb)⟩
  exact PySem.W.callWith_K0 I.kIn M.kp (StX.run_makeR (us := []) M F hr hx I .nil h)
theorem pe_makeRS (M : Mk X.K C f) (F : FnR X.prog X.w X.K X.mg X.base CX k f sp) (hr : Room (k + 1) X.A) (hg : Gl X x) (hm : X.mg x = some (.ref C)) (hx : Passes CX X E) (he : PE X e te) (hdb : (x == ("__debug__" : Str)) = false := by decide)
    (hst : starEach [.Starred e sp_] X.env = [(true, eval e X.env)] := by rfl) :
    PE X (.Call (.Name x p) [.Starred e sp_] [] pos) (fun σ H Q => te σ H fun y H1 => ∃ a xs, y = V.ref a ∧ (SqT X.K H1 a xs ∨ SqL X.K H1 a xs) ∧ StX.tMakeR C sp E (fun _ H2 R => R xs H2) σ H1 Q) := by
  refine ⟨fun pins s σ H Q I h => wpAny_Call_Name_kw (ld_glob I hg hm ?_ hdb)⟩
  refine PySem.W.callWith_S (h₀ := X.base) I.ok.mod.kin M.kp (thn (he.run pins s σ H _ I h) fun v s1 ⟨y, H1, I1, ry, a, xs, ey, hxs, q⟩ => ?_) hst
  subst ey
  obtain rfl : v = Value.ref a := ry
  exact StX.star_any I1 hxs fun us s2 I2 rv => ⟨I2.kIn, StX.run_makeR M F hr hx I2 rv q⟩
/-- len(o), o an instance with an own __len__ -/
def rLenO (C : Addr) (sp : Sp) : List V → Hp → VK → Prop := fun xs H Q => ∃ a dx fs, xs = [.ref a] ∧ H a = some (.ins C dx fs) ∧ sp [.ref a] H (fun v H2 => ∃ n : Nat, v = .int n ∧ n ≤ sizeLine ∧ Q (.int n) H2) E0
theorem call_lenO (F : FnOk X.prog X.w X.K X.mg X.base CX0 k f fd ps sp) (hr : Room (k + 1) X.A) (hb : Binds X.K fd ps []) (hs : PySem.W.findIn X.K (.ref C) "__len__" = some (some (.ref f))) (hf : PySem.W.isFn X.K (.ref f) = true) : CallR X (.builtin "len") (rLenO C sp) := by
  intro pins s σ H xs us Q I r h
  obtain ⟨a, dx, fs, rfl, ha, q⟩ := h
  rw [Vals.ref1 r]
  obtain ⟨mA, O, _⟩ := ins_get I.hok ha
  obtain ⟨od, J, _⟩ := O.look
  obtain ⟨m, hF⟩ := I.fr
  refine PySem.W.len_K hF I.ok.mod.kin J hs hf (wpAny_mono (run_at (E := E0) (vs := [.ref a]) (us := [.ref a]) F hr.in1 I.env0.in1 hb (fun _ _ z => z.elim) I (.cons rfl .nil) q) (fun r s2 hv => ?_) fun _ _ z => z)
  obtain ⟨v, H2, I2, rv, n, rfl, hn, q2⟩ := hv
  obtain ⟨t, rfl⟩ := rv
  have big : (sizeLine : Int) < 2 ^ 63 := by rw [sizeLine_eq]; decide
  exact ⟨⟨by omega, by omega⟩, ⟨.int n, H2, I2.tok _, ⟨_, rfl⟩, q2⟩⟩
end
end Mz
set_option Elab.async false
set_option linter.all false
set_option maxRecDepth 100000
set_option maxHeartbeats 4000000
/-! set(a list of texts) -/
namespace Mz
open PySem PySem.Spec PyProof.Rows L2
section
variable {P : Program} {w : World} {A : Around} {E : Value → Shared → Prop} {s : Shared}
abbrev TxtSet (P : Program) (w : World) (h : Heap) (a : Addr) (S : Str → Bool) (n : Nat) : Prop := SetG (PySem.strKind P w) isTxt txtV h a S n
/-- the set's own way through what it is made of -/
theorem update_txt {I : Addr} {fp wr : List Addr} {G : Array GenState → Array GenState → Prop} {n : Nat} {Pv : Nat → Value → Prop} {St : Nat → Shared → Prop} {R : Result → Shared → Prop}
    (W : WalksS P w A.in1 I fp wr G n Pv St) (S : Addr) (off : S ∉ fp) (zs : List Str) (ln : n = zs.length) (room : zs.length + 1 < scanBound) (each : ∀ i v, Pv i v → ∃ z t, zs[i]? = some z ∧ v = .str z t) (k : Nat) :
    ∀ (i : Nat) (s : Shared), n - i = k → i ≤ n → St i s → (∃ c, c ≤ i ∧ TxtSet P w s.heap S (fun j => decide (j ∈ zs.take i)) c) →
      (∀ s' c, Moved (S :: wr) G s s' → c ≤ n → TxtSet P w s'.heap S (fun j => decide (j ∈ zs)) c → R (.ok (.ret .none)) s') →
      codeAny (model P w) A (.builtin "set.update.loop" ⟨[.ref S, .ref I], []⟩) R s := by
  have offw : S ∉ wr := fun x => off (W.sub _ x)
  have wider : ∀ b ∈ wr, b ∈ S :: wr := fun b x => List.mem_cons_of_mem _ x
  induction k with
  | zero =>
    intro i s ek le st0 ⟨c, lc, tx⟩ fin
    obtain rfl : i = n := by omega
    refine codeAny_builtin F.entry_set_update_loop ?_
    rw [Around.under_plainId F.plain_set_update_loop _]
    refine (show wpAny _ A.in1 (pyNext (.ref I) >>= _) _ _ s from wpAny_bind (W.done s _ _ st0 fun s2 mv => ?_))
    rw [List.take_of_length_le (show zs.length ≤ i by omega)] at tx
    exact (show wpAny _ A.in1 (ret Value.none) _ _ s2 from wpAny_pure (fin s2 c (mv.mono wider) lc (tx.at fun o e => mv.heap S o offw e)))
  | succ k ih =>
    intro i s ek le st0 ⟨c, lc, tx⟩ fin
    have lt : i < n := by omega
    refine codeAny_builtin F.entry_set_update_loop ?_
    rw [Around.under_plainId F.plain_set_update_loop _]
    refine (show wpAny _ A.in1 (pyNext (.ref I) >>= _) _ _ s from wpAny_bind (W.item i s _ _ lt st0 fun v s2 pv st2 mv => ?_))
    obtain ⟨z, t, ez, rfl⟩ := each i v pv
    have tx2 : TxtSet P w s2.heap S (fun j => decide (j ∈ zs.take i)) c := tx.at fun o e => mv.heap S o offw e
    refine (show wpAny _ A.in1 (holding [Value.str z t] (setAdd S (.str z t)) >>= _) _ _ s2 from wpAny_bind (wpAny_holding ?_))
    unfold setAdd
    refine wpAny_holding (wpAny_bind ((PySem.strKind P w).pyHash (k := z) ((txt_in P w).self _ ⟨z, t, rfl⟩) ?_))
    refine setG_add_hashed (s := { s2 with toks := s2.toks + 1 }) (txt_in P w) (v := .str z t) ⟨z, t, rfl⟩ tx2 (by omega) fun h2 sb tx3 => ?_
    have tx4 : TxtSet P w h2 S (fun j => decide (j ∈ zs.take (i + 1))) (if decide (z ∈ zs.take i) = true then c else c + 1) := by
      have e : (fun j => decide (j ∈ zs.take (i + 1))) = fun j => decide (j ∈ zs.take i) || decide (j = z) := by
        funext j
        rw [List.take_add_one, ez, Bool.eq_iff_iff, Bool.or_eq_true, decide_eq_true_eq, decide_eq_true_eq, decide_eq_true_eq, List.mem_append]
        simp
      rw [e]
      exact tx3
    have lc4 : (if decide (z ∈ zs.take i) = true then c else c + 1) ≤ i + 1 := by
      split <;> omega
    have other : ∀ b, b ≠ S → h2.get? b = s2.heap.get? b := fun b x => sb.2 b x
    refine wpAny_pure ⟨plainId_quiet F.plain_set_update_loop _, ih (i + 1) _ (by omega) lt (W.frame _ s2 _ _ st2 (Nat.le_succ _) fun b fb o e => (other b fun x => off (x ▸ fb)).trans e) ⟨_, lc4, tx4⟩ fun s3 c3 mv3 lc3 tx5 => ?_⟩
    exact fin s3 c3 (Moved.trans W.gtrans ((mv.mono wider).then_heap (Nat.le_succ _) fun b o nb e => (other b fun x => nb (by rw [x]; exact List.mem_cons_self)).trans e) mv3) lc3 tx5
theorem newset_at {h : Heap} {a : Addr} (e : h.get? a = some { cls := .type "set", dict := none, data := .set #[] 0 (.fresh 0 0 (!w.params.followText "set-order")) }) : TxtSet P w h a (fun _ => false) 0 := by
  refine ⟨_, #[], 0, _, e, ⟨rfl, rfl, rfl⟩, rfl, (fun e he => absurd he (by simp)), by simp, fun k => by simp, by decide, by rfl, rfl, List.Pairwise.nil, ?_⟩
  show _ ∨ (!w.params.followText "set-order") = true
  cases w.params.followText "set-order" <;> simp
/-- set(xs) -/
theorem call_set_txt {l : Addr} {items : Array Value} (zs : List Str) {Q : Value → Shared → Prop} (hh : A.handled = none) (hl : s.heap.IsList l items) (hit : StrsAre items.toList zs) (room : zs.length + 1 < scanBound)
    (h : ∀ (h' : Heap) (tk c : Nat), TxtSet P w h' s.heap.objs.size (fun j => decide (j ∈ zs)) c → c ≤ zs.length → (∀ b o, s.heap.get? b = some o → h'.get? b = some o) → Q (.ref s.heap.objs.size) { s with heap := h', toks := tk }) :
    wpAny (model P w) A (call (.type "set") [.ref l]) Q E s := by
  have isz : items.size = zs.length := by
    rw [← Array.length_toList]
    exact hit.length
  generalize hB : ({ cls := .type "set", dict := none, data := .set #[] 0 (.fresh 0 0 (!w.params.followText "set-order")) } : Obj) = blank
  obtain ⟨c, tl, hmro⟩ := F.called_set.mro
  have hmade := F.called_set.made
  have hsub := F.called_set.sub
  refine wpAny_call (codeAny_of_tree ?_)
  refine (show wpAny _ _ (callAny (.type "set") _) _ _ _ from wpAny_pure ⟨Code.quiet_builtin _ (by decide +kernel), codeAny_builtin F.entry_type_call ?_⟩)
  rw [Around.under_plain (weight_type_call_type "set" [.ref l] []) rfl]
  have c1 := F.called_set.notType
  have c2 := F.called_set.canCreate
  have c3 := F.typeCall_set_1 (.ref l)
  repeat (any_goals (first | assumption | wp_step))
  refine codeAny_mono (code_set_led1 (.ref l) (E := E) (Q₁ := fun obj s₁ => obj = .ref s.heap.objs.size ∧ s₁ = { s with heap := s.heap.push blank }) ⟨rfl, by rw [hB]⟩) fun r s₁ hr => ?_
  cases r with
  | error e => exact hr
  | ok fl =>
    cases fl with
    | ret obj =>
      obtain ⟨rfl, rfl⟩ := hr
      have bc : blank.cls = .type "set" := by rw [← hB]
      have bf : blank.isFreed = false := by rw [← hB]; rfl
      have atS : (s.heap.push blank).get? s.heap.objs.size = some blank := Heap.get?_push_size _ bf
      have hT : Shared.TypeIs { s with heap := s.heap.push blank } (.ref s.heap.objs.size) "set" := ⟨_, atS, bc⟩
      have d1 := F.called_set.init.lookup
      have d2 := F.called_set.init.bind (.ref s.heap.objs.size)
      repeat (any_goals (first | assumption | wp_step))
      refine codeAny_mono (codeAny_call_builtin (R := wants (fun r s₂ => r = .none ∧ ∃ h' tk c, s₂ = { s with heap := h', toks := tk } ∧ TxtSet P w h' s.heap.objs.size (fun j => decide (j ∈ zs)) c ∧ c ≤ zs.length ∧
          (∀ b o, s.heap.get? b = some o → h'.get? b = some o)) E) F.called_set.init.plain F.entry_set_init (check_set_init_1 hT ?_)) fun r₂ s₂ hr₂ => ?_
      · obtain ⟨ol, hol, hcl, nl, hdl⟩ := hl
        obtain ⟨ocls, odict, odata, oslots⟩ := ol
        simp only at hcl hdl
        subst hcl; subst hdl
        have pk : ∀ b o, s.heap.get? b = some o → (s.heap.push blank).get? b = some o := fun b o e => Heap.get?_push_of_some _ e
        have hol' := pk _ _ hol
        have n1 := F.sub_list_set
        have n2 := F.sub_list_frozenset
        have n3 : (Value.type "list" == Value.type "dict") = false := by decide
        have hl1 : (s.heap.push blank).IsList l items := ⟨_, hol', rfl, nl, rfl⟩
        have lS : @LT.lt Nat _ l s.heap.objs.size := Heap.lt_size hol
        have sz : (s.heap.push blank).objs.size = s.heap.objs.size + 1 := Heap.size_push ..
        have lI : l ≠ (s.heap.push blank).objs.size := fun x => by
          have x : @Eq Nat l (s.heap.push blank).objs.size := x
          omega
        have offS : s.heap.objs.size ∉ [(s.heap.push blank).objs.size, l] := fun x => by
          rcases List.mem_cons.mp x with x | x
          · omega
          · have x : @Eq Nat s.heap.objs.size l := List.mem_singleton.mp x
            omega
        have below : ∀ b : Nat, b < s.heap.objs.size → b ∉ s.heap.objs.size :: [(s.heap.push blank).objs.size] := fun b lb x => by
          rcases List.mem_cons.mp x with x | x
          · omega
          · have x : @Eq Nat b (s.heap.push blank).objs.size := List.mem_singleton.mp x
            omega
        clear sz bc bf
        subst hB
        unfold Builtin.«set.__init__» noKeywords Builtin.Frozenset.updateFrom
        generalize hPI : pyIter = PI
        wp_walk
        subst hPI
        refine wpAny_pyIter_list hl1 ?_
        refine wpAny_bind (wpAny_runValue ?_)
        have h3 : A.in1.in1.in1.handled = none := by simp [hh]
        have each : ∀ (i : Nat) (v : Value), items[i]? = some v → ∃ z t, zs[i]? = some z ∧ v = .str z t := fun i v hv => by
          obtain ⟨z, t, e1, e2⟩ := PyProof.Rows.StrsAre.item hit i v (by rw [Array.getElem?_toList]; exact hv)
          exact ⟨z, t, e2, e1⟩
        refine update_txt ((Walks.list h3 _ l lI items).toS) s.heap.objs.size offS zs isz room each (items.size - 0) 0 _ (by omega) (Nat.zero_le _) ⟨⟨_, Heap.get?_push_size _ rfl, rfl, rfl⟩, (hl1.push _)⟩ ⟨0, Nat.le_refl 0, ?_⟩ fun s' c' mv lc tx => ?_
        · have e : (fun j : Str => decide (j ∈ zs.take 0)) = fun _ => false := by
            funext j
            simp
          rw [e]
          exact newset_at (Heap.get?_push_of_some _ atS)
        · obtain ⟨h', g2, d', tk', os'⟩ := s'
          obtain rfl : g2 = s.gens := mv.gens
          obtain rfl : d' = s.drawn := mv.drawn
          obtain rfl : os' = s.os := mv.os
          rw [isz] at lc
          refine (show wpAny _ _ _ _ _ _ from wpAny_pure (show wpAny _ _ (ret Value.none) _ _ _ from wpAny_pure ⟨rfl, h', tk', c', rfl, tx, lc, fun b o e => ?_⟩))
          have lb : @LT.lt Nat _ b s.heap.objs.size := Heap.lt_size e
          exact mv.heap b o (below b lb) (Heap.get?_push_of_some _ (pk _ _ e))
      · cases r₂ with
        | error e => exact hr₂
        | ok fl₂ =>
          cases fl₂ with
          | ret r =>
            obtain ⟨rfl, h', tk, c', rfl, tx, lc, kp⟩ := hr₂
            repeat (any_goals (first | assumption | wp_step))
            exact h _ _ _ tx lc kp
          | _ => exact hr₂.elim
    | _ => exact hr.elim
end
/-- set(xs) of texts -/
def rSetTxt (K : PySem.W.Frag) (P : Program) (w : World) : List V → Hp → VK → Prop := fun vs H Q => ∃ (l : Addr) (zs : List Str), vs = [.ref l] ∧ SqL K H l (zs.map V.str) ∧ zs.length < 1000 ∧
  ∀ p n, H p = none → n ≤ zs.length → Q (.ref p) (upd H p (SetS P w p (fun j => decide (j ∈ zs)) n))
theorem cr_setTxt {X : Cx} (hc : X.calm = true) : CallR X (.type "set") (rSetTxt X.K X.prog X.w) := by
  intro pins s σ H vs us Q I r h
  obtain ⟨l, zs, rfl, hl, hn, q⟩ := h
  rw [Vals.ref1 r]
  obtain ⟨its, rv, pl, _⟩ := I.list hl
  have hst : StrsAre its.toArray.toList zs := by
    have all : ∀ (ys : List Str) (us : List Value), Vals (ys.map V.str) us → StrsAre us ys := fun ys => by
      induction ys with
      | nil =>
        intro us h
        cases h
        exact .nil
      | cons y ys ih =>
        intro us h
        cases h with
        | cons h t =>
          obtain ⟨tk, rfl⟩ := h
          exact .cons y tk (ih _ t)
    exact all zs its rv
  refine call_set_txt zs (I.ok.hd hc) pl.isList hst (Nat.lt_of_lt_of_le (show zs.length + 1 < 1001 by omega) (by decide)) fun h' tk c tx lc kp => ?_
  exact ⟨.ref _, _, I.laid (t' := tk) kp (Nat.le_refl _) (setS_new tx), rfl, q _ c (I.hok.fresh (Nat.le_refl _)) lc⟩
end Mz
set_option Elab.async false
set_option linter.all false
set_option maxRecDepth 100000
set_option maxHeartbeats 4000000
/-! set(a list of ints), sorted of it -/
namespace Mz
open PySem PySem.Spec PyProof.Rows L2
def intV9 : Value → Int
  | .int z _ => z
  | _ => 0
def isInt9 (v : Value) : Prop := ∃ z t, v = .int z t
theorem int_in9 (P : Program) (w : World) : KeyIn (PySem.intKind P w) isInt9 intV9 :=
  ⟨fun v ⟨z, t, e⟩ => by rw [e]; simp [PySem.intKind, Value.isInt, intV9], fun v ⟨z, t, e⟩ => by rw [e]; rfl⟩
def SetN (P : Program) (w : World) (a : Addr) (S : Int → Bool) (n : Nat) : HO := .ext fun h => SetG (PySem.intKind P w) isInt9 intV9 h a S n
theorem setN_new {w : World} {P : Program} {H : Hp} {h : Heap} {a : Addr} {S : Int → Bool} {n : Nat} (R : SetG (PySem.intKind P w) isInt9 intV9 h a S n) : ObjOk P w H h a (SetN P w a S n) := by
  have ⟨ob, _, _, _, hob, _⟩ := R
  exact ⟨R, ⟨ob, hob⟩, fun h1 h2 p k => SetG.at p k⟩
theorem ints_int9 : ∀ vs : List Value, (∀ v ∈ vs, isInt9 v) → IntsAre vs (vs.map intV9)
  | [], _ => .nil
  | v :: r, h => by
    obtain ⟨z, t, e⟩ := h v (List.mem_cons_self ..)
    rw [e]
    exact .cons z t (ints_int9 r fun u hu => h u (List.mem_cons_of_mem _ hu))
theorem ints_item9 : ∀ {us : List Value} {ns : List Int}, IntsAre us ns → ∀ (i : Nat) (v : Value), us[i]? = some v → ∃ z t, v = .int z t ∧ ns[i]? = some z
  | _, _, .nil, i, v, h => by simp at h
  | _, _, .cons z t r, 0, v, h => by
    have e : Value.int z t = v := by simpa using h
    exact ⟨z, t, e.symm, rfl⟩
  | _, _, .cons z t r, i + 1, v, h => by
    obtain ⟨z2, t2, e, h2⟩ := ints_item9 r i v (by simpa using h)
    exact ⟨z2, t2, e, by simpa using h2⟩
section
variable {P : Program} {w : World} {A : Around} {E : Value → Shared → Prop} {s : Shared}
abbrev IntSet (P : Program) (w : World) (h : Heap) (a : Addr) (S : Int → Bool) (n : Nat) : Prop := SetG (PySem.intKind P w) isInt9 intV9 h a S n
/-- the set's own way through what it is made of -/
theorem update_int9 {I : Addr} {fp wr : List Addr} {G : Array GenState → Array GenState → Prop} {n : Nat} {Pv : Nat → Value → Prop} {St : Nat → Shared → Prop} {R : Result → Shared → Prop}
    (W : WalksS P w A.in1 I fp wr G n Pv St) (S : Addr) (off : S ∉ fp) (zs : List Int) (ln : n = zs.length) (room : zs.length + 1 < scanBound) (each : ∀ i v, Pv i v → ∃ z t, zs[i]? = some z ∧ v = .int z t) (k : Nat) :
    ∀ (i : Nat) (s : Shared), n - i = k → i ≤ n → St i s → (∃ c, c ≤ i ∧ IntSet P w s.heap S (fun j => decide (j ∈ zs.take i)) c) →
      (∀ s' c, Moved (S :: wr) G s s' → c ≤ n → IntSet P w s'.heap S (fun j => decide (j ∈ zs)) c → R (.ok (.ret .none)) s') →
      codeAny (model P w) A (.builtin "set.update.loop" ⟨[.ref S, .ref I], []⟩) R s := by
  have offw : S ∉ wr := fun x => off (W.sub _ x)
  have wider : ∀ b ∈ wr, b ∈ S :: wr := fun b x => List.mem_cons_of_mem _ x
  induction k with
  | zero =>
    intro i s ek le st0 ⟨c, lc, tx⟩ fin
    obtain rfl : i = n := by omega
    refine codeAny_builtin F.entry_set_update_loop ?_
    rw [Around.under_plainId F.plain_set_update_loop _]
    refine (show wpAny _ A.in1 (pyNext (.ref I) >>= _) _ _ s from wpAny_bind (W.done s _ _ st0 fun s2 mv => ?_))
    rw [List.take_of_length_le (show zs.length ≤ i by omega)] at tx
    exact (show wpAny _ A.in1 (ret Value.none) _ _ s2 from wpAny_pure (fin s2 c (mv.mono wider) lc (tx.at fun o e => mv.heap S o offw e)))
  | succ k ih =>
    intro i s ek le st0 ⟨c, lc, tx⟩ fin
    have lt : i < n := by omega
    refine codeAny_builtin F.entry_set_update_loop ?_
    rw [Around.under_plainId F.plain_set_update_loop _]
    refine (show wpAny _ A.in1 (pyNext (.ref I) >>= _) _ _ s from wpAny_bind (W.item i s _ _ lt st0 fun v s2 pv st2 mv => ?_))
    obtain ⟨z, t, ez, rfl⟩ := each i v pv
    have tx2 : IntSet P w s2.heap S (fun j => decide (j ∈ zs.take i)) c := tx.at fun o e => mv.heap S o offw e
    refine (show wpAny _ A.in1 (holding [Value.int z t] (setAdd S (.int z t)) >>= _) _ _ s2 from wpAny_bind (wpAny_holding ?_))
    unfold setAdd
    refine wpAny_holding (wpAny_bind ((PySem.intKind P w).pyHash (k := z) ((int_in9 P w).self _ ⟨z, t, rfl⟩) ?_))
    refine setG_add_hashed (s := { s2 with toks := s2.toks + 1 }) (int_in9 P w) (v := .int z t) ⟨z, t, rfl⟩ tx2 (by omega) fun h2 sb tx3 => ?_
    have tx4 : IntSet P w h2 S (fun j => decide (j ∈ zs.take (i + 1))) (if decide (z ∈ zs.take i) = true then c else c + 1) := by
      have e : (fun j => decide (j ∈ zs.take (i + 1))) = fun j => decide (j ∈ zs.take i) || decide (j = z) := by
        funext j
        rw [List.take_add_one, ez, Bool.eq_iff_iff, Bool.or_eq_true, decide_eq_true_eq, decide_eq_true_eq, decide_eq_true_eq, List.mem_append]
        simp
      rw [e]
      exact tx3
    have lc4 : (if decide (z ∈ zs.take i) = true then c else c + 1) ≤ i + 1 := by
      split <;> omega
    have other : ∀ b, b ≠ S → h2.get? b = s2.heap.get? b := fun b x => sb.2 b x
    refine wpAny_pure ⟨plainId_quiet F.plain_set_update_loop _, ih (i + 1) _ (by omega) lt (W.frame _ s2 _ _ st2 (Nat.le_succ _) fun b fb o e => (other b fun x => off (x ▸ fb)).trans e) ⟨_, lc4, tx4⟩ fun s3 c3 mv3 lc3 tx5 => ?_⟩
    exact fin s3 c3 (Moved.trans W.gtrans ((mv.mono wider).then_heap (Nat.le_succ _) fun b o nb e => (other b fun x => nb (by rw [x]; exact List.mem_cons_self)).trans e) mv3) lc3 tx5
theorem newset_at9 {h : Heap} {a : Addr} (e : h.get? a = some { cls := .type "set", dict := none, data := .set #[] 0 (.fresh 0 0 (!w.params.followText "set-order")) }) : IntSet P w h a (fun _ => false) 0 := by
  refine ⟨_, #[], 0, _, e, ⟨rfl, rfl, rfl⟩, rfl, (fun e he => absurd he (by simp)), by simp, fun k => by simp, by decide, by rfl, rfl, List.Pairwise.nil, ?_⟩
  show _ ∨ (!w.params.followText "set-order") = true
  cases w.params.followText "set-order" <;> simp
/-- set(xs) -/
theorem call_set_int9 {l : Addr} {items : Array Value} (zs : List Int) {Q : Value → Shared → Prop} (hh : A.handled = none) (hl : s.heap.IsList l items) (hit : IntsAre items.toList zs) (room : zs.length + 1 < scanBound)
    (h : ∀ (h' : Heap) (tk c : Nat), IntSet P w h' s.heap.objs.size (fun j => decide (j ∈ zs)) c → c ≤ zs.length → (∀ b o, s.heap.get? b = some o → h'.get? b = some o) → Q (.ref s.heap.objs.size) { s with heap := h', toks := tk }) :
    wpAny (model P w) A (call (.type "set") [.ref l]) Q E s := by
  have isz : items.size = zs.length := by
    rw [← Array.length_toList]
    exact hit.length
  generalize hB : ({ cls := .type "set", dict := none, data := .set #[] 0 (.fresh 0 0 (!w.params.followText "set-order")) } : Obj) = blank
  obtain ⟨c, tl, hmro⟩ := F.called_set.mro
  have hmade := F.called_set.made
  have hsub := F.called_set.sub
  refine wpAny_call (codeAny_of_tree ?_)
  refine (show wpAny _ _ (callAny (.type "set") _) _ _ _ from wpAny_pure ⟨Code.quiet_builtin _ (by decide +kernel), codeAny_builtin F.entry_type_call ?_⟩)
  rw [Around.under_plain (weight_type_call_type "set" [.ref l] []) rfl]
  have c1 := F.called_set.notType
  have c2 := F.called_set.canCreate
  have c3 := F.typeCall_set_1 (.ref l)
  repeat (any_goals (first | assumption | wp_step))
  refine codeAny_mono (code_set_led1 (.ref l) (E := E) (Q₁ := fun obj s₁ => obj = .ref s.heap.objs.size ∧ s₁ = { s with heap := s.heap.push blank }) ⟨rfl, by rw [hB]⟩) fun r s₁ hr => ?_
  cases r with
  | error e => exact hr
  | ok fl =>
    cases fl with
    | ret obj =>
      obtain ⟨rfl, rfl⟩ := hr
      have bc : blank.cls = .type "set" := by rw [← hB]
      have bf : blank.isFreed = false := by rw [← hB]; rfl
      have atS : (s.heap.push blank).get? s.heap.objs.size = some blank := Heap.get?_push_size _ bf
      have hT : Shared.TypeIs { s with heap := s.heap.push blank } (.ref s.heap.objs.size) "set" := ⟨_, atS, bc⟩
      have d1 := F.called_set.init.lookup
      have d2 := F.called_set.init.bind (.ref s.heap.objs.size)
      repeat (any_goals (first | assumption | wp_step))
      refine codeAny_mono (codeAny_call_builtin (R := wants (fun r s₂ => r = .none ∧ ∃ h' tk c, s₂ = { s with heap := h', toks := tk } ∧ IntSet P w h' s.heap.objs.size (fun j => decide (j ∈ zs)) c ∧ c ≤ zs.length ∧
          (∀ b o, s.heap.get? b = some o → h'.get? b = some o)) E) F.called_set.init.plain F.entry_set_init (check_set_init_1 hT ?_)) fun r₂ s₂ hr₂ => ?_
      · obtain ⟨ol, hol, hcl, nl, hdl⟩ := hl
        obtain ⟨ocls, odict, odata, oslots⟩ := ol
        simp only at hcl hdl
        subst hcl; subst hdl
        have pk : ∀ b o, s.heap.get? b = some o → (s.heap.push blank).get? b = some o := fun b o e => Heap.get?_push_of_some _ e
        have hol' := pk _ _ hol
        have n1 := F.sub_list_set
        have n2 := F.sub_list_frozenset
        have n3 : (Value.type "list" == Value.type "dict") = false := by decide
        have hl1 : (s.heap.push blank).IsList l items := ⟨_, hol', rfl, nl, rfl⟩
        have lS : @LT.lt Nat _ l s.heap.objs.size := Heap.lt_size hol
        have sz : (s.heap.push blank).objs.size = s.heap.objs.size + 1 := Heap.size_push ..
        have lI : l ≠ (s.heap.push blank).objs.size := fun x => by
          have x : @Eq Nat l (s.heap.push blank).objs.size := x
          omega
        have offS : s.heap.objs.size ∉ [(s.heap.push blank).objs.size, l] := fun x => by
          rcases List.mem_cons.mp x with x | x
          · omega
          · have x : @Eq Nat s.heap.objs.size l := List.mem_singleton.mp x
            omega
        have below : ∀ b : Nat, b < s.heap.objs.size → b ∉ s.heap.objs.size :: [(s.heap.push blank).objs.size] := fun b lb x => by
          rcases List.mem_cons.mp x with x | x
          · omega
          · have x : @Eq Nat b (s.heap.push blank).objs.size := List.mem_singleton.mp x
            omega
        clear sz bc bf
        subst hB
        unfold Builtin.«set.__init__» noKeywords Builtin.Frozenset.updateFrom
        generalize hPI : pyIter = PI
        wp_walk
        subst hPI
        refine wpAny_pyIter_list hl1 ?_
        refine wpAny_bind (wpAny_runValue ?_)
        have h3 : A.in1.in1.in1.handled = none := by simp [hh]
        have each : ∀ (i : Nat) (v : Value), items[i]? = some v → ∃ z t, zs[i]? = some z ∧ v = .int z t := fun i v hv => by
          obtain ⟨z, t, e1, e2⟩ := ints_item9 hit i v (by rw [Array.getElem?_toList]; exact hv)
          exact ⟨z, t, e2, e1⟩
        refine update_int9 ((Walks.list h3 _ l lI items).toS) s.heap.objs.size offS zs isz room each (items.size - 0) 0 _ (by omega) (Nat.zero_le _) ⟨⟨_, Heap.get?_push_size _ rfl, rfl, rfl⟩, (hl1.push _)⟩ ⟨0, Nat.le_refl 0, ?_⟩ fun s' c' mv lc tx => ?_
        · have e : (fun j : Int => decide (j ∈ zs.take 0)) = fun _ => false := by
            funext j
            simp
          rw [e]
          exact newset_at9 (Heap.get?_push_of_some _ atS)
        · obtain ⟨h', g2, d', tk', os'⟩ := s'
          obtain rfl : g2 = s.gens := mv.gens
          obtain rfl : d' = s.drawn := mv.drawn
          obtain rfl : os' = s.os := mv.os
          rw [isz] at lc
          refine (show wpAny _ _ _ _ _ _ from wpAny_pure (show wpAny _ _ (ret Value.none) _ _ _ from wpAny_pure ⟨rfl, h', tk', c', rfl, tx, lc, fun b o e => ?_⟩))
          have lb : @LT.lt Nat _ b s.heap.objs.size := Heap.lt_size e
          exact mv.heap b o (below b lb) (Heap.get?_push_of_some _ (pk _ _ e))
      · cases r₂ with
        | error e => exact hr₂
        | ok fl₂ =>
          cases fl₂ with
          | ret r =>
            obtain ⟨rfl, h', tk, c', rfl, tx, lc, kp⟩ := hr₂
            repeat (any_goals (first | assumption | wp_step))
            exact h _ _ _ tx lc kp
          | _ => exact hr₂.elim
    | _ => exact hr.elim
end
/-- set(xs) of ints -/
def rSetInt (K : PySem.W.Frag) (P : Program) (w : World) : List V → Hp → VK → Prop := fun vs H Q => ∃ (l : Addr) (zs : List Int), vs = [.ref l] ∧ SqL K H l (zs.map V.int) ∧ zs.length < 1000 ∧
  ∀ p n, H p = none → n ≤ zs.length → Q (.ref p) (upd H p (SetN P w p (fun j => decide (j ∈ zs)) n))
theorem cr_setInt {X : Cx} (hc : X.calm = true) : CallR X (.type "set") (rSetInt X.K X.prog X.w) := by
  intro pins s σ H vs us Q I r h
  obtain ⟨l, zs, rfl, hl, hn, q⟩ := h
  rw [Vals.ref1 r]
  obtain ⟨its, rv, pl, _⟩ := I.list hl
  have hst : IntsAre its.toArray.toList zs := rv.ints
  refine call_set_int9 zs (I.ok.hd hc) pl.isList hst (Nat.lt_of_lt_of_le (show zs.length + 1 < 1001 by omega) (by decide)) fun h' tk c tx lc kp => ?_
  exact ⟨.ref _, _, I.laid (t' := tk) kp (Nat.le_refl _) (setN_new tx), rfl, q _ c (I.hok.fresh (Nat.le_refl _)) lc⟩
/-- sorted(a set of ints) -/
def rSortSetI (P : Program) (w : World) : List V → Hp → VK → Prop := fun vs H Q => ∃ (a : Addr) (S : Int → Bool) (n : Nat), vs = [V.ref a] ∧ H a = some (SetN P w a S n) ∧ n < 64 ∧
  ∀ (ys : List Int) (p : Addr), ys.Pairwise (· < ·) → (∀ z, z ∈ ys ↔ S z = true) → ys.length = n → H p = none → Q (.ref p) (upd H p (.lst (ys.map V.int)))
theorem cr_sortSetI {X : Cx} (hc : X.calm = true) : CallR X (.builtin "sorted") (rSortSetI X.prog X.w) := by
  intro pins s σ H vs us Q I r h
  obtain ⟨a, S, n, rfl, ha, h64, q⟩ := h
  rw [Vals.ref1 r]
  have hG : SetG (PySem.intKind X.prog X.w) isInt9 intV9 s.heap a S n := (I.hok a _ ha).1
  obtain ⟨ob, ents, age, tab, hob, hex, hd, g, nd, hm, hb, hf, hn, hr, hl⟩ := hG
  refine Calls.call_function_entry kind_sorted plain_sorted entry_sorted (args_sorted1 _) ?_
  unfold Builtin.«sorted»
  refine wpAny_bind (m := checkCount "sorted" 1 1 _) (wpAny_pure ?_)
  refine wpAny_bind (collect_set (A := X.A.in1) (I.ok.hd hc) ⟨ob, hob, hex.1, hd⟩ hf hb hr hl fun s1 vals k1 big g1 o1 pm => ?_)
  have lenv : vals.length = n := by rw [pm.length_eq, List.length_map, Array.length_toList]; exact hn
  have hS : IntsAre vals (vals.map intV9) := ints_int9 vals fun v hv => by
    obtain ⟨e, he, rfl⟩ := List.mem_map.mp (pm.mem_iff.mp hv)
    exact (g e he).1
  have pk : (vals.map intV9).Perm (ents.toList.map fun e => intV9 e.2) := by
    have z := pm.map intV9
    rw [List.map_map] at z
    exact z
  refine wpAny_bind (wpAny_newList ?_ (by rw [lenv, sizeLine_eq]; omega))
  have hoL : (s1.heap.push (seqObj "list" vals.toArray 0)).get? s1.heap.objs.size = some (seqObj "list" vals.toArray 0) := Heap.get?_push_size _ rfl
  refine wpAny_bind (wpAny_holding (wpAny_call_entry slot_list_sort ⟨_, hoL, rfl⟩ entry_list_sort
    (SrtO.list_sort_ord SrtO.swo_int hoL (by rw [lenv, sizeLine_eq]; omega) (fun h2 => SrtO.ints_sortable hS h2) fun out a1 a2 => ⟨_, rfl, ?_⟩) (args_list_sort _)))
  obtain ⟨h1, h2, h3⟩ := SrtO.ints_out hS a1 a2
  generalize out.map SrtO.iv = ys at h1 h2 h3
  obtain ⟨c, hc2⟩ := sortedHeap_at (vs := vals) (out := out.toArray) hoL
  have py : ys.Perm (ents.toList.map fun e => intV9 e.2) := h2.trans pk
  have ly : ys.length = n := by rw [py.length_eq, List.length_map, Array.length_toList]; exact hn
  have kall : ∀ b u, s.heap.get? b = some u → (sortedHeap (s1.heap.push (seqObj "list" vals.toArray 0)) s1.heap.objs.size vals out.toArray).get? b = some u := fun b u e => by
    have z := k1 b u e
    have lt := Heap.lt_size z
    rw [sortedHeap_old (Nat.ne_of_lt lt) (by rw [size_push']; exact Nat.lt_succ_of_lt lt)]
    exact Heap.get?_push_of_some _ z
  have hp : H s1.heap.objs.size = none := I.hok.fresh big
  have lenY : (ys.map V.int).length ≤ sizeLine := by rw [List.length_map, ly, sizeLine_eq]; omega
  generalize hs3 : ({ s1 with heap := sortedHeap (s1.heap.push (seqObj "list" vals.toArray 0)) s1.heap.objs.size vals out.toArray } : Shared) = s3
  have hh : s3.heap = sortedHeap (s1.heap.push (seqObj "list" vals.toArray 0)) s1.heap.objs.size vals out.toArray := by rw [← hs3]
  have gg : s3.gens = s.gens := by rw [← hs3]; exact g1
  have oo : s3.os = s.os := by rw [← hs3]; exact o1
  have J : Inv X pins σ (upd H s1.heap.objs.size (.lst (ys.map V.int))) { s with heap := s3.heap, gens := s3.gens, drawn := s3.drawn, toks := s3.toks } :=
    I.call (ch := []) (Un.laid (by rw [hh]; exact kall) big hp) (I.hok.laid (by rw [hh]; exact kall) big ⟨lenY, _, c, vals_of_ints h1, by rw [hh]; exact hc2⟩) (by rw [gg]; exact I.bare) (fun _ z => nomatch z)
  have es : s3 = { s with heap := s3.heap, gens := s3.gens, drawn := s3.drawn, toks := s3.toks } := by
    clear J hs3 hh gg
    cases s3
    cases s
    cases oo
    rfl
  refine wpAny_pure ⟨_, rfl, ?_⟩
  show EP X pins σ Q (.ref s1.heap.objs.size) _
  have ndy : ys.Nodup := py.nodup_iff.mpr nd
  have asc : ys.Pairwise (· < ·) := by
    refine List.Pairwise.imp₂ ?_ h3 ndy
    intro x y h4 h5
    have h6 : x ≠ y := h5
    omega
  have fin : EP X pins σ Q (.ref s1.heap.objs.size) s3 := by
    rw [es]
    exact ⟨.ref _, _, J, rfl, q ys _ asc (fun z => by rw [py.mem_iff, ← hm z]) ly hp⟩
  exact fin
end Mz
set_option Elab.async false
set_option linter.all false
/-! settings of one kind: ranks of values and pages say what pairs of places say -/
namespace Mz
namespace K11
/-- how many of a list's numbers are less -/
def rank (ys : List Int) (x : Int) : Nat := (ys.filter fun y => decide (y < x)).length
theorem rank_at : ∀ {ys : List Int} {i : Nat} {x : Int}, ys.Pairwise (· < ·) → ys[i]? = some x → rank ys x = i
  | [], i, x, _, h => by simp at h
  | y :: r, 0, x, hp, h => by
    obtain ⟨h1, h2⟩ := List.pairwise_cons.mp hp
    have e : y = x := by simpa using h
    subst e
    have : (y :: r).filter (fun z => decide (z < y)) = [] := by
      rw [List.filter_eq_nil_iff]
      intro z hz
      rcases List.mem_cons.mp hz with rfl | hz
      · simp
      · have := h1 z hz
        simp
        omega
    unfold rank
    rw [this]
    rfl
  | y :: r, i + 1, x, hp, h => by
    obtain ⟨h1, h2⟩ := List.pairwise_cons.mp hp
    have h3 : r[i]? = some x := by simpa using h
    have h4 := h1 x (List.mem_of_getElem? h3)
    have := rank_at h2 h3
    unfold rank at this ⊢
    rw [List.filter_cons_of_pos (by simpa using h4), List.length_cons, this]
theorem at_lt : ∀ {ys : List Int} {i j : Nat} {a b : Int}, ys.Pairwise (· < ·) → ys[i]? = some a → ys[j]? = some b → (a < b ↔ i < j)
  | [], i, j, a, b, _, h, _ => by simp at h
  | y :: r, 0, 0, a, b, _, h1, h2 => by
    rw [h1] at h2
    cases h2
    omega
  | y :: r, 0, j + 1, a, b, hp, h1, h2 => by
    obtain ⟨p1, _⟩ := List.pairwise_cons.mp hp
    have e : y = a := by simpa using h1
    have := p1 b (List.mem_of_getElem? (by simpa using h2))
    omega
  | y :: r, i + 1, 0, a, b, hp, h1, h2 => by
    obtain ⟨p1, _⟩ := List.pairwise_cons.mp hp
    have e : y = b := by simpa using h2
    have := p1 a (List.mem_of_getElem? (by simpa using h1))
    omega
  | y :: r, i + 1, j + 1, a, b, hp, h1, h2 => by
    obtain ⟨_, p2⟩ := List.pairwise_cons.mp hp
    have := at_lt (i := i) (j := j) p2 (by simpa using h1) (by simpa using h2)
    omega
theorem rank_lt {ys : List Int} {a b : Int} (hp : ys.Pairwise (· < ·)) (ha : a ∈ ys) (hb : b ∈ ys) : a < b ↔ rank ys a < rank ys b := by
  obtain ⟨i, hi, h1⟩ := List.getElem_of_mem ha
  obtain ⟨j, hj, h2⟩ := List.getElem_of_mem hb
  have e1 : ys[i]? = some a := by rw [List.getElem?_eq_getElem hi, h1]
  have e2 : ys[j]? = some b := by rw [List.getElem?_eq_getElem hj, h2]
  rw [rank_at hp e1, rank_at hp e2]
  exact at_lt hp e1 e2
theorem nodup_le {α : Type} [DecidableEq α] : ∀ (l D : List α), l.Nodup → (∀ x ∈ l, x ∈ D) → l.length ≤ D.length
  | [], _, _, _ => Nat.zero_le _
  | x :: l, D, nd, h => by
    obtain ⟨n1, n2⟩ := List.nodup_cons.mp nd
    have hx := h x List.mem_cons_self
    have ih := nodup_le l (D.erase x) n2 fun y hy => (List.mem_erase_of_ne (fun e : y = x => n1 (by rw [← e]; exact hy))).mpr (h y (List.mem_cons_of_mem _ hy))
    rw [List.length_erase_of_mem hx] at ih
    have : 0 < D.length := List.length_pos_of_mem hx
    rw [List.length_cons]
    omega
/-- all of a list's numbers, and no others, in ascending order -/
def Asc (ys : List Int) (n : Nat) (f : Nat → Int) : Prop := ys.Pairwise (· < ·) ∧ ∀ z, z ∈ ys ↔ ∃ i, i < n ∧ f i = z
theorem nodup_map {α β : Type} (h : α → β) : ∀ (l : List α), l.Nodup → (∀ x ∈ l, ∀ y ∈ l, h x = h y → x = y) → (l.map h).Nodup
  | [], _, _ => List.Pairwise.nil
  | x :: l, nd, inj => by
    obtain ⟨n1, n2⟩ := List.nodup_cons.mp nd
    rw [List.map_cons, List.nodup_cons]
    refine ⟨fun m => ?_, nodup_map h l n2 fun a ha b hb => inj a (List.mem_cons_of_mem _ ha) b (List.mem_cons_of_mem _ hb)⟩
    obtain ⟨y, hy, e⟩ := List.mem_map.mp m
    have := inj y (List.mem_cons_of_mem _ hy) x List.mem_cons_self e
    exact n1 (this ▸ hy)
theorem rank_le {ys zs : List Int} {n : Nat} {f g : Nat → Int} (hy : Asc ys n f) (hz : Asc zs n g) (h : ∀ i j, i < n → j < n → (f i < f j ↔ g i < g j)) {i : Nat} (hi : i < n) : rank ys (f i) ≤ rank zs (g i) := by
  have ch : ∀ z : Int, ∃ k, z ∈ ys → k < n ∧ f k = z := fun z => by
    by_cases m : z ∈ ys
    · obtain ⟨k, a, b⟩ := (hy.2 z).mp m
      exact ⟨k, fun _ => ⟨a, b⟩⟩
    · exact ⟨0, fun m2 => absurd m2 m⟩
  let κ : Int → Nat := fun z => Classical.choose (ch z)
  have hκ : ∀ z, z ∈ ys → κ z < n ∧ f (κ z) = z := fun z => Classical.choose_spec (ch z)
  have mem : ∀ z, z ∈ ys.filter (fun y => decide (y < f i)) → z ∈ ys ∧ z < f i := fun z m => by
    obtain ⟨m1, m2⟩ := List.mem_filter.mp m
    exact ⟨m1, of_decide_eq_true m2⟩
  have ndy : ys.Nodup := hy.1.imp fun hab => Int.ne_of_lt hab
  have nd := nodup_map (fun z => g (κ z)) (ys.filter fun y => decide (y < f i)) (ndy.filter _) fun x hx y hy2 e => by
    obtain ⟨a1, a2⟩ := hκ x (mem x hx).1
    obtain ⟨b1, b2⟩ := hκ y (mem y hy2).1
    have e1 := h (κ x) (κ y) a1 b1
    have e2 := h (κ y) (κ x) b1 a1
    have e : g (κ x) = g (κ y) := e
    rw [a2, b2] at e1
    rw [a2, b2] at e2
    omega
  have := nodup_le _ (zs.filter fun y => decide (y < g i)) nd fun x hx => by
    obtain ⟨z, hz2, rfl⟩ := List.mem_map.mp hx
    obtain ⟨a1, a2⟩ := hκ z (mem z hz2).1
    refine List.mem_filter.mpr ⟨(hz.2 _).mpr ⟨_, a1, rfl⟩, decide_eq_true ?_⟩
    refine (h _ _ a1 hi).mp ?_
    rw [a2]
    exact (mem z hz2).2
  rw [List.length_map] at this
  exact this
/-- ranks are alike just where each two are -/
theorem ranks_iff {ys zs : List Int} {n : Nat} {f g : Nat → Int} (hy : Asc ys n f) (hz : Asc zs n g) : (∀ i, i < n → rank ys (f i) = rank zs (g i)) ↔ ∀ i j, i < n → j < n → (f i < f j ↔ g i < g j) := by
  constructor
  · intro h i j hi hj
    rw [rank_lt hy.1 ((hy.2 _).mpr ⟨i, hi, rfl⟩) ((hy.2 _).mpr ⟨j, hj, rfl⟩), rank_lt hz.1 ((hz.2 _).mpr ⟨i, hi, rfl⟩) ((hz.2 _).mpr ⟨j, hj, rfl⟩), h i hi, h j hj]
  · intro h i hi
    exact Nat.le_antisymm (rank_le hy hz h hi) (rank_le hz hy (fun a b ha hb => (h a b ha hb).symm) hi)
/-! pages -/
theorem pg_mono {p a b : Int} (hp : 0 < p) (h : a ≤ b) : a / p ≤ b / p := Int.ediv_le_ediv hp h
theorem pg1 {p a b : Int} (hp : 0 < p) : a / p < b / p ↔ a < b ∧ ¬ a / p = b / p := by
  by_cases h : a < b
  · have := pg_mono hp (show a ≤ b by omega)
    omega
  · have := pg_mono hp (show b ≤ a by omega)
    omega
theorem pg2 {p a b : Int} (hp : 0 < p) : (a - 1) / p < b / p ↔ ¬ b < a ∧ ¬ (a - 1) / p = b / p := by
  by_cases h : b < a
  · have := pg_mono hp (show b ≤ a - 1 by omega)
    omega
  · have := pg_mono hp (show a - 1 ≤ b by omega)
    omega
theorem pg3 {p a b : Int} (hp : 0 < p) : a / p < (b - 1) / p ↔ a < b ∧ ¬ (b - 1) / p = a / p := by
  by_cases h : a < b
  · have := pg_mono hp (show a ≤ b - 1 by omega)
    omega
  · have := pg_mono hp (show b - 1 ≤ a by omega)
    omega
theorem pg4 {p a b : Int} (hp : 0 < p) : (a - 1) / p < (b - 1) / p ↔ a < b ∧ ¬ ((a - 1) / p = a / p ∧ (b - 1) / p = a / p) := by
  by_cases h : a < b
  · have h1 := pg_mono hp (show a ≤ b - 1 by omega)
    have h2 := pg_mono hp (show a - 1 ≤ a by omega)
    omega
  · have := pg_mono hp (show b - 1 ≤ a - 1 by omega)
    omega
/-- the pages, and behind them the pages ahead -/
def pgs (n : Nat) (p : Int) (f : Nat → Int) (i : Nat) : Int := if i < n then f i / p else (f (i - n) - 1) / p
theorem pgs_lo {n i : Nat} {p : Int} {f : Nat → Int} (h : i < n) : pgs n p f i = f i / p := if_pos h
theorem pgs_hi {n i : Nat} {p : Int} {f : Nat → Int} : pgs n p f (n + i) = (f i - 1) / p := by
  unfold pgs
  rw [if_neg (by omega), Nat.add_sub_cancel_left]
/-- what the law compares of each two -/
def Like (n : Nat) (p q : Int) (f g : Nat → Int) : Prop := ∀ i j, i < n → j < n → (f i < f j ↔ g i < g j) ∧ (f i / p = f j / p ↔ g i / q = g j / q) ∧ ((f i - 1) / p = f j / p ↔ (g i - 1) / q = g j / q)
theorem like_iff {n : Nat} {p q : Int} {f g : Nat → Int} (hp : 0 < p) (hq : 0 < q) : Like n p q f g ↔ (∀ i j, i < n → j < n → (f i < f j ↔ g i < g j)) ∧ ∀ i j, i < n + n → j < n + n → (pgs n p f i < pgs n p f j ↔ pgs n q g i < pgs n q g j) := by
  constructor
  · intro h
    refine ⟨fun i j hi hj => (h i j hi hj).1, fun i j hi hj => ?_⟩
    by_cases ci : i < n
    · by_cases cj : j < n
      · obtain ⟨a, b, _⟩ := h i j ci cj
        rw [pgs_lo ci, pgs_lo cj, pgs_lo ci, pgs_lo cj, pg1 hp, pg1 hq, a, b]
      · obtain ⟨m, rfl⟩ : ∃ m, j = n + m := ⟨j - n, by omega⟩
        obtain ⟨a, _, _⟩ := h i m ci (by omega)
        obtain ⟨_, _, c⟩ := h m i (by omega) ci
        rw [pgs_lo ci, pgs_hi, pgs_lo ci, pgs_hi, pg3 hp, pg3 hq, a, c]
    · obtain ⟨k, rfl⟩ : ∃ k, i = n + k := ⟨i - n, by omega⟩
      by_cases cj : j < n
      · obtain ⟨_, _, c⟩ := h k j (by omega) cj
        obtain ⟨a, _, _⟩ := h j k cj (by omega)
        rw [pgs_hi, pgs_lo cj, pgs_hi, pgs_lo cj, pg2 hp, pg2 hq, a, c]
      · obtain ⟨m, rfl⟩ : ∃ m, j = n + m := ⟨j - n, by omega⟩
        obtain ⟨a, _, _⟩ := h k m (by omega) (by omega)
        obtain ⟨_, _, c⟩ := h k k (by omega) (by omega)
        obtain ⟨_, _, d⟩ := h m k (by omega) (by omega)
        rw [pgs_hi, pgs_hi, pgs_hi, pgs_hi, pg4 hp, pg4 hq, a, c, d]
  · rintro ⟨h1, h2⟩ i j hi hj
    have eq : ∀ {a b c d : Int}, (a < b ↔ c < d) → (b < a ↔ d < c) → (a = b ↔ c = d) := fun x y => by omega
    refine ⟨h1 i j hi hj, eq ?_ ?_, eq ?_ ?_⟩
    · have := h2 i j (by omega) (by omega)
      rwa [pgs_lo hi, pgs_lo hj, pgs_lo hi, pgs_lo hj] at this
    · have := h2 j i (by omega) (by omega)
      rwa [pgs_lo hi, pgs_lo hj, pgs_lo hi, pgs_lo hj] at this
    · have := h2 (n + i) j (by omega) (by omega)
      rwa [pgs_hi, pgs_lo hj, pgs_hi, pgs_lo hj] at this
    · have := h2 j (n + i) (by omega) (by omega)
      rwa [pgs_hi, pgs_lo hj, pgs_hi, pgs_lo hj] at this
/-- ranks of values and of pages are alike just where what the law compares is -/
theorem kinds_iff {ys zs us vs : List Int} {n : Nat} {p q : Int} {f g : Nat → Int} (hp : 0 < p) (hq : 0 < q) (hy : Asc ys n f) (hz : Asc zs n g) (hu : Asc us (n + n) (pgs n p f)) (hv : Asc vs (n + n) (pgs n q g)) :
    ((∀ i, i < n → rank ys (f i) = rank zs (g i)) ∧ ∀ i, i < n + n → rank us (pgs n p f i) = rank vs (pgs n q g i)) ↔ Like n p q f g := by
  rw [ranks_iff hy hz, ranks_iff hu hv, like_iff hp hq]
end K11
end Mz
set_option Elab.async false
set_option linter.all false
set_option maxRecDepth 100000
set_option maxHeartbeats 4000000
namespace Mz
open PySem L2
/-! the text by places -/
def top (i : Nat) : Stmt := PySem.Challenge.pw_mapsizes_k11_settings_of_one_kind.main.body.getD i (.Pass ⟨0, 0, 0, 0⟩)
abbrev sMapError : Stmt := top 2
abbrev sInvInt : Stmt := top 3
abbrev sInvPlace : Stmt := top 5
abbrev sInvPlaces : Stmt := top 6
abbrev sInvSet : Stmt := top 7
abbrev sWhole : Stmt := top 15
abbrev sIsInt : Stmt := top 16
abbrev sIsFrom : Stmt := top 17
abbrev sIsName : Stmt := top 18
abbrev sIsPlace : Stmt := top 19
abbrev sIsList : Stmt := top 20
abbrev sUnkOf : Stmt := top 21
abbrev sLeast : Stmt := top 22
abbrev sParts : Stmt := top 23
abbrev sPlace : Stmt := top 24
abbrev sHasSizes : Stmt := top 28
abbrev sAreSizes : Stmt := top 29
abbrev sSetting : Stmt := top 30
abbrev sRanks : Stmt := top 33
abbrev sKind : Stmt := top 34
abbrev sKindOf : Stmt := top 35
abbrev sPlaced : Stmt := top 36
abbrev sSameKind : Stmt := top 37
abbrev sCell : Stmt := top 39
abbrev sBox : Stmt := top 40
abbrev sTake : Stmt := top 41
abbrev sPair6 : Stmt := top 42
abbrev sTold6 : Stmt := top 43
abbrev sRoots6 : Stmt := top 44
abbrev sSizePair : Stmt := top 45
abbrev sGreat : Stmt := top 46
abbrev sMuch : Stmt := top 47
abbrev sLKind : Stmt := top 48
abbrev sOther : Stmt := top 49
abbrev sStrange : Stmt := top 50
abbrev sLaw : Stmt := top 51
end Mz
set_option Elab.async false
set_option linter.all false
set_option maxRecDepth 100000
set_option maxHeartbeats 4000000
/-! the draws: a cell of the script, its box, a digit out of the box -/
namespace Mz
open PySem PySem.Spec PyProof.Rows L2
/-- all that was tracked, but what stands at b, stands as it stood -/
def Kp (b : Addr) (H H' : Hp) : Prop := ∀ p o, p ≠ b → H p = some o → H' p = some o
theorem Kp.refl {b : Addr} {H : Hp} : Kp b H H := fun _ _ _ e => e
theorem Kp.trans {b : Addr} {H H1 H2 : Hp} (x : Kp b H H1) (y : Kp b H1 H2) : Kp b H H2 := fun p o n e => y p o n (x p o n e)
theorem Kp.fresh {b p : Addr} {H : Hp} {o : HO} (h : H p = none) : Kp b H (upd H p o) := fun q u _ e => by
  rw [upd_ne (ne_of_none e h)]
  exact e
theorem Kp.here {b : Addr} {H : Hp} {o : HO} : Kp b H (upd H b o) := fun q u n e => by
  rw [upd_ne n]
  exact e
/-- a box: what is left of the cell, its seed, how many digits were mixed (at most n) -/
def Bx (H : Hp) (b : Addr) (n : Nat) : Prop := ∃ x y z : Int, H b = some (.lst [.int x, .int y, .int z]) ∧ 0 ≤ x ∧ 0 ≤ y ∧ y < 2147483563 ∧ 0 ≤ z ∧ z ≤ (n : Int)
theorem Bx.upd {H : Hp} {b p : Addr} {n : Nat} {o : HO} (h : Bx H b n) (hp : H p = none) : Bx (upd H p o) b n := by
  obtain ⟨x, y, z, e, r⟩ := h
  exact ⟨x, y, z, by rw [upd_ne (ne_of_none e hp)]; exact e, r⟩
theorem Bx.more {H : Hp} {b : Addr} {n m : Nat} (h : Bx H b n) (le : n ≤ m) : Bx H b m := by
  obtain ⟨x, y, z, e, h1, h2, h3, h4, h5⟩ := h
  exact ⟨x, y, z, e, h1, h2, h3, h4, by omega⟩
def spCell (K : PySem.W.Frag) : Sp := fun vs H Q _ => ∃ (a : Addr) (ns : List Int) (k : Nat), vs = [.ref a, .int k] ∧ SqL K H a (ns.map V.int) ∧ k < 1000 ∧ ∀ i : Int, Q (.int i) H
def spBox : Sp := fun vs H Q _ => ∃ i : Int, vs = [.int i] ∧ ∀ (b : Addr) (H' : Hp), H b = none → Bx H' b 0 → Kp b H H' → Q (.ref b) H'
def spTake : Sp := fun vs H Q _ => ∃ (b : Addr) (n : Nat) (m : Int), vs = [.ref b, .int m] ∧ Bx H b n ∧ n ≤ 1000000 ∧ 0 < m ∧ m < 2 ^ 64 ∧
  ∀ (r : Int) (H' : Hp), 0 ≤ r → r < m → Bx H' b (n + 1) → Kp b H H' → Q (.int r) H'
/-- the built-ins that the draws call -/
structure Blt (mg : Str → Option Value) : Prop where
  len : mg "len" = none
  max : mg "max" = none
  min : mg "min" = none
  int : mg "int" = none
  range : mg "range" = none
section
variable {P : Program} {w : World} {K : PySem.W.Frag} {mg : Str → Option Value} {base : Heap}
theorem scCell : FnScope ["_law_script", "_law_k"] ["_law_script", "_law_k"] (defScope sCell) := ⟨rfl, rfl, rfl, by decide +kernel, rfl, by decide +kernel, by decide +kernel⟩
theorem ok_cell {f : Addr} {fd : FuncData} (F : Fun K "_law_cell" "_law_cell" sCell f fd) (B : Blt mg) : FnOk P w K mg base CX0 1 f fd ["_law_script", "_law_k"] (spCell K) := by
  refine F.ok scCell (fun vs H Q E h => ?_) (fun cdv A outer s H vs Q E hr h => ?_)
  · obtain ⟨a, ns, k, rfl, _⟩ := h
    rfl
  · obtain ⟨a, ns, k, rfl, hS, hk, q⟩ := h
    refine ⟨_, pss_one (ps_ret (pe_ifExp (pt_cmpR op_lt (pv 1) (pe_callB call_len_seq (by rfl) B.len PySem.boot_len (pa_cons (pv 0) pa_nil)) (nomark _))
      (pe_ix ix_list (pv 0) (pv 1) (fun _ _ => rfl)) (pe_op op_add (pe_op op_mul pe_int (pv 1)) pe_int))), ?_⟩
    refine ⟨_, rfl, _, rfl, a, _, rfl, .inl hS, _, _, rfl, rfl, _, rfl, ?_⟩
    refine ite2 (fun hc => ?_) (fun _ => ?_)
    · have hlt : k < ns.length := by
        have z := of_decide_eq_true hc
        rw [List.length_map] at z
        omega
      exact ⟨_, rfl, _, rfl, a, _, _, _, rfl, rfl, hS, atI_nat (v := V.int (ns[k])) (by rw [List.getElem?_map, List.getElem?_eq_getElem hlt]; rfl), q _⟩
    · exact ⟨_, rfl, _, _, rfl, rfl, .inl ⟨by decide, by decide⟩, _, _, rfl, rfl, q _⟩
theorem scBox : FnScope ["_law_cell_here"] ["_law_cell_here"] (defScope sBox) := ⟨rfl, rfl, rfl, by decide +kernel, rfl, by decide +kernel, by decide +kernel⟩
theorem ok_box {f : Addr} {fd : FuncData} (F : Fun K "_law_box" "_law_box" sBox f fd) (B : Blt mg) : FnOk P w K mg base CX0 1 f fd ["_law_cell_here"] spBox := by
  refine F.ok scBox (fun vs H Q E h => ?_) (fun cdv A outer s H vs Q E hr h => ?_)
  · obtain ⟨i, rfl, _⟩ := h
    rfl
  · obtain ⟨i, rfl, q⟩ := h
    refine ⟨_, pss_one (ps_ret (pe_lst (pa_cons (pe_callB (call_max2 rfl) (by rfl) B.max (by decide +kernel) (pa_cons pe_int (pa_cons (pe_op op_sub (pv 0) (pe_op op_pow pe_int pe_int)) pa_nil)))
      (pa_cons (pe_op op_mod (pe_callTy call_int1 (by rfl) B.int (by decide +kernel) (pa_cons (pv 0) pa_nil)) pe_int) (pa_cons pe_int pa_nil))))), ?_⟩
    refine ⟨_, rfl, _, _, rfl, rfl, ⟨by decide, by decide, by decide⟩, _, _, rfl, rfl, _, _, rfl, ?_⟩
    refine ⟨_, rfl, .inl ⟨_, rfl, _, _, rfl, rfl, (by show (0 : Int) < 2147483563; decide), ?_⟩⟩
    refine ⟨(by show 3 ≤ sizeLine; decide), fun p np => q p _ np ⟨_, _, _, upd_same, ?_, ?_, ?_, by decide, by decide⟩ (Kp.fresh np)⟩
    · split <;> omega
    · exact Int.emod_nonneg _ (by decide)
    · exact Int.emod_lt_of_pos _ (by decide)
theorem scTake : FnScope ["_law_box_here", "_law_many", "_law_digit", "_law_mixed"] ["_law_box_here", "_law_many"] (defScope sTake) := ⟨rfl, rfl, rfl, by decide +kernel, rfl, by decide +kernel, by decide +kernel⟩
theorem fmod_low {i j : Int} (h : 0 < j) : 0 ≤ i.fmod j := Int.fmod_nonneg_of_pos i h
theorem fmod_high {i j : Int} (h : 0 < j) : i.fmod j < j := Int.fmod_lt_of_pos i h
theorem small_log {m : Int} (h0 : 0 < m) (h : m < 2 ^ 64) : m.natAbs.log2 < 9000 := by
  have h1 : m.natAbs < 2 ^ 64 := by omega
  exact Nat.lt_of_lt_of_le (PySem.Flt.log2_lt_of (by decide) h1) (by decide)
theorem ok_take {f : Addr} {fd : FuncData} (F : Fun K "_law_take" "_law_take" sTake f fd) (B : Blt mg) : FnOk P w K mg base CX0 1 f fd ["_law_box_here", "_law_many"] spTake := by
  refine F.ok scTake (fun vs H Q E h => ?_) (fun cdv A outer s H vs Q E hr h => ?_)
  · obtain ⟨b, n, m, rfl, _⟩ := h
    rfl
  · obtain ⟨b, n, m, rfl, ⟨x, y, z, hb, x0, y0, y1, z0, z1⟩, hn, m0, m1, q⟩ := h
    have nd := scTake.nd
    refine ⟨_, pss_cons (ps_if (pt_cmpR op_gt (pe_ix ix_list (pv 0) pe_int (fun _ _ => rfl)) pe_int (nomark _))
        (pss_cons (ps_set (i := 2) nd rfl (Or.inl rfl) (pe_op op_modN (pe_callTy call_int1 (by rfl) B.int (by decide +kernel) (pa_cons (pe_ix ix_list (pv 0) pe_int (fun _ _ => rfl)) pa_nil)) (pv 1)))
        (pss_cons (ps_asg (pe_op op_fdivW (pe_ix ix_list (pv 0) pe_int (fun _ _ => rfl)) (pv 1)) (pg_sub (pv 0) pe_int set_list))
        (pss_one (ps_ret (pv 2))))) pss_nil)
      (pss_cons (ps_asg (pe_op op_add (pe_ix ix_list (pv 0) pe_int (fun _ _ => rfl)) pe_int) (pg_sub (pv 0) pe_int set_list))
      (pss_cons (ps_set (i := 3) nd rfl (Or.inl rfl) (pe_op op_mod (pe_op op_pow (pe_callTy call_int1 (by rfl) B.int (by decide +kernel) (pa_cons (pe_op op_add (pe_op op_add (pe_ix ix_list (pv 0) pe_int (fun _ _ => rfl)) (pe_op op_mul pe_int (pe_ix ix_list (pv 0) pe_int (fun _ _ => rfl)))) pe_int) pa_nil)) pe_int) pe_int))
      (pss_cons (ps_set (i := 3) nd rfl (Or.inl rfl) (pe_op op_mod (pe_op op_pow (pe_callTy call_int1 (by rfl) B.int (by decide +kernel) (pa_cons (pe_op op_add (pv 3) (pe_op op_mul pe_int (pe_ix ix_list (pv 0) pe_int (fun _ _ => rfl)))) pa_nil)) pe_int) pe_int))
      (pss_one (ps_ret (pe_op op_modN (pe_op op_fdiv (pv 3) pe_int) (pv 1))))))), ?_⟩
    have a0 : ∀ {u v t : V}, atI [u, v, t] (0 : Int) = some u := rfl
    refine ⟨_, rfl, b, _, _, _, rfl, rfl, SqL.of hb, a0, _, _, rfl, rfl, _, rfl, ?_⟩
    refine ite2 (fun hc => ?_) (fun _ => ?_)
    · refine ⟨_, rfl, b, _, _, _, rfl, rfl, SqL.of hb, a0, .inl ⟨_, rfl, _, rfl, _, _, rfl, rfl, by omega, ?_⟩⟩
      refine ⟨_, rfl, b, _, _, _, rfl, rfl, SqL.of hb, a0, _, rfl, _, _, rfl, rfl, ⟨m0, small_log m0 m1⟩, ?_⟩
      refine ⟨_, rfl, b, _, _, _, rfl, rfl, hb, rfl, ?_⟩
      refine ⟨_, rfl, q _ _ (fmod_low m0) (fmod_high m0) ⟨_, y, z, upd_same, Int.ediv_nonneg x0 (by omega), y0, y1, z0, by omega⟩ Kp.here⟩
    · refine ⟨_, rfl, b, _, _, _, rfl, rfl, SqL.of hb, rfl, _, _, rfl, rfl, _, rfl, b, _, _, _, rfl, rfl, hb, rfl, ?_⟩
      have hb1 : upd H b (.lst [.int x, .int y, .int (z + 1)]) b = some (.lst [.int x, .int y, .int (z + 1)]) := upd_same
      refine ⟨_, rfl, b, _, _, _, rfl, rfl, SqL.of hb1, rfl, ?_⟩
      refine ⟨_, rfl, b, _, _, _, rfl, rfl, SqL.of hb1, rfl, ?_⟩
      refine ⟨_, _, rfl, rfl, .inl ⟨by decide, by decide⟩, _, _, rfl, rfl, _, _, rfl, rfl, .inl ⟨_, rfl, _, _, rfl, rfl, ⟨by decide, by decide, by omega⟩, ?_⟩⟩
      refine ⟨_, _, rfl, rfl, (by show (0 : Int) < 2147483647; decide), ?_⟩
      refine ⟨_, rfl, _, rfl, b, _, _, _, rfl, rfl, SqL.of hb1, rfl, ?_⟩
      have l1 := Int.emod_nonneg ((y + 7457 * (z + 1) + 263) ^ (5 : Int).toNat) (b := 2147483647) (by decide)
      have h1 := Int.emod_lt_of_pos ((y + 7457 * (z + 1) + 263) ^ (5 : Int).toNat) (b := 2147483647) (by decide)
      refine ⟨_, _, rfl, rfl, .inl ⟨by decide, by decide⟩, _, _, rfl, rfl, .inl ⟨_, rfl, _, _, rfl, rfl, ⟨by decide, by decide, by omega⟩, ?_⟩⟩
      refine ⟨_, _, rfl, rfl, (by show (0 : Int) < 2147483587; decide), ?_⟩
      refine ⟨_, rfl, _, _, rfl, rfl, ⟨by decide, by decide⟩, _, rfl, _, _, rfl, rfl, by omega, ?_⟩
      exact q _ _ (fmod_low m0) (fmod_high m0) ⟨x, y, z + 1, upd_same, x0, y0, y1, by omega, by omega⟩ Kp.here
end
end Mz
set_option Elab.async false
set_option linter.all false
set_option maxRecDepth 100000
set_option maxHeartbeats 4000000
/-! the program's own defs: integers, names, marks -/
namespace Mz
open PySem PySem.Spec PyProof.Rows L2
/-- any value, by what isinstance says of it -/
inductive Kd (K : PySem.W.Frag) (H : Hp) : V → Prop
  | int (i : Int) : Kd K H (.int i)
  | bl (b : Bool) : Kd K H (.bl b)
  | str (z : Str) (h : z.length ≤ 1000) (ok : PyData.strOk z = true) : Kd K H (.str z)
  | non : Kd K H .non
  | oth (a : Addr) (t : Value) (ty : TyX K H (.ref a) t) (ki : PySem.W.kitOne K t (.type "int") = some false) (ks : PySem.W.kitOne K t (.type "str") = some false) : Kd K H (.ref a)
def wholeV : V → Bool
  | .int _ => true
  | _ => false
def inB (lo hi : Int) : V → Bool
  | .int i => decide (lo ≤ i) && decide (i ≤ hi)
  | _ => false
abbrev abc : Str := "abcdefghijklmnopqrstuvwxyz"
/-- a name, as the program says it -/
def nameS (z : Str) : Bool := (decide (1 ≤ (z.length : Int)) && decide ((z.length : Int) ≤ 6)) && z.cps.toList.all fun c => decide (c ∈ abc.cps.toList)
def nameV : V → Bool
  | .str z => nameS z
  | _ => false
def noMarks : List V := [.str "old", .str "zero", .str "end", .str "fails", .str "more", .str "done", .str "none"]
def markV : V → Bool
  | .str z => nameS z && !inV (.str z) noMarks
  | _ => false
def spWhole (K : PySem.W.Frag) : Sp := fun vs H Q _ => ∃ v, vs = [v] ∧ Kd K H v ∧ Q (.bl (wholeV v)) H
def spIsInt (K : PySem.W.Frag) : Sp := fun vs H Q _ => ∃ v lo hi, vs = [v, .int lo, .int hi] ∧ Kd K H v ∧ Q (.bl (inB lo hi v)) H
/-- the list of the letters' answers is left behind -/
def spIsName (K : PySem.W.Frag) : Sp := fun vs H Q _ => ∃ v, vs = [v] ∧ Kd K H v ∧ ∀ H', Same H H' → Q (.bl (nameV v)) H'
def spIsMark (K : PySem.W.Frag) : Sp := fun vs H Q _ => ∃ v, vs = [v] ∧ Kd K H v ∧ ∀ H', Same H H' → Q (.bl (markV v)) H'
structure Blp (mg : Str → Option Value) : Prop where
  isi : mg "isinstance" = none
  bool : mg "bool" = none
  str : mg "str" = none
  all : mg "all" = none
section
variable {P : Program} {w : World} {K : PySem.W.Frag} {mg : Str → Option Value} {base : Heap}
theorem scWhole : FnScope ["value"] ["value"] (defScope sWhole) := ⟨rfl, rfl, rfl, by decide +kernel, rfl, by decide +kernel, by decide +kernel⟩
theorem ok_whole {f : Addr} {fd : FuncData} (F : Fun K "_is_whole" "_is_whole" sWhole f fd) (B : Blt mg) (D : Blp mg) : FnOk P w K mg base CX0 1 f fd ["value"] (spWhole K) := by
  refine F.ok scWhole (fun vs H Q E h => ?_) (fun cdv A outer s H vs Q E hr h => ?_)
  · obtain ⟨v, rfl, _⟩ := h
    rfl
  · obtain ⟨v, rfl, hk, q⟩ := h
    refine ⟨_, pss_one (ps_ret (pe_and (pe_callB call_isi (by rfl) D.isi (by decide +kernel) (pa_cons (pv 0) (pa_cons (pe_bltn (v := .ty "int") (by rfl) B.int (by decide +kernel) rfl) pa_nil)))
      (pe_one (pe_not (pe_callB call_isi (by rfl) D.isi (by decide +kernel) (pa_cons (pv 0) (pa_cons (pe_bltn (v := .ty "bool") (by rfl) D.bool (by decide +kernel) rfl) pa_nil))))))), ?_⟩
    refine ⟨_, rfl, ?_⟩
    cases hk with
    | int i => exact ⟨_, _, _, _, true, rfl, .ty _, .base (.int i), kit_ty (by decide +kernel), true, rfl, iteT ⟨_, rfl, _, _, _, _, false, rfl, .ty _, .base (.int i), kit_ty (by decide +kernel), false, rfl, q⟩⟩
    | bl b => exact ⟨_, _, _, _, true, rfl, .ty _, .base (.bl b), kit_ty (by decide +kernel), true, rfl, iteT ⟨_, rfl, _, _, _, _, true, rfl, .ty _, .base (.bl b), kit_ty (by decide +kernel), true, rfl, q⟩⟩
    | str z _ _ => exact ⟨_, _, _, _, false, rfl, .ty _, .base (.str z), kit_ty (by decide +kernel), false, rfl, iteF q⟩
    | non => exact ⟨_, _, _, _, false, rfl, .ty _, .base .non, kit_ty (by decide +kernel), false, rfl, iteF q⟩
    | oth a t ty ki ks => exact ⟨_, _, _, _, false, rfl, .ty _, ty, ki, false, rfl, iteF q⟩
theorem scIsInt : FnScope ["value", "low", "high"] ["value", "low", "high"] (defScope sIsInt) := ⟨rfl, rfl, rfl, by decide +kernel, rfl, by decide +kernel, by decide +kernel⟩
theorem ok_isInt {f f1 : Addr} {fd fd1 : FuncData} (F : Fun K "is_integer" "is_integer" sIsInt f fd) (G : FnOk P w K mg base CX0 1 f1 fd1 ["value"] (spWhole K)) (m1 : mg "_is_whole" = some (.ref f1)) (k1 : PySem.W.keepIn K (.ref f1) = true) (b1 : Binds K fd1 ["value"] []) :
    FnOk P w K mg base CX0 2 f fd ["value", "low", "high"] (spIsInt K) := by
  refine F.ok scIsInt (fun vs H Q E h => ?_) (fun cdv A outer s H vs Q E hr h => ?_)
  · obtain ⟨v, lo, hi, rfl, _⟩ := h
    rfl
  · obtain ⟨v, lo, hi, rfl, hk, q⟩ := h
    refine ⟨_, pss_one (ps_ret (pe_and (pe_call G hr (by rfl) m1 k1 b1 .nil pass0 (pa_cons (pv 0) pa_nil)) (pe_one (pe_chain op_le op_le (pv 1) (pv 0) (pv 2))))), ?_⟩
    refine ⟨_, rfl, v, rfl, hk, _, rfl, ?_⟩
    cases hk with
    | int i =>
      refine iteT ⟨_, rfl, _, rfl, _, _, rfl, rfl, _, rfl, ite2 (fun hc => ?_) (fun hc => ?_)⟩
      · refine ⟨_, rfl, _, _, rfl, rfl, ?_⟩
        have e : inB lo hi (.int i) = decide (i ≤ hi) := by
          show (decide (lo ≤ i) && decide (i ≤ hi)) = _
          rw [hc, Bool.true_and]
        rw [e] at q
        exact q
      · have e : inB lo hi (.int i) = false := by
          show (decide (lo ≤ i) && decide (i ≤ hi)) = _
          rw [Bool.eq_false_iff.mpr hc, Bool.false_and]
        rw [e] at q
        exact q
    | bl b => exact iteF q
    | str z _ _ => exact iteF q
    | non => exact iteF q
    | oth a t ty ki ks => exact iteF q
theorem scIsName : FnScope ["value", "letter"] ["value"] (defScope sIsName) := ⟨rfl, rfl, rfl, by decide +kernel, rfl, by decide +kernel, by decide +kernel⟩
theorem ok_isName {f : Addr} {fd : FuncData} {t1 t2 : Tok} (F : Fun K "is_name" "is_name" sIsName f fd) (B : Blt mg) (D : Blp mg) (mL : mg "_LONGEST_NAME" = some (.int 6 t1)) (mA : mg "_LETTERS" = some (.str abc t2)) : FnOk P w K mg base CX0 1 f fd ["value"] (spIsName K) := by
  refine F.ok scIsName (fun vs H Q E h => ?_) (fun cdv A outer s H vs Q E hr h => ?_)
  · obtain ⟨v, rfl, _⟩ := h
    rfl
  · obtain ⟨v, rfl, hk, q⟩ := h
    have nd := scIsName.nd
    refine ⟨_, pss_cons (ps_if (PW.pt (pw_or (pt_not (pt_val (pe_callB call_isi (by rfl) D.isi (by decide +kernel) (pa_cons (pv 0) (pa_cons (pe_bltn (v := .ty "str") (by rfl) D.str (by decide +kernel) rfl) pa_nil)))))
        (pw_or1 (pt_not (pt_chain op_le op_le pe_int (pe_callB call_len_str (by rfl) B.len PySem.boot_len (pa_cons (pv 0) pa_nil)) (pe_glob (v := .int 6) rfl mL ⟨_, rfl⟩)))))) (pss_one (ps_ret pe_bl)) pss_nil)
      (pss_one (ps_ret (pe_callB (cr_all rfl) (by rfl) D.all (by decide +kernel) (pa_cons (pe_lc (own := [("letter", 1)]) (g := gName 1) (tt := tYes) rfl nd (pi_str (pv 0)) (blkOk_by (N := ["value", "letter"]) (sc := defScope sIsName) (by decide +kernel))
        (fun _ _ _ _ _ => pg_name (i := 1) nd rfl (Or.inl rfl)) (fun _ _ _ _ _ => pts_nil) (fun _ _ _ _ _ => pe_cmpR op_in_sign (pv 1) (pe_glob (v := .str abc) rfl mA ⟨_, rfl⟩) (by rfl))) pa_nil)))), ?_⟩
    refine ⟨_, rfl, ?_⟩
    have no : ∀ {v : V}, nameV v = false → (∀ H', Same H H' → Q (.bl (nameV v)) H') → Q (.bl false) H := fun e q => by
      rw [← e]
      exact q _ fun _ _ z => z
    cases hk with
    | int i => exact ⟨_, _, _, _, false, rfl, .ty _, .base (.int i), kit_ty (by decide +kernel), false, rfl, iteT (iteT (no rfl q))⟩
    | bl b => exact ⟨_, _, _, _, false, rfl, .ty _, .base (.bl b), kit_ty (by decide +kernel), false, rfl, iteT (iteT (no rfl q))⟩
    | non => exact ⟨_, _, _, _, false, rfl, .ty _, .base .non, kit_ty (by decide +kernel), false, rfl, iteT (iteT (no rfl q))⟩
    | oth a t ty ki ks => exact ⟨_, _, _, _, false, rfl, .ty _, ty, ks, false, rfl, iteT (iteT (no rfl q))⟩
    | str z hz ok =>
      refine ⟨_, _, _, _, true, rfl, .ty _, .base (.str z), kit_ty (by decide +kernel), true, rfl, iteF ?_⟩
      have zl : z.length ≤ sizeLine := Nat.le_trans hz (by decide)
      refine ⟨_, rfl, _, rfl, zl, _, _, rfl, rfl, _, rfl, ite2 (fun h1 => ?_) (fun h1 => ?_)⟩
      · refine ⟨_, _, rfl, rfl, _, rfl, ?_⟩
        cases h6 : decide ((z.length : Int) ≤ 6) with
        | false =>
          refine iteT ?_
          have e : nameV (.str z) = false := by
            show ((decide (1 ≤ (z.length : Int)) && decide ((z.length : Int) ≤ 6)) && z.cps.toList.all fun c => decide (c ∈ abc.cps.toList)) = false
            rw [h6, Bool.and_false, Bool.false_and]
          exact no e q
        | true =>
          refine iteF ?_
          refine ⟨_, rfl, z, rfl, fun p np => lc_it walk_str (fun i H' => H' = upd H p (.lst ((z.cps.toList.take i).map fun c => V.bl (decide (c ∈ abc.cps.toList))))) rfl (fun _ _ _ _ => trivial) ?_ ?_⟩
          · rintro i x H0 H' hi rfl ⟨rfl, c, hc, rfl⟩
            refine ⟨rfl, ?_⟩
            unfold tYes
            refine iteT ⟨_, rfl, c, abc, rfl, rfl, _, upd_same, ?_, ?_⟩
            · rw [List.length_map, List.length_take]
              exact Nat.lt_of_le_of_lt (Nat.min_le_left _ _) (Nat.lt_of_lt_of_le hi zl)
            · rw [upd_upd]
              have hc2 : z.cps.toList[i]? = some c := by
                rw [Array.getElem?_toList]
                exact hc
              rw [List.take_succ, hc2, List.map_append]
              rfl
          · rintro H' rfl
            have sz : z.cps.toList.take z.cps.size = z.cps.toList := by
              rw [← Array.length_toList, List.take_length]
            refine ⟨p, (z.cps.toList.take z.cps.size).map fun c => decide (c ∈ abc.cps.toList), rfl, SqL.of (by rw [List.map_map]; exact upd_same), ?_⟩
            have e : nameV (.str z) = ((z.cps.toList.take z.cps.size).map fun c => decide (c ∈ abc.cps.toList)).all id := by
              show ((decide (1 ≤ (z.length : Int)) && decide ((z.length : Int) ≤ 6)) && z.cps.toList.all fun c => decide (c ∈ abc.cps.toList)) = _
              rw [h1, h6, sz, List.all_map]
              rfl
            rw [← e]
            refine q _ fun b o z => ?_
            rw [upd_ne (ne_of_none z np)]
            exact z
      · have e : nameV (.str z) = false := by
          show ((decide (1 ≤ (z.length : Int)) && decide ((z.length : Int) ≤ 6)) && z.cps.toList.all fun c => decide (c ∈ abc.cps.toList)) = false
          rw [Bool.eq_false_iff.mpr h1, Bool.false_and, Bool.false_and]
        exact ⟨_, rfl, iteT (no e q)⟩
end
end Mz
set_option Elab.async false
set_option linter.all false
set_option maxRecDepth 100000
set_option maxHeartbeats 4000000
namespace Mz
open PySem PySem.Spec PyProof.Rows L2
def lowS (z : Str) : Int := if z = "" then 0 else -3
def spLeast : Sp := fun vs H Q _ => ∃ z : Str, vs = [.str z] ∧ Q (.int (lowS z)) H
/-- a place's fields -/
def plF (z : Str) (k : Int) : List (Str × V) := putF "_shift" (.int k) (putF "_base" (.str z) [])
/-- a place that can be made: no error -/
def spInit (C : Addr) : Sp := fun vs H Q _ => ∃ (p dx : Addr) (z : Str) (k : Int), vs = [.ref p, .str z, .int k] ∧ H p = some (.ins C dx []) ∧ z.length ≤ 1000 ∧ PyData.strOk z = true ∧ (z = "" ∨ nameS z = true) ∧ lowS z ≤ k ∧ k ≤ 3 ∧
  ∀ H', (∀ q o, q ≠ p → H q = some o → H' q = some o) → H' p = some (.ins C dx (plF z k)) → Q .non H'
structure Cpl (K : PySem.W.Frag) (mg : Str → Option Value) (C : Addr) : Prop where
  cl : Cls K C
  nB : NoAttr K C "_base"
  nS : NoAttr K C "_shift"
  mgC : mg "Place" = some (.ref C)
section
variable {P : Program} {w : World} {K : PySem.W.Frag} {mg : Str → Option Value} {base : Heap}
theorem scLeast : FnScope ["base"] ["base"] (defScope sLeast) := ⟨rfl, rfl, rfl, by decide +kernel, rfl, by decide +kernel, by decide +kernel⟩
theorem ok_least {f : Addr} {fd : FuncData} {t : Tok} (F : Fun K "_least_shift" "_least_shift" sLeast f fd) (mM : mg "_MOST" = some (.int 3 t)) : FnOk P w K mg base CX0 1 f fd ["base"] spLeast := by
  refine F.ok scLeast (fun vs H Q E h => ?_) (fun cdv A outer s H vs Q E hr h => ?_)
  · obtain ⟨z, rfl, _⟩ := h
    rfl
  · obtain ⟨z, rfl, q⟩ := h
    refine ⟨_, pss_one (ps_ret (pe_ifExp (pt_cmpR op_eq (pv 0) pe_str (nomark _)) pe_int (pe_un un_neg (pe_glob (v := .int 3) rfl mM ⟨_, rfl⟩)))), ?_⟩
    refine ⟨_, rfl, rfl, _, rfl, ite2 (fun hc => ?_) (fun hc => ?_)⟩
    · have e : lowS z = 0 := if_pos (V.str.inj (of_decide_eq_true hc))
      rw [e] at q
      exact q
    · have e : lowS z = -3 := if_neg fun x => hc (decide_eq_true (by rw [x]))
      rw [e] at q
      exact ⟨_, rfl, q⟩
theorem scInit : FnScope ["self", "base", "shift"] ["self", "base", "shift"] (defScope (inClass sPlace 0)) := ⟨rfl, rfl, rfl, by decide +kernel, rfl, by decide +kernel, by decide +kernel⟩
theorem ok_init {f f1 f2 f3 C : Addr} {fd fd1 fd2 fd3 : FuncData} {t : Tok} {dvs : List V} {kws : List (Str × V)} {pa : Arguments} (F : FunD K "__init__" "Place.__init__" pa (defBody (inClass sPlace 0)) (defScope (inClass sPlace 0)) dvs kws f fd) (T : Cpl K mg C)
    (G1 : FnOk P w K mg base CX0 1 f1 fd1 ["value"] (spIsName K)) (m1 : mg "is_name" = some (.ref f1)) (k1 : PySem.W.keepIn K (.ref f1) = true) (b1 : Binds K fd1 ["value"] [])
    (G2 : FnOk P w K mg base CX0 2 f2 fd2 ["value", "low", "high"] (spIsInt K)) (m2 : mg "is_integer" = some (.ref f2)) (k2 : PySem.W.keepIn K (.ref f2) = true) (b2 : Binds K fd2 ["value", "low", "high"] [])
    (G3 : FnOk P w K mg base CX0 1 f3 fd3 ["base"] spLeast) (m3 : mg "_least_shift" = some (.ref f3)) (k3 : PySem.W.keepIn K (.ref f3) = true) (b3 : Binds K fd3 ["base"] [])
    (mM : mg "_MOST" = some (.int 3 t)) : FnOk P w K mg base CX0 3 f fd ["self", "base", "shift"] (spInit C) := by
  refine F.ok scInit (fun vs H Q E h => ?_) (fun cdv A outer s H vs Q E hr h => ?_)
  · obtain ⟨p, dx, z, k, rfl, _⟩ := h
    rfl
  · obtain ⟨p, dx, z, k, rfl, hp, hz, ok, hn, h1, h2, q⟩ := h
    refine ⟨_, PSs.nox (pss_cons (ps_if (PW.pt (pw_and (pt_cmpR op_ne (pv 1) pe_str (nomark _)) (pw_and1 (pt_not (pt_val (pe_call G1 (hr.mono (by decide)) (by rfl) m1 k1 b1 .nil pass0 (pa_cons (pv 1) pa_nil))))))) (pss_one ps_never) pss_nil)
      (pss_cons (ps_if (pt_not (pt_val (pe_call G2 hr (by rfl) m2 k2 b2 .nil pass0 (pa_cons (pv 2) (pa_cons (pe_call G3 (hr.mono (by decide)) (by rfl) m3 k3 b3 .nil pass0 (pa_cons (pv 1) pa_nil)) (pa_cons (pe_glob (v := .int 3) rfl mM ⟨_, rfl⟩) pa_nil)))))) (pss_one ps_never) pss_nil)
      (pss_cons (ps_fld (pv 0) (pv 1) rfl) (pss_one (ps_fld (pv 0) (pv 2) rfl))))), ?_⟩
    generalize hT : tSeq (tIfS (tNot _) _ _) (tSeq (sFld _ _ _ _) (sFld _ _ _ _)) = T2
    have rest : ∀ H1, Same H H1 → T2 { nx := fun _ H' => Q .non H', rt := Q } (start ["self", "base", "shift"] [V.ref p, V.str z, V.int k]) H1 := by
      intro H1 sm
      rw [← hT]
      have hp1 := sm _ _ hp
      refine ⟨_, rfl, _, rfl, z, rfl, .int k, lowS z, 3, rfl, Kd.int k, _, rfl, ?_⟩
      have e : inB (lowS z) 3 (.int k) = true := by
        show (decide (lowS z ≤ k) && decide (k ≤ 3)) = true
        rw [decide_eq_true h1, decide_eq_true h2]
        rfl
      rw [e]
      refine iteF ⟨_, rfl, _, rfl, p, C, dx, [], rfl, hp1, T.cl, T.nB, (by show 0 < 1000; decide), _, rfl, _, rfl, p, C, dx, _, rfl, upd_same, T.cl, T.nS, (by show 1 < 1000; decide), ?_⟩
      refine q _ (fun r o n e => ?_) upd_same
      rw [upd_ne n, upd_ne n]
      exact sm _ _ e
    have kd : Kd K H (.str z) := .str z hz ok
    by_cases hz0 : z = ""
    · subst hz0
      exact ⟨_, rfl, rfl, _, rfl, iteF (iteF (rest H (Same.refl H)))⟩
    · have hnm : nameS z = true := hn.resolve_left hz0
      have e : decide (V.str z = V.str "") = false := decide_eq_false fun x => hz0 (V.str.inj x)
      refine ⟨_, rfl, rfl, _, rfl, ?_⟩
      rw [e]
      refine iteT ⟨_, rfl, .str z, rfl, kd, fun H1 sm => ⟨_, rfl, ?_⟩⟩
      have e2 : nameV (.str z) = true := hnm
      rw [e2]
      exact iteF (rest H1 sm)
end
end Mz
set_option Elab.async false
set_option linter.all false
set_option maxRecDepth 100000
set_option maxHeartbeats 4000000
namespace Mz
open PySem PySem.Spec PyProof.Rows L2
theorem plF_base {z : Str} {k : Int} : (plF z k).lookup ("_base" : Str) = some (.str z) := by
  unfold plF
  rw [lookup_putF, if_neg (by decide +kernel), lookup_putF, if_pos rfl]
theorem plF_shift {z : Str} {k : Int} : (plF z k).lookup ("_shift" : Str) = some (.int k) := by
  unfold plF
  rw [lookup_putF, if_pos rfl]
/-- a place stands at a -/
def Pl (C : Addr) (H : Hp) (a : Addr) (z : Str) (k : Int) : Prop := ∃ dx, H a = some (.ins C dx (plF z k))
/-- a base and a shift that go together -/
def Good (z : Str) (k : Int) : Prop := z.length ≤ 1000 ∧ PyData.strOk z = true ∧ (z = "" ∨ nameS z = true) ∧ lowS z ≤ k ∧ k ≤ 3
theorem Good.lo {z : Str} {k : Int} (g : Good z k) : -3 ≤ k := by
  have h := g.2.2.2.1
  unfold lowS at h
  split at h <;> omega
theorem Good.hi {z : Str} {k : Int} (g : Good z k) : k ≤ 3 := g.2.2.2.2
theorem int_small {k : Int} (h0 : -3 ≤ k) (h1 : k ≤ 3) : k.natAbs.log2 < 1920 := by
  have h : k.natAbs < 2 ^ 3 := by omega
  exact Nat.lt_trans (PySem.Flt.log2_lt_of (by decide) h) (by decide)
/-- str of a place -/
def strP (z : Str) (k : Int) : Str := if z = "" then Str.ofString (toString k) else if k = 0 then z else "" ++ z ++ signS k
def spBase (C : Addr) : Sp := fun vs H Q _ => ∃ a z k, vs = [.ref a] ∧ Pl C H a z k ∧ Q (.str z) H
def spShift (C : Addr) : Sp := fun vs H Q _ => ∃ a z k, vs = [.ref a] ∧ Pl C H a z k ∧ Q (.int k) H
def spStr (C : Addr) : Sp := fun vs H Q _ => ∃ a z k, vs = [.ref a] ∧ Pl C H a z k ∧ Good z k ∧ Q (.str (strP z k)) H
/-- a value that is no place -/
def Oty (K : PySem.W.Frag) (C : Addr) (H : Hp) (y : V) : Prop := ∃ t, TyX K H y t ∧ PySem.W.kitOne K t (.ref C) = some false
def spEq (K : PySem.W.Frag) (C : Addr) : Sp := fun vs H Q _ => ∃ a z k, Pl C H a z k ∧ ((∃ b y i, vs = [.ref a, .ref b] ∧ Pl C H b y i ∧ Q (.bl (decide (z = y) && decide (k = i))) H) ∨ (∃ y, vs = [.ref a, y] ∧ Oty K C H y ∧ Q (.bl false) H))
def spAdd (C : Addr) : Sp := fun vs H Q _ => ∃ a z k i, vs = [.ref a, .int i] ∧ Pl C H a z k ∧ Good z k ∧ Good z (k + i) ∧ ∀ p H', H p = none → Same H H' → Pl C H' p z (k + i) → Q (.ref p) H'
theorem strlen_sign {k : Int} : (signS k).length = 2 := by
  unfold signS
  repeat' split
  all_goals decide +kernel
section
variable {P : Program} {w : World} {K : PySem.W.Frag} {mg : Str → Option Value} {base : Heap}
theorem scBase : FnScope ["self"] ["self"] (defScope (inClass sPlace 2)) := ⟨rfl, rfl, rfl, by decide +kernel, rfl, by decide +kernel, by decide +kernel⟩
theorem ok_base {f C : Addr} {fd : FuncData} (F : Fun K "base" "Place.base" (inClass sPlace 2) f fd) (T : Cpl K mg C) : FnOk P w K mg base CX0 1 f fd ["self"] (spBase C) := by
  refine F.ok scBase (fun vs H Q E h => ?_) (fun cdv A outer s H vs Q E hr h => ?_)
  · obtain ⟨a, z, k, rfl, _⟩ := h
    rfl
  · obtain ⟨a, z, k, rfl, ⟨dx, ha⟩, q⟩ := h
    exact ⟨_, pss_one (ps_ret (pe_fld (pv 0) rfl)), _, rfl, a, C, dx, _, _, rfl, ha, T.cl, T.nB, plF_base, q⟩
theorem scShift : FnScope ["self"] ["self"] (defScope (inClass sPlace 3)) := ⟨rfl, rfl, rfl, by decide +kernel, rfl, by decide +kernel, by decide +kernel⟩
theorem ok_shift {f C : Addr} {fd : FuncData} (F : Fun K "shift" "Place.shift" (inClass sPlace 3) f fd) (T : Cpl K mg C) : FnOk P w K mg base CX0 1 f fd ["self"] (spShift C) := by
  refine F.ok scShift (fun vs H Q E h => ?_) (fun cdv A outer s H vs Q E hr h => ?_)
  · obtain ⟨a, z, k, rfl, _⟩ := h
    rfl
  · obtain ⟨a, z, k, rfl, ⟨dx, ha⟩, q⟩ := h
    exact ⟨_, pss_one (ps_ret (pe_fld (pv 0) rfl)), _, rfl, a, C, dx, _, _, rfl, ha, T.cl, T.nS, plF_shift, q⟩
theorem scStr : FnScope ["self"] ["self"] (defScope (inClass sPlace 4)) := ⟨rfl, rfl, rfl, by decide +kernel, rfl, by decide +kernel, by decide +kernel⟩
theorem ok_str {f C : Addr} {fd : FuncData} (F : Fun K "__str__" "Place.__str__" (inClass sPlace 4) f fd) (T : Cpl K mg C) (D : Blp mg) : FnOk P w K mg base CX0 1 f fd ["self"] (spStr C) := by
  refine F.ok scStr (fun vs H Q E h => ?_) (fun cdv A outer s H vs Q E hr h => ?_)
  · obtain ⟨a, z, k, rfl, _⟩ := h
    rfl
  · obtain ⟨a, z, k, rfl, ⟨dx, ha⟩, g, q⟩ := h
    refine ⟨_, pss_cons (ps_if (pt_cmpR op_eq (pe_fld (pv 0) rfl) pe_str (nomark _)) (pss_one (ps_ret (pe_callTy call_str_int (by rfl) D.str (by decide +kernel) (pa_cons (pe_fld (pv 0) rfl) pa_nil)))) pss_nil)
      (pss_cons (ps_if (pt_cmpR op_eq (pe_fld (pv 0) rfl) pe_int (nomark _)) (pss_one (ps_ret (pe_joined1 (pe_fmt (pe_fld (pv 0) rfl))))) pss_nil)
      (pss_one (ps_ret (pe_joined (.cons (pe_fmt (pe_fld (pv 0) rfl)) (.cons (pe_fmtP (pe_fld (pv 0) rfl)) .nil)))))), ?_⟩
    have zl : z.length ≤ 1000 := g.1
    refine ⟨_, rfl, a, C, dx, _, _, rfl, ha, T.cl, T.nB, plF_base, rfl, _, rfl, ite2 (fun h1 => ?_) (fun h1 => ?_)⟩
    · have e : strP z k = Str.ofString (toString k) := if_pos (V.str.inj (of_decide_eq_true h1))
      rw [e] at q
      exact ⟨_, rfl, a, C, dx, _, _, rfl, ha, T.cl, T.nS, plF_shift, _, rfl, int_small g.lo g.hi, q⟩
    · have n1 : ¬ z = "" := fun x => h1 (decide_eq_true (by rw [x]))
      refine ⟨_, rfl, a, C, dx, _, _, rfl, ha, T.cl, T.nS, plF_shift, rfl, _, rfl, ite2 (fun h2 => ?_) (fun h2 => ?_)⟩
      · have e : strP z k = z := by
          unfold strP
          rw [if_neg n1, if_pos (V.int.inj (of_decide_eq_true h2))]
        rw [e] at q
        exact ⟨_, rfl, a, C, dx, _, _, rfl, ha, T.cl, T.nB, plF_base, .inl ⟨z, rfl, Nat.le_trans zl (by decide), q⟩⟩
      · have n2 : ¬ k = 0 := fun x => h2 (decide_eq_true (by rw [x]))
        have e : strP z k = "" ++ z ++ signS k := by
          unfold strP
          rw [if_neg n1, if_neg n2]
        rw [e] at q
        refine ⟨_, rfl, a, C, dx, _, _, rfl, ha, T.cl, T.nB, plF_base, .inl ⟨z, rfl, Nat.le_trans zl (by decide), z, rfl, ?_, ?_⟩⟩
        · rw [strLen_append]
          exact Nat.le_trans (Nat.add_le_add (show ("" : Str).length ≤ 0 by decide +kernel) zl) (by decide)
        · refine ⟨_, rfl, a, C, dx, _, _, rfl, ha, T.cl, T.nS, plF_shift, k, rfl, g.lo, g.hi, n2, signS k, rfl, ?_, q⟩
          rw [strLen_append, strLen_append, strlen_sign]
          exact Nat.le_trans (Nat.add_le_add_right (Nat.add_le_add (show ("" : Str).length ≤ 0 by decide +kernel) zl) 2) (by decide)
end
end Mz
set_option Elab.async false
set_option linter.all false
set_option maxRecDepth 100000
set_option maxHeartbeats 4000000
namespace Mz
open PySem PySem.Spec PyProof.Rows L2
section
variable {P : Program} {w : World} {K : PySem.W.Frag} {mg : Str → Option Value} {base : Heap}
/-- isinstance of a place and of no place -/
structure Pty (K : PySem.W.Frag) (C : Addr) : Prop where
  cl : Cls K C
  ha : PySem.W.findIn K (.ref C) "__class__" = some (some (.builtin "object.__class__"))
  hn : PySem.W.specialIn K (.builtin "object.__class__") "__get__" = some (some (.builtin "getset_descriptor.__get__"))
  htk : PySem.W.takesIn K (.builtin "object.__class__") = some true
  hm : PySem.W.mroIn K C (.type "object") = some true
theorem Pl.ty {C : Addr} {H : Hp} {a : Addr} {z : Str} {k : Int} (T : Pty K C) (h : Pl C H a z k) : TyX K H (.ref a) (.ref C) := by
  obtain ⟨dx, ha⟩ := h
  exact .base (.ins ha T.cl T.ha T.hn T.htk T.hm)
theorem kit_self {C : Addr} : PySem.W.kitOne K (.ref C) (.ref C) = some true := by
  unfold PySem.W.kitOne
  rw [if_pos (by simp)]
theorem scEq : FnScope ["self", "other"] ["self", "other"] (defScope (inClass sPlace 6)) := ⟨rfl, rfl, rfl, by decide +kernel, rfl, by decide +kernel, by decide +kernel⟩
theorem ok_eq {f C : Addr} {fd : FuncData} (F : Fun K "__eq__" "Place.__eq__" (inClass sPlace 6) f fd) (T : Cpl K mg C) (Y : Pty K C) (D : Blp mg) : FnOk P w K mg base CX0 1 f fd ["self", "other"] (spEq K C) := by
  refine F.ok scEq (fun vs H Q E h => ?_) (fun cdv A outer s H vs Q E hr h => ?_)
  · obtain ⟨a, z, k, _, ⟨b, y, i, rfl, _⟩ | ⟨y, rfl, _⟩⟩ := h
    · rfl
    · rfl
  · obtain ⟨a, z, k, pa, h⟩ := h
    refine ⟨_, pss_one (ps_ret (pe_and (pe_callB call_isi (by rfl) D.isi (by decide +kernel) (pa_cons (pv 1) (pa_cons (pe_glob (v := .ref C) rfl T.mgC rfl) pa_nil)))
      (pe_and (pe_cmpR op_eq (pe_fld (pv 0) rfl) (pe_fld (pv 1) rfl) (nomark _)) (pe_one (pe_cmpR op_eq (pe_fld (pv 0) rfl) (pe_fld (pv 1) rfl) (nomark _)))))), ?_⟩
    obtain ⟨dx, ha⟩ := id pa
    rcases h with ⟨b, y, i, rfl, pb, q⟩ | ⟨y, rfl, ⟨t, ty, kt⟩, q⟩
    · obtain ⟨dy, hb⟩ := id pb
      refine ⟨_, rfl, .ref b, .ref C, .ref C, .ref C, true, rfl, .own C, pb.ty Y, kit_self, true, rfl, iteT ?_⟩
      refine ⟨_, rfl, a, C, dx, _, _, rfl, ha, T.cl, T.nB, plF_base, _, rfl, b, C, dy, _, _, rfl, hb, T.cl, T.nB, plF_base, rfl, _, rfl, ite2 (fun h1 => ?_) (fun h1 => ?_)⟩
      · refine ⟨_, rfl, a, C, dx, _, _, rfl, ha, T.cl, T.nS, plF_shift, _, rfl, b, C, dy, _, _, rfl, hb, T.cl, T.nS, plF_shift, rfl, ?_⟩
        have e1 : z = y := V.str.inj (of_decide_eq_true h1)
        have e2 : decide (V.int k = V.int i) = decide (k = i) := decide_eq_decide.mpr ⟨fun x => V.int.inj x, fun x => by rw [x]⟩
        rw [decide_eq_true e1, Bool.true_and] at q
        rw [e2]
        exact q
      · have e1 : ¬ z = y := fun x => h1 (decide_eq_true (by rw [x]))
        rw [decide_eq_false e1, Bool.false_and] at q
        exact q
    · exact ⟨_, rfl, y, .ref C, t, .ref C, false, rfl, .own C, ty, kt, false, rfl, iteF q⟩
theorem scAdd : FnScope ["self", "other"] ["self", "other"] (defScope (inClass sPlace 7)) := ⟨rfl, rfl, rfl, by decide +kernel, rfl, by decide +kernel, by decide +kernel⟩
theorem ok_add {f f2 f3 fI C : Addr} {fd fd2 fd3 fdI : FuncData} {t : Tok} {g : List Value → List Value → List Value} (F : Fun K "__add__" "Place.__add__" (inClass sPlace 7) f fd) (T : Cpl K mg C)
    (G2 : FnOk P w K mg base CX0 2 f2 fd2 ["value", "low", "high"] (spIsInt K)) (m2 : mg "is_integer" = some (.ref f2)) (k2 : PySem.W.keepIn K (.ref f2) = true) (b2 : Binds K fd2 ["value", "low", "high"] [])
    (G3 : FnOk P w K mg base CX0 1 f3 fd3 ["base"] spLeast) (m3 : mg "_least_shift" = some (.ref f3)) (k3 : PySem.W.keepIn K (.ref f3) = true) (b3 : Binds K fd3 ["base"] [])
    (mM : mg "_MOST" = some (.int 3 t)) (M : Mk K C fI) (GI : FnOk P w K mg base CX0 3 fI fdI ["self", "base", "shift"] (spInit C)) (kI : KBn K fdI ["self", "base", "shift"] 2 ["shift"] g (fun vs zs => vs ++ zs)) :
    FnOk P w K mg base CX0 5 f fd ["self", "other"] (spAdd C) := by
  refine F.ok scAdd (fun vs H Q E h => ?_) (fun cdv A outer s H vs Q E hr h => ?_)
  · obtain ⟨a, z, k, i, rfl, _⟩ := h
    rfl
  · obtain ⟨a, z, k, i, rfl, ⟨dx, ha⟩, g1, g2, q⟩ := h
    refine ⟨_, PSs.nox (pss_cons (ps_if (pt_not (pt_val (pe_call G2 (hr.mono (by decide)) (by rfl) m2 k2 b2 .nil pass0 (pa_cons (pv 1) (pa_cons (pe_op op_sub (pe_call G3 (hr.mono (by decide)) (by rfl) m3 k3 b3 .nil pass0 (pa_cons (pe_fld (pv 0) rfl) pa_nil)) (pe_fld (pv 0) rfl))
        (pa_cons (pe_op op_sub (pe_glob (v := .int 3) rfl mM ⟨_, rfl⟩) (pe_fld (pv 0) rfl)) pa_nil)))))) (pss_one ps_never) pss_nil)
      (pss_one (ps_ret (pe_makeK M GI hr (by rfl) T.mgC kI pass0 (pa_cons (pe_fld (pv 0) rfl) pa_nil) (pk_cons (pe_op op_add (pe_fld (pv 0) rfl) (pv 1)) pk_nil))))), ?_⟩
    refine ⟨_, rfl, _, rfl, a, C, dx, _, _, rfl, ha, T.cl, T.nB, plF_base, z, rfl, _, rfl, a, C, dx, _, _, rfl, ha, T.cl, T.nS, plF_shift, _, _, rfl, rfl, ?_⟩
    refine ⟨_, rfl, a, C, dx, _, _, rfl, ha, T.cl, T.nS, plF_shift, _, _, rfl, rfl, .int i, _, _, rfl, .int i, _, rfl, ?_⟩
    have e : inB (lowS z - k) (3 - k) (.int i) = true := by
      have h1 := g2.2.2.2.1
      have h2 := g2.2.2.2.2
      show (decide (lowS z - k ≤ i) && decide (i ≤ 3 - k)) = true
      rw [decide_eq_true (by omega), decide_eq_true (by omega)]
      rfl
    rw [e]
    refine iteF ⟨_, rfl, a, C, dx, _, _, rfl, ha, T.cl, T.nB, plF_base, _, rfl, a, C, dx, _, _, rfl, ha, T.cl, T.nS, plF_shift, _, rfl, _, _, rfl, rfl, rfl, rfl, fun p dp np ndp nn => ?_⟩
    refine ⟨p, dp, z, k + i, rfl, upd_same, g2.1, g2.2.1, g2.2.2.1, g2.2.2.2.1, g2.2.2.2.2, fun H' u t' => ⟨rfl, q p H' np (fun r o hro => u r o (ne_of_none hro np) ?_) ⟨dp, t'⟩⟩⟩
    rw [upd_ne (ne_of_none hro np), upd_ne (ne_of_none hro ndp)]
    exact hro
end
end Mz
set_option Elab.async false
set_option linter.all false
set_option maxRecDepth 100000
set_option maxHeartbeats 4000000
namespace Mz
open PySem PySem.Spec PyProof.Rows L2
theorem sign_ok {z : Str} {c : Nat} (ok : PyData.strOk z = true) (h : c ∈ z.cps.toList) : PyData.strOk ⟨#[c]⟩ = true := by
  have h1 : c < 0x110000 := by
    unfold PyData.strOk at ok
    rw [Array.all_eq_true_iff_forall_mem] at ok
    exact of_decide_eq_true (ok c (Array.mem_toList_iff.mp h))
  unfold PyData.strOk
  simp only [Array.all_eq_true_iff_forall_mem]
  intro x hx
  have e : x = c := by simpa using hx
  rw [e]
  exact decide_eq_true h1
/-! texts of a bounded length, of signs that are some -/
def Sm (n : Nat) (z : Str) : Prop := z.length ≤ n ∧ PyData.strOk z = true
theorem strOk_iff {z : Str} : PyData.strOk z = true ↔ ∀ c ∈ z.cps.toList, c < 0x110000 := by
  unfold PyData.strOk
  rw [Array.all_eq_true_iff_forall_mem]
  exact ⟨fun h c hc => of_decide_eq_true (h c (Array.mem_toList_iff.mp hc)), fun h c hc => decide_eq_true (h c (Array.mem_toList_iff.mpr hc))⟩
theorem Sm.mono {n m : Nat} {z : Str} (h : Sm n z) (le : n ≤ m) : Sm m z := ⟨Nat.le_trans h.1 le, h.2⟩
theorem Sm.app {n m : Nat} {y z : Str} (hy : Sm n y) (hz : Sm m z) : Sm (n + m) (y ++ z) := by
  refine ⟨by rw [strLen_append]; exact Nat.add_le_add hy.1 hz.1, strOk_iff.mpr fun c hc => ?_⟩
  have hc2 : c ∈ (y.cps ++ z.cps).toList := hc
  rw [Array.toList_append] at hc2
  rcases List.mem_append.mp hc2 with e | e
  · exact strOk_iff.mp hy.2 c e
  · exact strOk_iff.mp hz.2 c e
theorem Sm.cut {n : Nat} {z : Str} (h : Sm n z) (lo hi : Option Int) : Sm n (cutS z lo hi) := by
  unfold cutS
  refine ⟨?_, strOk_iff.mpr fun c hc => ?_⟩
  · show ((z.cps.toList.drop _).take _).toArray.size ≤ n
    rw [List.size_toArray, List.length_take, List.length_drop]
    have e : z.cps.toList.length = z.length := rfl
    have := h.1
    omega
  · exact strOk_iff.mp h.2 c (List.mem_of_mem_drop (List.mem_of_mem_take hc))
theorem sm_sign {z : Str} {c : Nat} (ok : PyData.strOk z = true) (h : c ∈ z.cps.toList) : Sm 1 ⟨#[c]⟩ := ⟨Nat.le_refl _, sign_ok ok h⟩
theorem join_ok : ∀ l : List Str, (∀ y ∈ l, PyData.strOk y = true) → PyData.strOk (Str.join "" l) = true
  | [], _ => by decide +kernel
  | [x], h => h x List.mem_cons_self
  | x :: y :: r, h => by
    have h1 := h x List.mem_cons_self
    have h2 := join_ok (y :: r) fun z hz => h z (List.mem_cons_of_mem _ hz)
    show PyData.strOk (x ++ "" ++ Str.join "" (y :: r)) = true
    exact (Sm.app (Sm.app ⟨Nat.le_refl _, h1⟩ ⟨Nat.le_refl _, by decide +kernel⟩) ⟨Nat.le_refl _, h2⟩).2
theorem sum_ones : ∀ l : List Str, (∀ y ∈ l, Sm 1 y) → (l.map (·.length)).sum ≤ l.length
  | [], _ => Nat.le_refl _
  | x :: r, h => by
    have h1 := (h x List.mem_cons_self).1
    have h2 := sum_ones r fun z hz => h z (List.mem_cons_of_mem _ hz)
    rw [List.map_cons, List.sum_cons, List.length_cons]
    omega
theorem sm_join {l : List Str} (h : ∀ y ∈ l, Sm 1 y) : Sm l.length (Txt.join "" l) := by
  unfold Txt.join
  rw [StrLaws.glued_eq_join]
  refine ⟨?_, join_ok l fun y hy => (h y hy).2⟩
  have e := StrLaws.join_length_le "" l
  have e2 := sum_ones l h
  have e3 : l.length * ("" : Str).length = 0 := by
    rw [show ("" : Str).length = 0 by decide +kernel, Nat.mul_zero]
  omega
theorem atI_in {a : Type} {l : List a} {i : Int} (h0 : 0 ≤ i) (h1 : i < (l.length : Int)) : ∃ c, atI l i = some c ∧ c ∈ l := by
  obtain ⟨k, rfl⟩ := Int.eq_ofNat_of_zero_le h0
  have hk : k < l.length := by omega
  exact ⟨l[k], atI_nat (List.getElem?_eq_getElem hk), List.getElem_mem hk⟩
theorem str_empty {z : Str} (h : z.length = 0) : z = "" := by
  obtain ⟨l⟩ := z
  have e : l = #[] := Array.eq_empty_of_size_eq_zero h
  rw [e]
  rfl
theorem same_nw {H : Hp} {p : Addr} {o : HO} (h : H p = none) : Same H (upd H p o) := fun q u e => by
  rw [upd_ne (ne_of_none e h)]
  exact e
end Mz
set_option Elab.async false
set_option linter.all false
set_option maxRecDepth 100000
set_option maxHeartbeats 4000000
namespace Mz
open PySem PySem.Spec PyProof.Rows L2
def numS (z : Str) : Option Int := if z = "0" then some 0 else if z = "1" then some 1 else if z = "2" then some 2 else if z = "3" then some 3 else none
def shS (z : Str) : Option Int := if z = "-3" then some (-3) else if z = "-2" then some (-2) else if z = "-1" then some (-1) else if z = "+1" then some 1 else if z = "+2" then some 2 else if z = "+3" then some 3 else none
def headS (z : Str) : Str := cutS z none (some (-2))
def tailS (z : Str) : Str := cutS z (some (-2)) none
/-- what the program reads out of a text -/
def partsS (z : Str) : Option (Str × Int) :=
  match numS z with
  | some n => some ("", n)
  | none => if nameS z = true then some (z, 0) else if nameS (headS z) = true then (match shS (tailS z) with | some k => some (headS z, k) | none => none) else none
/-- a written dict from texts to ints -/
def Tab (K : PySem.W.Frag) (w : World) (d : Addr) (f : Str → Option Int) : Prop := ∃ es n, KDict K w d es n ∧ ∀ z : Str, ∃ r, PySem.W.nsIn K d z = some r ∧ ((f z = none ∧ r = none) ∨ ∃ i t, f z = some i ∧ r = some (.int i t))
def spParts : Sp := fun vs H Q _ => ∃ z : Str, vs = [.str z] ∧ Sm 1000 z ∧ (partsS z = none → ∀ H', Same H H' → Q .non H') ∧ ∀ y k, partsS z = some (y, k) → ∀ p H', Same H H' → H p = none → H' p = some (.tup [.str y, .int k]) → Q (.ref p) H'
section
variable {P : Program} {w : World} {K : PySem.W.Frag} {mg : Str → Option Value} {base : Heap}
theorem scParts : FnScope ["text"] ["text"] (defScope sParts) := ⟨rfl, rfl, rfl, by decide +kernel, rfl, by decide +kernel, by decide +kernel⟩
theorem ok_parts {f f1 dN dS : Addr} {fd fd1 : FuncData} (F : Fun K "_parts_of_text" "_parts_of_text" sParts f fd) (G : FnOk P w K mg base CX0 1 f1 fd1 ["value"] (spIsName K)) (m1 : mg "is_name" = some (.ref f1)) (k1 : PySem.W.keepIn K (.ref f1) = true) (b1 : Binds K fd1 ["value"] [])
    (mN : mg "_NUMBERS" = some (.ref dN)) (mS : mg "_SHIFTS" = some (.ref dS)) (tN : Tab K w dN numS) (tS : Tab K w dS shS) : FnOk P w K mg base CX0 2 f fd ["text"] spParts := by
  refine F.ok scParts (fun vs H Q E h => ?_) (fun cdv A outer s H vs Q E hr h => ?_)
  · obtain ⟨z, rfl, _⟩ := h
    rfl
  · obtain ⟨z, rfl, hz, qn, qs⟩ := h
    obtain ⟨esN, nN, DN, lN⟩ := tN
    obtain ⟨esS, nS, DS, lS⟩ := tS
    have zl : z.length ≤ sizeLine := Nat.le_trans hz.1 (by decide)
    refine ⟨_, pss_cons (ps_if (pt_cmpR (op_in_kd DN) (pv 0) (pe_glob (v := .ref dN) rfl mN rfl) (by rfl)) (pss_one (ps_ret (pe_tup (pa_cons pe_str (pa_cons (pe_ix ix_kdict (pe_glob (v := .ref dN) rfl mN rfl) (pv 0) (fun _ _ => rfl)) pa_nil))))) pss_nil)
      (pss_cons (ps_if (pt_val (pe_call G hr (by rfl) m1 k1 b1 .nil pass0 (pa_cons (pv 0) pa_nil))) (pss_one (ps_ret (pe_tup (pa_cons (pv 0) (pa_cons pe_int pa_nil))))) pss_nil)
      (pss_cons (ps_if (PW.pt (pw_and (pt_val (pe_call G hr (by rfl) m1 k1 b1 .nil pass0 (pa_cons (pe_slice sl_str (pv 0) po_none (po_some (pe_un un_neg pe_int))) pa_nil))) (pw_and1 (pt_cmpR (op_in_kd DS) (pe_slice sl_str (pv 0) (po_some (pe_un un_neg pe_int)) po_none) (pe_glob (v := .ref dS) rfl mS rfl) (by rfl)))))
          (pss_one (ps_ret (pe_tup (pa_cons (pe_slice sl_str (pv 0) po_none (po_some (pe_un un_neg pe_int))) (pa_cons (pe_ix ix_kdict (pe_glob (v := .ref dS) rfl mS rfl) (pe_slice sl_str (pv 0) (po_some (pe_un un_neg pe_int)) po_none) (fun _ _ => rfl)) pa_nil))))) pss_nil)
      (pss_one (ps_ret pe_non)))), ?_⟩
    have kd : ∀ {H' : Hp} {y : Str}, Sm 1000 y → Kd K H' (.str y) := fun h => .str _ h.1 h.2
    obtain ⟨r, er, hr1⟩ := lN z
    refine ⟨_, rfl, z, r, rfl, rfl, er, _, rfl, ?_⟩
    rcases hr1 with ⟨e, rfl⟩ | ⟨i, t, e, rfl⟩
    · refine iteF ?_
      refine ⟨_, rfl, .str z, rfl, kd hz, fun H1 s1 => ⟨_, rfl, ite2 (fun hn => ?_) (fun hn => ?_)⟩⟩
      · have ep : partsS z = some (z, 0) := by
          unfold partsS
          rw [e]
          exact if_pos hn
        exact ⟨_, rfl, (by show 2 ≤ sizeLine; decide), fun p np => qs z 0 ep p _ (s1.trans (same_nw np)) (s1.free np) upd_same⟩
      · have nn : ¬ nameS z = true := hn
        have sh := hz.cut none (some (-2))
        have st := hz.cut (some (-2)) none
        refine ⟨_, rfl, _, rfl, _, rfl, z, rfl, zl, .str (headS z), rfl, kd sh, fun H2 s2 => ⟨_, rfl, ite2 (fun hh => ?_) (fun hh => ?_)⟩⟩
        · have nh : nameS (headS z) = true := hh
          obtain ⟨r, er, hr2⟩ := lS (tailS z)
          refine ⟨_, rfl, _, rfl, _, rfl, z, rfl, zl, tailS z, r, rfl, rfl, er, _, rfl, ?_⟩
          rcases hr2 with ⟨e2, rfl⟩ | ⟨i, t, e2, rfl⟩
          · refine iteF (qn ?_ H2 (s1.trans s2))
            unfold partsS
            rw [e]
            show (if nameS z = true then _ else _) = _
            rw [if_neg nn, if_pos nh, e2]
          · have ep : partsS z = some (headS z, i) := by
              unfold partsS
              rw [e]
              show (if nameS z = true then _ else _) = _
              rw [if_neg nn, if_pos nh, e2]
            refine iteT ⟨_, rfl, _, rfl, _, rfl, z, rfl, zl, ?_⟩
            refine ⟨_, rfl, _, rfl, _, rfl, z, rfl, zl, dS, tailS z, .int i, rfl, rfl, ⟨_, _, _, DS.at_, DS.lit, er, ⟨t, rfl⟩⟩, (by show 2 ≤ sizeLine; decide), fun p np => ?_⟩
            exact qs _ _ ep p _ ((s1.trans s2).trans (same_nw np)) ((s1.trans s2).free np) upd_same
        · refine qn ?_ H2 (s1.trans s2)
          unfold partsS
          rw [e]
          show (if nameS z = true then _ else _) = _
          rw [if_neg nn]
          exact if_neg hh
    · have ep : partsS z = some (("" : Str), i) := by
        unfold partsS
        rw [e]
      refine iteT ⟨_, rfl, dN, z, .int i, rfl, rfl, ⟨_, _, _, DN.at_, DN.lit, er, ⟨t, rfl⟩⟩, (by show 2 ≤ sizeLine; decide), fun p np => ?_⟩
      exact qs _ _ ep p _ (same_nw np) np upd_same
end
end Mz
set_option Elab.async false
set_option linter.all false
set_option maxRecDepth 100000
set_option maxHeartbeats 4000000
namespace Mz
open PySem PySem.Spec PyProof.Rows L2
/-- the types of int, bool, str, None are no places -/
structure Npl (K : PySem.W.Frag) (C : Addr) : Prop where
  int : PySem.W.kitOne K (.type "int") (.ref C) = some false
  bool : PySem.W.kitOne K (.type "bool") (.ref C) = some false
  str : PySem.W.kitOne K (.type "str") (.ref C) = some false
  non : PySem.W.kitOne K (.type "NoneType") (.ref C) = some false
/-- a value that is no place -/
def NoPl (K : PySem.W.Frag) (C : Addr) (H : Hp) (v : V) : Prop := Kd K H v ∧ Oty K C H v
/-- what a value that is no place reads as -/
def ofV : V → Option (Str × Int)
  | .int i => if 0 ≤ i ∧ i ≤ 3 then some ("", i) else none
  | .str z => partsS z
  | _ => none
/-- the exception's class, as the written part has it -/
structure Xcl (K : PySem.W.Frag) (mg : Str → Option Value) (x : Str) (C : Addr) (f : Str) : Prop where
  ox : OexC K C
  no : PySem.W.findIn K (.ref C) f = some none
  m : mg x = some (.ref C)
  xf : XfC K C
def spOf (K : PySem.W.Frag) (C cX : Addr) : Sp := fun vs H Q E => ∃ v, vs = [.ref C, v] ∧
  ((∃ a z k, v = .ref a ∧ Pl C H a z k ∧ Q v H) ∨
    (NoPl K C H v ∧ (∀ z k, ofV v = some (z, k) → ∀ p H', H p = none → Same H H' → Pl C H' p z k → Good z k → Q (.ref p) H') ∧
      (ofV v = none → ∀ d H', H d = none → Same H H' → H' d = some (.xd [("value", v)]) → E (.ref cX) (some d) H')))
theorem good_num {i : Int} (h0 : 0 ≤ i) (h1 : i ≤ 3) : Good "" i := ⟨by decide +kernel, by decide +kernel, .inl rfl, h0, h1⟩
theorem low_name {z : Str} (h : nameS z = true) : lowS z = -3 := if_neg fun e => by
  rw [e] at h
  exact absurd h (by decide +kernel)
theorem good_name {z : Str} {k : Int} (hz : Sm 1000 z) (h : nameS z = true) (h0 : -3 ≤ k) (h1 : k ≤ 3) : Good z k := ⟨hz.1, hz.2, .inr h, by rw [low_name h]; exact h0, h1⟩
theorem numS_rng {z : Str} {n : Int} (h : numS z = some n) : 0 ≤ n ∧ n ≤ 3 := by
  unfold numS at h
  repeat' split at h
  all_goals first | (cases h; omega) | cases h
theorem shS_rng {z : Str} {n : Int} (h : shS z = some n) : -3 ≤ n ∧ n ≤ 3 := by
  unfold shS at h
  repeat' split at h
  all_goals first | (cases h; omega) | cases h
theorem parts_good {z y : Str} {k : Int} (hz : Sm 1000 z) (h : partsS z = some (y, k)) : Good y k := by
  unfold partsS at h
  cases e : numS z with
  | some n =>
    rw [e] at h
    cases h
    exact good_num (numS_rng e).1 (numS_rng e).2
  | none =>
    rw [e] at h
    dsimp only at h
    by_cases hn : nameS z = true
    · rw [if_pos hn] at h
      cases h
      exact good_name hz hn (by decide) (by decide)
    · rw [if_neg hn] at h
      by_cases hh : nameS (headS z) = true
      · rw [if_pos hh] at h
        cases e2 : shS (tailS z) with
        | none =>
          rw [e2] at h
          cases h
        | some i =>
          rw [e2] at h
          cases h
          exact good_name (hz.cut _ _) hh (shS_rng e2).1 (shS_rng e2).2
      · rw [if_neg hh] at h
        cases h
section
variable {P : Program} {w : World} {K : PySem.W.Frag} {mg : Str → Option Value} {base : Heap}
theorem scXinit : FnScope ["self", "value"] ["self", "value"] (defScope (inClass sInvPlace 0)) := ⟨rfl, rfl, rfl, by decide +kernel, rfl, by decide +kernel, by decide +kernel⟩
theorem ok_xinit {f C cM : Addr} {fd : FuncData} (F : Fun K "__init__" "InvalidPlace.__init__" (inClass sInvPlace 0) f fd) (T : Xcl K mg "InvalidPlace" C "value") (mM : mg "MapError" = some (.ref cM)) (rd : ClX.CRead K cM (.type "type"))
    (fc : PySem.W.findCls K (.ref cM) (.type "type") "__init__" = some (.val (.builtin "ValueError.__init__"))) : FnOk P w K mg base CX0 1 f fd ["self", "value"] (spX1 K C "value") := by
  refine F.ok scXinit (fun vs H Q E h => ?_) (fun cdv A outer s H vs Q E hr h => ?_)
  · obtain ⟨a, v, rfl, _⟩ := h
    rfl
  · obtain ⟨a, v, rfl, ha, q⟩ := h
    refine ⟨_, pss_cons (ps_expr (pe_meinit (by rfl) mM rd fc (pa_cons (pv 0) (pa_cons pe_str pa_nil)))) (pss_one (ps_ost (pv 0) (pv 1))), ?_⟩
    refine ⟨_, rfl, a, C, _, rfl, (by show 1 ≤ 1000; decide), T.ox, ha, ?_⟩
    exact ⟨_, rfl, _, rfl, a, C, rfl, T.ox, T.no, .inl ⟨ha, fun dx n1 n2 => q dx n1 n2⟩⟩
theorem scOf : FnScope ["cls", "value", "parts", "base", "shift"] ["cls", "value"] (defScope (inClass sPlace 1)) := ⟨rfl, rfl, rfl, by decide +kernel, rfl, by decide +kernel, by decide +kernel⟩
theorem ok_of {f f2 fp fI C cX fX : Addr} {fd fd2 fdp fdI fdX : FuncData} {t : Tok} {g1 g2 : List Value → List Value → List Value} (F : Fun K "of" "Place.of" (inClass sPlace 1) f fd) (T : Cpl K mg C) (Y : Pty K C) (N : Npl K C) (B : Blt mg) (D : Blp mg)
    (G2 : FnOk P w K mg base CX0 2 f2 fd2 ["value", "low", "high"] (spIsInt K)) (m2 : mg "is_integer" = some (.ref f2)) (k2 : PySem.W.keepIn K (.ref f2) = true) (b2 : Binds K fd2 ["value", "low", "high"] [])
    (Gp : FnOk P w K mg base CX0 2 fp fdp ["text"] spParts) (mp : mg "_parts_of_text" = some (.ref fp)) (kp : PySem.W.keepIn K (.ref fp) = true) (bp : Binds K fdp ["text"] [])
    (mM : mg "_MOST" = some (.int 3 t)) (M : Mk K C fI) (GI : FnOk P w K mg base CX0 3 fI fdI ["self", "base", "shift"] (spInit C)) (kI1 : KBn K fdI ["self", "base", "shift"] 1 ["shift"] g1 (fun vs zs => vs ++ [.str ""] ++ zs)) (kI2 : KBn K fdI ["self", "base", "shift"] 2 ["shift"] g2 (fun vs zs => vs ++ zs))
    (TX : Xcl K mg "InvalidPlace" cX "value") (GX : FnOk P w K mg base CX0 1 fX fdX ["self", "value"] (spX1 K cX "value")) (iX : PySem.W.findIn K (.ref cX) "__init__" = some (some (.ref fX))) (tX : PySem.W.typeIn K (.ref fX) = some (.type "function")) (bX : Binds K fdX ["self", "value"] []) :
    FnOk P w K mg base (L2.CX P w) 5 f fd ["cls", "value"] (spOf K C cX) := by
  refine F.okX scOf (fun vs H Q E h => ?_) (fun cdv A outer s H vs Q E hr h => ?_)
  · obtain ⟨v, rfl, _⟩ := h
    rfl
  · obtain ⟨v, rfl, h⟩ := h
    have nd := scOf.nd
    have hr2 : Room 2 _ := hr.mono (by decide)
    refine ⟨_, pss_cons (ps_if (pt_val (pe_callB call_isi (by rfl) D.isi (by decide +kernel) (pa_cons (pv 1) (pa_cons (pe_glob (v := .ref C) rfl T.mgC rfl) pa_nil)))) (pss_one (ps_ret (pv 1))) pss_nil)
      (pss_cons (ps_if (pt_val (pe_call G2 hr2 (by rfl) m2 k2 b2 .nil pass0 (pa_cons (pv 1) (pa_cons pe_int (pa_cons (pe_glob (v := .int 3) rfl mM ⟨_, rfl⟩) pa_nil))))) (pss_one (ps_ret (pe_makeL0 (i := 0) rfl (.inl rfl) M GI hr kI1 pass0 (pk_cons (pv 1) pk_nil)))) pss_nil)
      (pss_cons (ps_set (i := 2) nd rfl (Or.inl rfl) (pe_ifExp (pt_val (pe_callB call_isi (by rfl) D.isi (by decide +kernel) (pa_cons (pv 1) (pa_cons (pe_bltn (v := .ty "str") (by rfl) D.str (by decide +kernel) rfl) pa_nil))))
        (pe_call Gp hr2 (by rfl) mp kp bp .nil pass0 (pa_cons (pv 1) pa_nil)) pe_non))
      (pss_cons (ps_if (pt_cmpR op_isN (pv 2) pe_non (nomark _)) (pss_one (ps_raise rfl (takes_of rfl rfl rfl rfl) (pmk_oex TX.ox iX tX GX (hr.mono (by decide)) bX .nil pass0 (by rfl) TX.m (pa_cons (pv 1) pa_nil)))) pss_nil)
      (pss_cons (ps_asg (pv 2) (pg_tup (by rfl) (pgs_cons (pg_name (i := 3) nd rfl (.inl rfl)) (pgs_cons (pg_name (i := 4) nd rfl (.inl rfl)) pgs_nil))))
      (pss_one (ps_ret (pe_makeL (i := 0) rfl (.inl rfl) M GI hr kI2 pass0 (pa_cons (pv 3) pa_nil) (pk_cons (pv 4) pk_nil)))))))), ?_⟩
    generalize hT4 : tSeq (tIfS (tTest _) (fun _ _ _ => _) _) _ = T4
    have made : ∀ (H1 : Hp), Same H H1 → ∀ y k, Good y k → (∀ p H', H p = none → Same H H' → Pl C H' p y k → Q (.ref p) H') → ∀ x dx, H1 x = none → H1 dx = none → dx ≠ x →
        spInit C [.ref x, .str y, .int k] (upd (upd H1 dx (.own x)) x (.ins C dx [])) (fun v H2 => v = .non ∧ Q (.ref x) H2) E0 := by
      intro H1 s1 y k g qq x dx nx ndx nn
      refine ⟨x, dx, y, k, rfl, upd_same, g.1, g.2.1, g.2.2.1, g.2.2.2.1, g.2.2.2.2, fun H' u t' => ⟨rfl, qq x H' (s1.free nx) (fun r o hro => u r o (ne_of_none (s1 _ _ hro) nx) ?_) ⟨dx, t'⟩⟩⟩
      rw [upd_ne (ne_of_none (s1 _ _ hro) nx), upd_ne (ne_of_none (s1 _ _ hro) ndx)]
      exact s1 _ _ hro
    have rest0 : ∀ H1, Same H H1 → (∀ d H', H d = none → Same H H' → H' d = some (.xd [("value", v)]) → E (.ref cX) (some d) H') → T4 { nx := fun _ H' => Q .non H', rt := Q } [some (.ref C), some v, some .non, none, none] H1 := by
      intro H1 s1 qE
      rw [← hT4]
      refine ⟨_, rfl, rfl, _, rfl, ite2 (fun _ => ?_) (fun x => (x (decide_eq_true rfl)).elim)⟩
      refine ⟨_, rfl, (by show 1 ≤ 1000; decide), fun a na => ⟨a, v, rfl, upd_same, fun dx n1 n2 => ⟨rfl, dx, [("value", v)], upd_same, ?_, ?_, ?_⟩⟩⟩
      · rw [upd_ne n2, upd_same]
      · rw [upd_ne n2] at n1
        exact n1
      · have n3 : H1 dx = none := by
          rw [upd_ne n2] at n1
          exact n1
        refine qE dx _ (s1.free n3) (fun b o hb => ?_) upd_same
        have x1 : b ≠ dx := ne_of_none (s1 _ _ hb) n3
        have x2 : b ≠ a := ne_of_none (s1 _ _ hb) na
        rw [upd_ne x1, del_ne x2, upd_ne x2, upd_ne x1, upd_ne x2]
        exact s1 _ _ hb
    have rest1 : ∀ H1 p y k, Same H H1 → H1 p = some (.tup [.str y, .int k]) → Good y k → (∀ p H', H p = none → Same H H' → Pl C H' p y k → Q (.ref p) H') → T4 { nx := fun _ H' => Q .non H', rt := Q } [some (.ref C), some v, some (.ref p), none, none] H1 := by
      intro H1 p y k s1 hp g qq
      rw [← hT4]
      refine ⟨_, rfl, rfl, _, rfl, ite2 (fun x => ?_) (fun _ => ?_)⟩
      · cases of_decide_eq_true x
      · refine ⟨_, rfl, p, _, rfl, SqT.of hp, rfl, ?_⟩
        exact ⟨_, _, rfl, _, _, rfl, rfl, rfl, _, rfl, _, rfl, rfl, rfl, made H1 s1 y k g qq⟩
    clear hT4
    refine ⟨_, rfl, ?_⟩
    rcases h with ⟨a, z, k, rfl, pa, q⟩ | ⟨⟨hk, t0, ty0, kt0⟩, qs, qE⟩
    · exact ⟨.ref a, .ref C, .ref C, .ref C, true, rfl, .own C, pa.ty Y, kit_self, true, rfl, iteT ⟨_, rfl, q⟩⟩
    · refine ⟨v, .ref C, t0, .ref C, false, rfl, .own C, ty0, kt0, false, rfl, iteF ?_⟩
      refine ⟨_, rfl, v, 0, 3, rfl, hk, _, rfl, ?_⟩
      cases hk with
      | int i =>
        refine ite2 (fun hc => ?_) (fun hc => ?_)
        · have hc2 : (decide (0 ≤ i) && decide (i ≤ 3)) = true := hc
          obtain ⟨h1, h2⟩ := Bool.and_eq_true_iff.mp hc2
          have h1 := of_decide_eq_true h1
          have h2 := of_decide_eq_true h2
          have e : ofV (.int i) = some (("" : Str), i) := if_pos ⟨h1, h2⟩
          exact ⟨rfl, _, rfl, rfl, rfl, made H (Same.refl H) "" i (good_num h1 h2) fun p H' n1 n2 n3 => qs "" i e p H' n1 n2 n3 (good_num h1 h2)⟩
        · have e : ofV (.int i) = none := if_neg fun x => hc (by
            show (decide (0 ≤ i) && decide (i ≤ 3)) = true
            rw [decide_eq_true x.1, decide_eq_true x.2]
            rfl)
          exact ⟨_, rfl, _, _, _, _, false, rfl, .ty _, .base (.int i), kit_ty (by decide +kernel), false, rfl, iteF (rest0 H (Same.refl H) (qE e))⟩
      | bl b => exact iteF ⟨_, rfl, _, _, _, _, false, rfl, .ty _, .base (.bl b), kit_ty (by decide +kernel), false, rfl, iteF (rest0 H (Same.refl H) (qE rfl))⟩
      | non => exact iteF ⟨_, rfl, _, _, _, _, false, rfl, .ty _, .base .non, kit_ty (by decide +kernel), false, rfl, iteF (rest0 H (Same.refl H) (qE rfl))⟩
      | oth a t ty ki ks => exact iteF ⟨_, rfl, _, _, _, _, false, rfl, .ty _, ty, ks, false, rfl, iteF (rest0 H (Same.refl H) (qE rfl))⟩
      | str z hz ok =>
        refine iteF ⟨_, rfl, _, _, _, _, true, rfl, .ty _, .base (.str z), kit_ty (by decide +kernel), true, rfl, iteT ⟨_, rfl, z, rfl, ⟨hz, ok⟩, fun e H1 s1 => rest0 H1 s1 (qE e), fun y k e p H1 s1 np hp => ?_⟩⟩
        have g := parts_good ⟨hz, ok⟩ e
        exact rest1 H1 p y k s1 hp g fun p H' n1 n2 n3 => qs y k e p H' n1 n2 n3 g
end
end Mz
set_option Elab.async false
set_option linter.all false
set_option maxRecDepth 100000
set_option maxHeartbeats 4000000
namespace Mz
open PySem PySem.Spec PyProof.Rows L2
/-! letters, by order and by the alphabet -/
def loC (c : Nat) : Bool := !decide ((⟨#[c]⟩ : Str).cps.toList < ("a" : Str).cps.toList)
def hiC (c : Nat) : Bool := !decide (("z" : Str).cps.toList < (⟨#[c]⟩ : Str).cps.toList)
theorem abc_range : abc.cps.toList = List.range' 97 26 := by decide +kernel
theorem one_lt (a b : Nat) : ([a] : List Nat) < [b] ↔ a < b := by
  rw [List.cons_lt_cons_iff]
  simp
theorem letter_eq (c : Nat) : (loC c && hiC c) = decide (c ∈ abc.cps.toList) := by
  have e1 : loC c = decide (97 ≤ c) := by
    unfold loC
    rw [show ("a" : Str).cps.toList = [97] by decide +kernel]
    show (!decide (([c] : List Nat) < [97])) = _
    rw [decide_eq_decide.mpr (one_lt c 97)]
    by_cases h : c < 97
    · rw [decide_eq_true h, decide_eq_false (by omega)]; rfl
    · rw [decide_eq_false h, decide_eq_true (by omega)]; rfl
  have e2 : hiC c = decide (c ≤ 122) := by
    unfold hiC
    rw [show ("z" : Str).cps.toList = [122] by decide +kernel]
    show (!decide (([122] : List Nat) < [c])) = _
    rw [decide_eq_decide.mpr (one_lt 122 c)]
    by_cases h : 122 < c
    · rw [decide_eq_true h, decide_eq_false (by omega)]; rfl
    · rw [decide_eq_false h, decide_eq_true (by omega)]; rfl
  rw [e1, e2, abc_range, ← Bool.decide_and]
  refine decide_eq_decide.mpr ?_
  rw [List.mem_range'_1]
  omega
theorem dp_strs {K : PySem.W.Frag} {H : Hp} : ∀ l : List Str, DpAll K H (l.map V.str) (l.map PyData.str)
  | [] => .nil
  | z :: l => .cons (.str z) (dp_strs l)
theorem strs_lay : ∀ l : List Str, (∀ z ∈ l, PyData.strOk z = true) → PyData.canLayAll0 (l.map PyData.str) = true ∧ PyData.depthAll (l.map PyData.str) = 0
  | [], _ => ⟨rfl, rfl⟩
  | z :: l, ok => by
    obtain ⟨h1, h2⟩ := strs_lay l fun y hy => ok y (List.mem_cons_of_mem _ hy)
    have h3 := ok z List.mem_cons_self
    rw [List.map_cons]
    refine ⟨?_, ?_⟩
    · simp [PyData.canLayAll0, PyData.canLay0, h1, h3]
    · simp [PyData.depthAll, PyData.depth, h2]
theorem shaped_strs (l : List Str) (ok : ∀ z ∈ l, PyData.strOk z = true) : SeqAt.shaped (.list (l.map PyData.str)) = true := by
  obtain ⟨h1, h2⟩ := strs_lay l ok
  unfold SeqAt.shaped
  simp [PyData.canLay0, PyData.depth, h1, h2]
theorem eqv_nil {xs : List PyData} : PyData.eqv (.list xs) (.list []) = xs.isEmpty := by
  cases xs <;> rfl
end Mz
set_option Elab.async false
set_option linter.all false
set_option maxRecDepth 100000
set_option maxHeartbeats 4000000
/-! a class called in a try: what is raised is wished for at the caller's slots -/
namespace Mz
open PySem PySem.Spec PyProof.Rows L2
section
variable {X : Cx} {CX : CXT} {k n : Nat} {f C : Addr} {fd : FuncData} {ps ks : List Str} {sp : Sp} {x : Str} {p pos : Pos} {e : Expr} {es : List Expr} {kws : List Keyword} {t tk : TA} {g : List Value → List Value → List Value} {gV : List V → List V → List V}
theorem run_makeKS {E : XK} {pins : List (Addr × Obj)} {σ : L2.St} {H : Hp} {s : Shared} {Q : VK} {us ws : List Value} {vs zs : List V} (M : Mk X.K C f) (F : FnOk X.prog X.w X.K X.mg X.base CX k f fd ps sp) (hr : Room (k + 1) X.A) (hb : KBn X.K fd ps (n + 1) ks g gV) (hx : PassesAt CX X σ E)
    (I : Inv X pins σ H s) (r : Vals vs us) (rz : Vals zs ws) (l1 : vs.length = n) (l2 : zs.length = ks.length)
    (h : ∀ x dx, H x = none → H dx = none → dx ≠ x → sp (gV (.ref x :: vs) zs) (upd (upd H dx (.own x)) x (.ins C dx [])) (fun v H2 => v = .non ∧ Q (.ref x) H2) E) :
    wpAny (model X.prog X.w) X.A (call (.ref C) us (ks.zip ws)) (EP X pins σ Q) X.xe s := by
  have hq := h (s.heap.objs.size + 1) s.heap.objs.size (I.hok.fresh (Nat.le_succ _)) (I.hok.fresh (Nat.le_refl _)) (Nat.ne_of_lt (Nat.lt_succ_self _))
  have I2 := Inv.made (C := C) I
  have r1 : Vals (V.ref (s.heap.objs.size + 1) :: vs) (Value.ref (s.heap.objs.size + 1) :: us) := .cons rfl r
  have r2 := hb.rel r1 rz
  have n1 : (Value.ref (s.heap.objs.size + 1) :: us).length = n + 1 := by
    rw [List.length_cons, ← r.length, l1]
  refine wpAny_call (make_map (f := f) I.kIn M.makes M.init (beq_iff_eq.mp M.fn) (codeAny_mono (F.run _ X.stack _ _ ⟨Value.ref (s.heap.objs.size + 1) :: us, ks.zip ws⟩ (g (Value.ref (s.heap.objs.size + 1) :: us) ws) _ _ E (hr.make C us (ks.zip ws))
    (I2.env0.make C us (ks.zip ws)) (hb.to _ (Value.ref (s.heap.objs.size + 1) :: us) ws I2.kIn n1 (rz.length.symm.trans l2)) r2 hq) fun r s' hq' => ?_))
  cases r with
  | error e => exact hx pins _ _ e s' I2 hq'
  | ok fl =>
    cases fl with
    | ret u =>
      obtain ⟨v, H', I3, rv, ev, q3⟩ := I2.after hq'
      subst ev
      exact ⟨rv, ⟨V.ref (s.heap.objs.size + 1), H', I3, rfl, q3⟩⟩
    | next => exact False.elim hq'
    | brk => exact False.elim hq'
    | cont => exact False.elim hq'
/-- C(e, .., k = v, ..) -/
theorem pe_makeKS {ES : L2.St → XK} (M : Mk X.K C f) (F : FnOk X.prog X.w X.K X.mg X.base CX k f fd ps sp) (hr : Room (k + 1) X.A) (hg : Gl X x) (hm : X.mg x = some (.ref C)) (hb : KBn X.K fd ps (n + 1) ks g gV) (hx : ∀ σ, PassesAt CX X σ (ES σ)) (ha : PA X (e :: es) t) (hkw : PK X kws tk)
    (hall : (backToKw pos (keywordEach kws X.env)).all (·.1.isSome) = true := by rfl) (hks : (backToKw pos (keywordEach kws X.env)).filterMap (·.1) = ks := by rfl) (hdb : (x == ("__debug__" : Str)) = false := by decide)
    (he : starEach (e :: es) X.env = (false, eval e X.env) :: starEach es X.env := by rfl) (hpl : ((backTo pos (starEach (e :: es) X.env)).any (·.1) || (backToKw pos (keywordEach kws X.env)).any (·.1.isNone)) = false := by rfl) :
    PE X (.Call (.Name x p) (e :: es) kws pos) (fun σ H Q => tMakeK C n ks.length sp gV (ES σ) t tk σ H Q) := by
  refine ⟨fun pins s σ H Q I h => ?_⟩
  refine wpAny_Call_Name_kw (ld_glob I hg hm ?_ hdb)
  refine PySem.W.callWith_KW (h₀ := X.base) I.ok.mod.kin M.kp hall (thn (ha.run pos pins s σ H _ I h) fun us s1 ⟨vs, H1, I1, r, q⟩ => ?_) hpl he
  refine thn (hkw.run pos pins s1 σ H1 _ I1 q) fun ws s2 ⟨zs, H2, I2, rz, l1, l2, q2⟩ => ⟨I2.kIn, ?_⟩
  rw [hks]
  exact run_makeKS M F hr hb (hx σ) I2 r rz l1 l2 q2
/-- f"{x}", x an instance with an own __str__ -/
theorem pe_fmtO {j : Nat} {te : TE} (he : PE X e te) (F : FnOk X.prog X.w X.K X.mg X.base CX0 j f fd ["self"] sp) (hr : Room (j + 2) X.A) (hb : Binds X.K fd ["self"] []) (hs : PySem.W.findIn X.K (.ref C) "__str__" = some (some (.ref f))) (hf : PySem.W.isFn X.K (.ref f) = true)
    (hfm : PySem.W.findIn X.K (.ref C) "__format__" = some (some (.builtin "object.__format__"))) (hm : PySem.W.mroIn X.K C (.type "object") = some true) :
    PE X (.FormattedValue e (-1) none pos) (fun σ H Q => te σ H fun x H1 => ∃ a dx fs, x = .ref a ∧ H1 a = some (.ins C dx fs) ∧ sp [.ref a] H1 (fun v H2 => ∃ z : Str, v = .str z ∧ z.length ≤ sizeLine ∧ Q (.str z) H2) E0) := by
  refine ⟨fun pins s σ H Q I h => ?_⟩
  refine wpAny_FormattedValue_plain (thn (he.run pins s σ H _ I h) fun v s1 hv => ?_)
  obtain ⟨x, H1, I1, r1, a, dx, fs, rfl, ha, q⟩ := hv
  obtain rfl : v = Value.ref a := r1
  obtain ⟨mA, O, _⟩ := ins_get I1.hok ha
  obtain ⟨od, J, _⟩ := O.look
  refine PySem.W.kfo_fieldS hr.in1.units0 I1.kIn J hfm hm hs hf ?_
  refine wpAny_mono (run_at (E := E0) (E2 := X.xe) (vs := [.ref a]) (us := [.ref a]) (F.mono (Nat.le_refl _)) (hr.in1.mono (Nat.le_succ _)) (I1.tok _).env0.in1 hb (fun _ _ z => z.elim) (I1.tok _) (.cons rfl .nil) q) (fun u s2 hv => ?_) fun _ _ z => z
  obtain ⟨w, H2, I2, rv, z, rfl, _, q2⟩ := hv
  obtain ⟨tk, rfl⟩ := rv
  exact ⟨.str z, H2, I2, ⟨tk, rfl⟩, q2⟩
end
end Mz
set_option Elab.async false
set_option linter.all false
set_option maxRecDepth 100000
set_option maxHeartbeats 4000000
namespace Mz
open PySem PySem.Spec PyProof.Rows L2
theorem pos_len {z : Str} (h : ¬ z = "") : 0 < z.length := Nat.pos_of_ne_zero fun x => h (str_empty x)
theorem int_fits {i : Int} (h0 : 0 ≤ i) (h1 : i < 12) : i.natAbs.log2 < 1920 := by
  have h : i.natAbs < 2 ^ 4 := by omega
  exact Nat.lt_trans (PySem.Flt.log2_lt_of (by decide) h) (by decide)
theorem sm_str12 {i : Int} (h0 : 0 ≤ i) (h1 : i < 12) : Sm 100 (Str.ofString (toString i)) := by
  obtain ⟨k, rfl⟩ := Int.eq_ofNat_of_zero_le h0
  have hk : k < 12 := by omega
  have all : ∀ k : Fin 12, Sm 100 (Str.ofString (toString ((k.val : Nat) : Int))) := by
    unfold Sm
    decide +kernel
  exact all ⟨k, hk⟩
/-- repr of data or of a text with a dict -/
def rReprU (K : PySem.W.Frag) : List V → Hp → VK → Prop := fun xs H Q => rReprD K xs H Q ∨ rRepr2 xs H Q
theorem call_reprU {X : Cx} (g0 : X.A.guards = some []) (hu : X.A.units + 64 < cLine) : CallR X (.builtin "repr") (rReprU X.K) := by
  intro pins s σ H xs us Q I r h
  rcases h with h | h
  · exact call_reprD g0 hu pins s σ H xs us Q I r h
  · exact call_repr2 g0 hu pins s σ H xs us Q I r h
theorem list2_len (a b : Str) : (listText [a, b]).length = a.length + b.length + 4 := by
  show ((("[" ++ ((if 0 > 0 then ", " else "" : String) : Str) ++ a) ++ ((if 1 > 0 then ", " else "" : String) : Str) ++ b) ++ "]" : Str).length = _
  rw [if_neg (by decide), if_pos (by decide)]
  simp only [strLen_append]
  have e1 : (("[" : String) : Str).length = 1 := by decide +kernel
  have e2 : (("" : String) : Str).length = 0 := by decide +kernel
  have e3 : ((", " : String) : Str).length = 2 := by decide +kernel
  have e4 : (("]" : String) : Str).length = 1 := by decide +kernel
  rw [e1, e2, e3, e4]
  omega
theorem list3_len (a b c : Str) : (listText [a, b, c]).length = a.length + b.length + c.length + 6 := by
  show (((("[" ++ ((if 0 > 0 then ", " else "" : String) : Str) ++ a) ++ ((if 1 > 0 then ", " else "" : String) : Str) ++ b) ++ ((if 2 > 0 then ", " else "" : String) : Str) ++ c) ++ "]" : Str).length = _
  rw [if_neg (by decide), if_pos (by decide), if_pos (by decide)]
  simp only [strLen_append]
  have e1 : (("[" : String) : Str).length = 1 := by decide +kernel
  have e2 : (("" : String) : Str).length = 0 := by decide +kernel
  have e3 : ((", " : String) : Str).length = 2 := by decide +kernel
  have e4 : (("]" : String) : Str).length = 1 := by decide +kernel
  rw [e1, e2, e3, e4]
  omega
theorem repr_len {z : Str} {n : Nat} (h : Sm n z) : (reprText z).length ≤ 10 * n + 2 := by
  have h1 := StrLaws.reprText_len z fun c hc => Nat.lt_trans (strOk_iff.mp h.2 c hc) (by decide)
  have h2 := h.1
  omega
theorem kshift_text {k : Int} (h0 : -3 ≤ k) (h1 : k ≤ 3) : (Str.ofString (toString k)).length ≤ 10 := by
  have all : ∀ i : Fin 7, (Str.ofString (toString (((i.val : Nat) : Int) - 3))).length ≤ 10 := by decide +kernel
  obtain ⟨i, hi⟩ := Int.eq_ofNat_of_zero_le (show 0 ≤ k + 3 by omega)
  have e : k = ((i : Nat) : Int) - 3 := by omega
  rw [e]
  exact all ⟨i, by omega⟩
section
variable {P : Program} {w : World} {K : PySem.W.Frag} {mg : Str → Option Value} {base : Heap}
/-- _law_take of the text -/
structure Tk (P : Program) (w : World) (K : PySem.W.Frag) (mg : Str → Option Value) (base : Heap) (f : Addr) (fd : FuncData) : Prop where
  ok : FnOk P w K mg base CX0 1 f fd ["_law_box_here", "_law_many"] spTake
  m : mg "_law_take" = some (.ref f)
  k : PySem.W.keepIn K (.ref f) = true
  b : Binds K fd ["_law_box_here", "_law_many"] []
end
theorem Bx.same {H H' : Hp} {b : Addr} {n : Nat} (s : Same H H') (h : Bx H b n) : Bx H' b n := by
  obtain ⟨x, y, z, e, r⟩ := h
  exact ⟨x, y, z, s _ _ e, r⟩
theorem Kp.same {H H' : Hp} {b : Addr} (s : Same H H') : Kp b H H' := fun p o _ e => s p o e
theorem ty_at {K : PySem.W.Frag} {H H' : Hp} {v : V} {t : Value} (s : ∀ a, v = .ref a → ∀ o, H a = some o → H' a = some o) (h : TyX K H v t) : TyX K H' v t := by
  cases h with
  | base b =>
    cases b with
    | non => exact .base .non
    | bl x => exact .base (.bl x)
    | int i => exact .base (.int i)
    | str x => exact .base (.str x)
    | flt x => exact .base (.flt x)
    | lst e => exact .base (.lst (s _ rfl _ e))
    | frz e => exact .base (.frz (s _ rfl _ e))
    | tup e => exact .base (.tup (s _ rfl _ e))
    | dK e => exact .base (.dK (s _ rfl _ e))
    | dT e => exact .base (.dT (s _ rfl _ e))
    | ins e cl ha hn htk hm => exact .base (.ins (s _ rfl _ e) cl ha hn htk hm)
  | byt b => exact .byt b
  | set e => exact .set (s _ rfl _ e)
  | kList e c => exact .kList e c
  | kTuple e c => exact .kTuple e c
  | kDict e c => exact .kDict e c
  | fTuple e => exact .fTuple (s _ rfl _ e)
  | fDict e => exact .fDict (s _ rfl _ e)
theorem Kd.at {K : PySem.W.Frag} {H H' : Hp} {v : V} (s : ∀ a, v = .ref a → ∀ o, H a = some o → H' a = some o) (h : Kd K H v) : Kd K H' v := by
  cases h with
  | int i => exact .int i
  | bl b => exact .bl b
  | str z h ok => exact .str z h ok
  | non => exact .non
  | oth a t ty ki ks => exact .oth a t (ty_at s ty) ki ks
/-- data that holds no object, or a list or tuple of such -/
inductive Flt : V → PyData → Prop
  | non : Flt .non .none
  | bl (b : Bool) : Flt (.bl b) (.bool b)
  | int (i : Int) : Flt (.int i) (.int i)
  | str (x : Str) : Flt (.str x) (.str x)
inductive FltAll : List V → List PyData → Prop
  | nil : FltAll [] []
  | cons {v : V} {d : PyData} {vs : List V} {ds : List PyData} : Flt v d → FltAll vs ds → FltAll (v :: vs) (d :: ds)
inductive Fl (H : Hp) : V → PyData → Prop
  | flat {v : V} {d : PyData} (h : Flt v d) : Fl H v d
  | lst {a : Addr} {xs : List V} {ds : List PyData} (h : H a = some (.lst xs)) (f : FltAll xs ds) : Fl H (.ref a) (.list ds)
  | tup {a : Addr} {xs : List V} {ds : List PyData} (h : H a = some (.tup xs)) (f : FltAll xs ds) : Fl H (.ref a) (.tuple ds)
theorem Flt.dp {K : PySem.W.Frag} {H : Hp} {v : V} {d : PyData} (h : Flt v d) : Dp K H v d := by
  cases h with
  | non => exact .non
  | bl b => exact .bl b
  | int i => exact .int i
  | str x => exact .str x
theorem FltAll.dp {K : PySem.W.Frag} {H : Hp} : ∀ {vs : List V} {ds : List PyData}, FltAll vs ds → DpAll K H vs ds
  | _, _, .nil => .nil
  | _, _, .cons h r => .cons h.dp r.dp
theorem Fl.dp {K : PySem.W.Frag} {H : Hp} {v : V} {d : PyData} (h : Fl H v d) : Dp K H v d := by
  cases h with
  | flat h => exact h.dp
  | lst h f => exact .lst (SqL.of h) f.dp
  | tup h f => exact .tup (SqT.of h) f.dp
theorem Fl.at {H H' : Hp} {v : V} {d : PyData} (s : ∀ a, v = .ref a → ∀ o, H a = some o → H' a = some o) (h : Fl H v d) : Fl H' v d := by
  cases h with
  | flat h => exact .flat h
  | lst h f => exact .lst (s _ rfl _ h) f
  | tup h f => exact .tup (s _ rfl _ h) f
/-- what can be shown -/
def Fit (d : PyData) : Prop := PyData.showable d = true ∧ PyData.hasDict d = false ∧ PyData.depth d < 50 ∧ (PyData.shown d).length ≤ 2000
/-- data that is no text -/
def Fb (K : PySem.W.Frag) (H : Hp) (v : V) : Prop := (∃ d, Fl H v d ∧ Fit d ∧ SeqAt.shaped d = true ∧ PyData.eqv d (.str "") = false) ∧ Kd K H v ∧ ∀ z, v ≠ .str z
/-- a base -/
def Bs (K : PySem.W.Frag) (C : Addr) (H : Hp) (v : V) : Prop := (∃ z, v = .str z ∧ Sm 100 z) ∨ Fb K H v ∨ ∃ a, v = .ref a ∧ Pl C H a "n" 0
/-- a shift -/
def Sv (K : PySem.W.Frag) (H : Hp) (v : V) : Prop := (∃ d, Fl H v d ∧ Fit d) ∧ Kd K H v
section
variable {K : PySem.W.Frag} {C : Addr} {H H' : Hp} {v : V}
theorem Fb.at (s : ∀ a, v = .ref a → ∀ o, H a = some o → H' a = some o) (h : Fb K H v) : Fb K H' v := by
  obtain ⟨⟨d, h1, h2⟩, h3, h4⟩ := h
  exact ⟨⟨d, h1.at s, h2⟩, h3.at s, h4⟩
theorem Bs.at (s : ∀ a, v = .ref a → ∀ o, H a = some o → H' a = some o) (h : Bs K C H v) : Bs K C H' v := by
  rcases h with h | h | ⟨a, rfl, dx, ha⟩
  · exact .inl h
  · exact .inr (.inl (h.at s))
  · exact .inr (.inr ⟨a, rfl, dx, s a rfl _ ha⟩)
theorem Sv.at (s : ∀ a, v = .ref a → ∀ o, H a = some o → H' a = some o) (h : Sv K H v) : Sv K H' v := by
  obtain ⟨⟨d, h1, h2⟩, h3⟩ := h
  exact ⟨⟨d, h1.at s, h2⟩, h3.at s⟩
theorem Bs.same (s : Same H H') (h : Bs K C H v) : Bs K C H' v := h.at fun a _ o e => s a o e
theorem Sv.same (s : Same H H') (h : Sv K H v) : Sv K H' v := h.at fun a _ o e => s a o e
theorem Bs.kp {b : Addr} (s : Kp b H H') (n : ∀ a, v = .ref a → a ≠ b) (h : Bs K C H v) : Bs K C H' v := h.at fun a e o ho => s a o (n a e) ho
theorem str_ext {a b : Str} (h : a.cps.toList = b.cps.toList) : a = b := by
  obtain ⟨x⟩ := a
  obtain ⟨y⟩ := b
  have e : x = y := Array.toList_inj.mp h
  rw [e]
theorem app_list (a b : Str) : (a ++ b).cps.toList = a.cps.toList ++ b.cps.toList := by
  show (a.cps ++ b.cps).toList = _
  rw [Array.toList_append]
theorem nil_list : ("" : Str).cps.toList = [] := by decide +kernel

def baseOk : V → Bool
  | .str z => decide (z = "") || nameS z
  | _ => false
end
/-- a value held against "" -/
def rNeU (K : PySem.W.Frag) (C : Addr) (sp : Sp) : R2 := fun x y H Q => rNe x y H Q ∨ rNeD K x y H Q ∨ ∃ a dx fs, x = .ref a ∧ H a = some (.ins C dx fs) ∧ Oth K C H y ∧ sp [.ref a, y] H (fun v H2 => ∃ b : Bool, v = .bl b ∧ Q (.bl (!b)) H2) E0
theorem op_neU {X : Cx} {k : Nat} {f C : Addr} {fd : FuncData} {ps : List Str} {sp : Sp} (F : FnOk X.prog X.w X.K X.mg X.base CX0 k f fd ps sp) (hr : Room (k + 1) X.A) (hb : Binds X.K fd ps []) (hs : PySem.W.findIn X.K (.ref C) "__eq__" = some (some (.ref f))) (hf : PySem.W.isFn X.K (.ref f) = true)
    (hn : PySem.W.findIn X.K (.ref C) "__ne__" = some (some (.builtin "object.__ne__"))) (hm : PySem.W.mroIn X.K C (.type "object") = some true) : OpR X (compareOp .NotEq) (rNeU X.K C sp) := by
  intro pins s σ H x y v u Q I rx ry h
  rcases h with h | h | h
  · exact op_ne pins s σ H x y v u Q I rx ry h
  · exact op_neD hr.units pins s σ H x y v u Q I rx ry h
  · exact op_neO F hr hb hs hf hn hm pins s σ H x y v u Q I rx ry h
section
variable {K : PySem.W.Frag} {C : Addr} {H : Hp} {v : V} {Q : VK}
theorem shaped_empty : SeqAt.shaped (.str "") = true := by decide +kernel
/-- what is no text is unlike "" -/
theorem Bs.ne (Y : Pty K C) (N : Npl K C) (h : Bs K C H v) : (∃ z, v = .str z ∧ Sm 100 z) ∨ ((∀ z, v ≠ .str z) ∧ ∀ Q : VK, Q (.bl true) H → rNeU K C (spEq K C) v (.str "") H Q) := by
  rcases h with h | ⟨⟨d, h1, h2, h3, h4⟩, h5, h6⟩ | ⟨a, rfl, pa⟩
  · exact .inl h
  · refine .inr ⟨h6, fun Q q => .inr (.inl ⟨d, .str "", h1.dp, .str "", h3, shaped_empty, ?_⟩)⟩
    rw [h4]
    exact q
  · obtain ⟨dx, ha⟩ := id pa
    exact .inr ⟨fun z e => (nomatch e), fun Q q => .inr (.inr ⟨a, dx, _, rfl, ha, ⟨_, .base (.str ""), by simp [PySem.W.notFirst]; rfl⟩, a, "n", 0, pa, .inr ⟨_, rfl, ⟨_, .base (.str ""), N.str⟩, false, rfl, q⟩⟩)⟩
theorem Bs.kd (Y : Pty K C) (ki : PySem.W.kitOne K (.ref C) (.type "int") = some false) (ks : PySem.W.kitOne K (.ref C) (.type "str") = some false) (h : Bs K C H v) : Kd K H v := by
  rcases h with ⟨z, rfl, h⟩ | ⟨_, h, _⟩ | ⟨a, rfl, pa⟩
  · exact .str z (Nat.le_trans h.1 (by decide)) h.2
  · exact h
  · exact .oth a _ (pa.ty Y) ki ks
end
end Mz
set_option Elab.async false
set_option linter.all false
set_option maxRecDepth 100000
set_option maxHeartbeats 4000000
namespace Mz
open PySem PySem.Spec PyProof.Rows L2
/-- Place.of, as the text has it -/
structure OfM (P : Program) (w : World) (K : PySem.W.Frag) (mg : Str → Option Value) (base : Heap) (C cX po f : Addr) (fd : FuncData) : Prop where
  ok : FnOk P w K mg base (L2.CX P w) 5 f fd ["cls", "value"] (spOf K C cX)
  rd : ClX.CRead K C (.type "type")
  met : ClX.CMet K C (.type "type") "of" po f
  b : Binds K fd ["cls", "value"] []
section
variable {P : Program} {w : World} {K : PySem.W.Frag} {mg : Str → Option Value} {base : Heap}
theorem scXinitI : FnScope ["self", "value"] ["self", "value"] (defScope (inClass sInvInt 0)) := ⟨rfl, rfl, rfl, by decide +kernel, rfl, by decide +kernel, by decide +kernel⟩
theorem ok_xinitI {f C cM : Addr} {fd : FuncData} (F : Fun K "__init__" "InvalidInteger.__init__" (inClass sInvInt 0) f fd) (T : Xcl K mg "InvalidInteger" C "value") (mM : mg "MapError" = some (.ref cM)) (rd : ClX.CRead K cM (.type "type"))
    (fc : PySem.W.findCls K (.ref cM) (.type "type") "__init__" = some (.val (.builtin "ValueError.__init__"))) : FnOk P w K mg base CX0 1 f fd ["self", "value"] (spX1 K C "value") := by
  refine F.ok scXinitI (fun vs H Q E h => ?_) (fun cdv A outer s H vs Q E hr h => ?_)
  · obtain ⟨a, v, rfl, _⟩ := h
    rfl
  · obtain ⟨a, v, rfl, ha, q⟩ := h
    refine ⟨_, pss_cons (ps_expr (pe_meinit (by rfl) mM rd fc (pa_cons (pv 0) (pa_cons pe_str pa_nil)))) (pss_one (ps_ost (pv 0) (pv 1))), ?_⟩
    refine ⟨_, rfl, a, C, _, rfl, (by show 1 ≤ 1000; decide), T.ox, ha, ?_⟩
    exact ⟨_, rfl, _, rfl, a, C, rfl, T.ox, T.no, .inl ⟨ha, fun dx n1 n2 => q dx n1 n2⟩⟩
theorem scXinitS : FnScope ["self", "value"] ["self", "value"] (defScope (inClass sInvSet 0)) := ⟨rfl, rfl, rfl, by decide +kernel, rfl, by decide +kernel, by decide +kernel⟩
theorem ok_xinitS {f C cM : Addr} {fd : FuncData} (F : Fun K "__init__" "InvalidSetting.__init__" (inClass sInvSet 0) f fd) (T : Xcl K mg "InvalidSetting" C "value") (mM : mg "MapError" = some (.ref cM)) (rd : ClX.CRead K cM (.type "type"))
    (fc : PySem.W.findCls K (.ref cM) (.type "type") "__init__" = some (.val (.builtin "ValueError.__init__"))) : FnOk P w K mg base CX0 1 f fd ["self", "value"] (spX1 K C "value") := by
  refine F.ok scXinitS (fun vs H Q E h => ?_) (fun cdv A outer s H vs Q E hr h => ?_)
  · obtain ⟨a, v, rfl, _⟩ := h
    rfl
  · obtain ⟨a, v, rfl, ha, q⟩ := h
    refine ⟨_, pss_cons (ps_expr (pe_meinit (by rfl) mM rd fc (pa_cons (pv 0) (pa_cons pe_str pa_nil)))) (pss_one (ps_ost (pv 0) (pv 1))), ?_⟩
    refine ⟨_, rfl, a, C, _, rfl, (by show 1 ≤ 1000; decide), T.ox, ha, ?_⟩
    exact ⟨_, rfl, _, rfl, a, C, rfl, T.ox, T.no, .inl ⟨ha, fun dx n1 n2 => q dx n1 n2⟩⟩
/-- an exception of one field made -/
theorem mko_x1 {K : PySem.W.Frag} {cE : Addr} {i : Nat} {u : V} {σ : L2.St} {H1 : Hp} {E : XK} (hi : σ[i]? = some (some u)) (q : ∀ d H', H1 d = none → Same H1 H' → H' d = some (.xd [("value", u)]) → E (.ref cE) (some d) H') : tMkO cE (spX1 K cE "value") [] (tCons (tVar i) tNil) σ H1 E := by
  refine ⟨_, hi, (by show 1 ≤ 1000; decide), fun a na => ⟨a, u, rfl, upd_same, fun dx n1 n2 => ⟨rfl, dx, [("value", u)], upd_same, ?_, ?_, ?_⟩⟩⟩
  · rw [upd_ne n2, upd_same]
  · rw [upd_ne n2] at n1
    exact n1
  · have n3 : H1 dx = none := by
      rw [upd_ne n2] at n1
      exact n1
    refine q dx _ n3 (fun b o hb => ?_) upd_same
    have x1 : b ≠ dx := ne_of_none hb n3
    have x2 : b ≠ a := ne_of_none hb na
    rw [upd_ne x1, del_ne x2, upd_ne x2, upd_ne x1, upd_ne x2]
    exact hb
end
/-! settings -/
/-- an integer from lo on -/
def fromB (lo : Int) : V → Bool
  | .int i => decide (lo ≤ i)
  | _ => false
def spIsFrom (K : PySem.W.Frag) : Sp := fun vs H Q _ => ∃ v lo, vs = [v, .int lo] ∧ Kd K H v ∧ Q (.bl (fromB lo v)) H
/-- a key and a value of a dict that is given -/
def KvOk (K : PySem.W.Frag) (H : Hp) (kv : Key × V) : Prop := (∀ z, kv.1 = .inr z → Sm 1000 z) ∧ Kd K H kv.2
def kvB (kv : Key × V) : Bool := nameV (kV kv.1) && fromB 0 kv.2
/-- sizes -/
def sizesB (kvs : List (Key × V)) : Bool := decide (kvs.length ≤ 2) && kvs.all kvB
/-- what is given as sizes: a dict or none -/
def Gv (K : PySem.W.Frag) (H : Hp) (v : V) (r : Option (Addr × List (Key × V))) : Prop := (r = none ∧ ∃ t, TyX K H v t ∧ PySem.W.kitOne K t (.type "dict") = some false) ∨ ∃ a kvs, r = some (a, kvs) ∧ v = .ref a ∧ H a = some (.dK kvs) ∧ ∀ kv ∈ kvs, KvOk K H kv ∧ kv.2 ≠ .ref a
def givenB : Option (Addr × List (Key × V)) → Bool
  | none => false
  | some r => sizesB r.2
def spAre (K : PySem.W.Frag) : Sp := fun vs H Q _ => ∃ v r, vs = [v] ∧ Gv K H v r ∧ ∀ H', Same H H' → Q (.bl (givenB r)) H'
def stF (d : Addr) (pg : Int) : List (Str × V) := putF "_page" (.int pg) (putF "_sizes" (.ref d) [])
theorem stF_sizes {d : Addr} {pg : Int} : (stF d pg).lookup ("_sizes" : Str) = some (.ref d) := by
  unfold stF
  rw [lookup_putF, if_neg (by decide +kernel), lookup_putF, if_pos rfl]
theorem stF_page {d : Addr} {pg : Int} : (stF d pg).lookup ("_page" : Str) = some (.int pg) := by
  unfold stF
  rw [lookup_putF, if_pos rfl]
/-- a setting -/
def Stg (S : Addr) (H : Hp) (s : Addr) (kvs : List (Key × V)) (pg : Int) : Prop := ∃ dx d, H s = some (.ins S dx (stF d pg)) ∧ H d = some (.dK kvs)
structure Scl (K : PySem.W.Frag) (mg : Str → Option Value) (S : Addr) : Prop where
  cl : Cls K S
  nZ : NoAttr K S "_sizes"
  nP : NoAttr K S "_page"
  mgS : mg "Setting" = some (.ref S)
theorem Stg.same {S s : Addr} {H H' : Hp} {kvs : List (Key × V)} {pg : Int} (m : Same H H') (h : Stg S H s kvs pg) : Stg S H' s kvs pg := by
  obtain ⟨dx, d, h1, h2⟩ := h
  exact ⟨dx, d, m _ _ h1, m _ _ h2⟩
/-- a setting just made: its dict is new -/
def StgN (S : Addr) (H0 H : Hp) (s : Addr) (kvs : List (Key × V)) (pg : Int) : Prop := ∃ dx d, H s = some (.ins S dx (stF d pg)) ∧ H d = some (.dK kvs) ∧ H0 d = none
theorem StgN.stg {S s : Addr} {H0 H : Hp} {kvs : List (Key × V)} {pg : Int} (h : StgN S H0 H s kvs pg) : Stg S H s kvs pg := by
  obtain ⟨dx, d, h1, h2, _⟩ := h
  exact ⟨dx, d, h1, h2⟩
def spInitS (K : PySem.W.Frag) (S cS cI : Addr) : Sp := fun vs H Q E => ∃ p dx v m r, vs = [.ref p, v, m] ∧ H p = some (.ins S dx []) ∧ Gv K H v r ∧ Kd K H m ∧
  ((givenB r = true ∧ ∃ pg, m = .int pg ∧ 1 ≤ pg ∧ ∀ H', (∀ q o, q ≠ p → H q = some o → H' q = some o) → (∀ a kvs, r = some (a, kvs) → StgN S H H' p kvs pg) → Q .non H') ∨
    (givenB r = false ∧ ∀ d H', H d = none → Same H H' → H' d = some (.xd [("value", v)]) → E (.ref cS) (some d) H') ∨
    (givenB r = true ∧ fromB 1 m = false ∧ ∀ d H', H d = none → Same H H' → H' d = some (.xd [("value", m)]) → E (.ref cI) (some d) H'))
/-- the value of a place -/
def wtK (kvs : List (Key × V)) (z : Str) (k : Int) : Option Int := if z = "" then some k else match valV kvs (.inr z) with
  | some (.int n) => some (n + k)
  | _ => none
/-- what a value stands for, as a place: its value at a setting -/
def PlV (K : PySem.W.Frag) (C : Addr) (H : Hp) (kvs : List (Key × V)) (v : V) (wt : Option Int) : Prop :=
  (∃ a z k, v = .ref a ∧ Pl C H a z k ∧ wt = wtK kvs z k) ∨ (NoPl K C H v ∧ wt = (ofV v).bind fun x => wtK kvs x.1 x.2)
def KInt (kvs : List (Key × V)) : Prop := ∀ z v, valV kvs (.inr z) = some v → ∃ n, v = .int n
def spGetS (K : PySem.W.Frag) (S C cX : Addr) : Sp := fun vs H Q E => ∃ s v kvs pg wt, vs = [.ref s, v] ∧ Stg S H s kvs pg ∧ KInt kvs ∧ PlV K C H kvs v wt ∧ (∀ n, wt = some n → ∀ H', Same H H' → Q (.int n) H') ∧
  (wt = none → ∀ d H', H d = none → Same H H' → H' d = some (.xd [("value", v)]) → E (.ref cX) (some d) H')
def spSameS (K : PySem.W.Frag) (S C cX : Addr) : Sp := fun vs H Q E => ∃ s v u kvs pg wv wu, vs = [.ref s, v, u] ∧ Stg S H s kvs pg ∧ KInt kvs ∧ 0 < pg ∧ pg.natAbs.log2 < 9000 ∧ PlV K C H kvs v wv ∧ PlV K C H kvs u wu ∧
  (∀ n m, wv = some n → wu = some m → ∀ H', Same H H' → Q (.bl (decide (n / pg = m / pg))) H') ∧
  (wv = none → ∀ d H', H d = none → Same H H' → H' d = some (.xd [("value", v)]) → E (.ref cX) (some d) H') ∧
  (∀ n, wv = some n → wu = none → ∀ d H', H d = none → Same H H' → H' d = some (.xd [("value", u)]) → E (.ref cX) (some d) H')
section
variable {P : Program} {w : World} {K : PySem.W.Frag} {mg : Str → Option Value} {base : Heap}
theorem scIsFrom : FnScope ["value", "low"] ["value", "low"] (defScope sIsFrom) := ⟨rfl, rfl, rfl, by decide +kernel, rfl, by decide +kernel, by decide +kernel⟩
theorem ok_isFrom {f f1 : Addr} {fd fd1 : FuncData} (F : Fun K "is_integer_from" "is_integer_from" sIsFrom f fd) (G : FnOk P w K mg base CX0 1 f1 fd1 ["value"] (spWhole K)) (m1 : mg "_is_whole" = some (.ref f1)) (k1 : PySem.W.keepIn K (.ref f1) = true) (b1 : Binds K fd1 ["value"] []) :
    FnOk P w K mg base CX0 2 f fd ["value", "low"] (spIsFrom K) := by
  refine F.ok scIsFrom (fun vs H Q E h => ?_) (fun cdv A outer s H vs Q E hr h => ?_)
  · obtain ⟨v, lo, rfl, _⟩ := h
    rfl
  · obtain ⟨v, lo, rfl, hk, q⟩ := h
    refine ⟨_, pss_one (ps_ret (pe_and (pe_call G hr (by rfl) m1 k1 b1 .nil pass0 (pa_cons (pv 0) pa_nil)) (pe_one (pe_cmpR op_le (pv 1) (pv 0) (nomark _))))), ?_⟩
    refine ⟨_, rfl, v, rfl, hk, _, rfl, ?_⟩
    cases hk with
    | int i => exact iteT ⟨_, rfl, _, rfl, _, _, rfl, rfl, q⟩
    | bl b => exact iteF q
    | str z _ _ => exact iteF q
    | non => exact iteF q
    | oth a t ty ki ks => exact iteF q
theorem scAre : FnScope ["value", "name", "size"] ["value"] (defScope sAreSizes) := ⟨rfl, rfl, rfl, by decide +kernel, rfl, by decide +kernel, by decide +kernel⟩
theorem ok_are {f f1 f2 : Addr} {fd fd1 fd2 : FuncData} {t : Tok} (F : Fun K "_are_sizes" "_are_sizes" sAreSizes f fd) (B : Blt mg) (D : Blp mg) (mDct : mg "dict" = none) (mU : mg "MOST_UNKNOWNS" = some (.int 2 t))
    (G1 : FnOk P w K mg base CX0 1 f1 fd1 ["value"] (spIsName K)) (m1 : mg "is_name" = some (.ref f1)) (k1 : PySem.W.keepIn K (.ref f1) = true) (b1 : Binds K fd1 ["value"] [])
    (G2 : FnOk P w K mg base CX0 2 f2 fd2 ["value", "low"] (spIsFrom K)) (m2 : mg "is_integer_from" = some (.ref f2)) (k2 : PySem.W.keepIn K (.ref f2) = true) (b2 : Binds K fd2 ["value", "low"] []) :
    FnOk P w K mg base CX0 3 f fd ["value"] (spAre K) := by
  refine F.ok scAre (fun vs H Q E h => ?_) (fun cdv A outer s H vs Q E hr h => ?_)
  · obtain ⟨v, r, rfl, _⟩ := h
    rfl
  · obtain ⟨v, r, rfl, hv, q⟩ := h
    have nd := scAre.nd
    have hr1 : Room 1 _ := hr.mono (by decide)
    refine ⟨_, pss_cons (ps_if (PW.pt (pw_or (pt_not (pt_val (pe_callB call_isi (by rfl) D.isi (by decide +kernel) (pa_cons (pv 0) (pa_cons (pe_bltn (v := .ty "dict") (by rfl) mDct (by decide +kernel) rfl) pa_nil)))))
        (pw_or1 (pt_cmpR op_gt (pe_callB call_lenD (by rfl) B.len PySem.boot_len (pa_cons (pv 0) pa_nil)) (pe_glob (v := .int 2) rfl mU ⟨_, rfl⟩) (nomark _))))) (pss_one (ps_ret pe_bl)) pss_nil)
      (pss_one (ps_ret (pe_callB (cr_all rfl) (by rfl) D.all (by decide +kernel) (pa_cons (pe_lock (pe_lc (own := [("name", 1), ("size", 2)]) (g := gTup K 2 (gCons (gName 1) (gCons (gName 2) gNil))) (tt := tYes) rfl nd (pi_items (pv 0)) (blkOk_by (N := ["value", "name", "size"]) (sc := defScope sAreSizes) (by decide +kernel))
        (fun _ _ _ _ _ => pg_tup (by rfl) (pgs_cons (pg_name (i := 1) nd rfl (Or.inl rfl)) (pgs_cons (pg_name (i := 2) nd rfl (Or.inl rfl)) pgs_nil))) (fun _ _ _ _ _ => pts_nil)
        (fun _ _ _ _ _ => pe_and (pe_call G1 hr1 (by rfl) m1 k1 b1 .nil pass0 (pa_cons (pv 1) pa_nil)) (pe_one (pe_call G2 hr (by rfl) m2 k2 b2 .nil pass0 (pa_cons (pv 2) (pa_cons pe_int pa_nil))))))) pa_nil)))), ?_⟩
    refine ⟨_, rfl, ?_⟩
    rcases hv with ⟨rfl, t0, ty, kt⟩ | ⟨a, kvs, rfl, rfl, ha, hall⟩
    · exact ⟨_, _, _, _, false, rfl, .ty _, ty, kt, false, rfl, iteT (iteT (q H (Same.refl H)))⟩
    · refine ⟨_, _, _, _, true, rfl, .ty _, .base (.dK ha), kit_ty (by decide +kernel), true, rfl, iteF ?_⟩
      refine ⟨_, rfl, a, kvs, rfl, ha, _, _, rfl, rfl, _, rfl, ite2 (fun hc => ?_) (fun hc => ?_)⟩
      · have h2 : (2 : Int) < (kvs.length : Int) := of_decide_eq_true hc
        have e : givenB (some (a, kvs)) = false := by
          show (decide (kvs.length ≤ 2) && _) = false
          rw [decide_eq_false (by omega), Bool.false_and]
        rw [e] at q
        exact q H (Same.refl H)
      · have h2 : ¬ (2 : Int) < (kvs.length : Int) := fun x => hc (decide_eq_true x)
        refine ⟨a, .dK kvs, ha, trivial, fun od => ⟨_, rfl, a, od, kvs, rfl, upd_same, fun D nD => ?_⟩⟩
        have la : upd H a (.frz od (.dK kvs)) a = some (.frz od (.dK kvs)) := upd_same
        have lo : ∀ r o, r ≠ a → H r = some o → upd H a (.frz od (.dK kvs)) r = some o := fun r o n e => by
          rw [upd_ne n]
          exact e
        have nDH : H D = none := by
          cases e : H D with
          | none => rfl
          | some o =>
            by_cases x : D = a
            · subst x
              rw [la] at nD
              cases nD
            · rw [lo D o x e] at nD
              cases nD
        generalize upd H a (.frz od (.dK kvs)) = Hl at la lo nD
        have aD : a ≠ D := fun x => by
          rw [← x, la] at nD
          cases nD
        refine lc_it (walk_items (kvs := kvs)) (fun i H' => Kp D Hl H' ∧ H' D = some (.lst (((kvs.take i).map kvB).map V.bl))) ⟨Kp.fresh nD, upd_same⟩ (fun i H' _ h => h.1 _ _ aD la) ?_ ?_
        · rintro i x H0 H' hi ⟨kp, hD⟩ ⟨T, x1, y1, rfl, nT, rfl, e1, e2⟩
          have hkv : kvs[i]? = some kvs[i] := List.getElem?_eq_getElem hi
          have e1 : (kvs[i]?).map (fun kv => kV kv.1) = some x1 := e1
          have e2 : (kvs[i]?).map Prod.snd = some y1 := e2
          rw [hkv] at e1 e2
          cases e1
          cases e2
          obtain ⟨⟨hk1, hk2⟩, hka⟩ := hall _ (List.getElem_mem hi)
          have TD : T ≠ D := fun x => by
            rw [x, hD] at nT
            cases nT
          have sT : Same H0 (upd H0 T (.tup [kV kvs[i].1, kvs[i].2])) := same_nw nT
          have tT : upd H0 T (.tup [kV kvs[i].1, kvs[i].2]) T = some (.tup [kV kvs[i].1, kvs[i].2]) := upd_same
          generalize upd H0 T (.tup [kV kvs[i].1, kvs[i].2]) = H1 at sT tT
          have kd1 : Kd K H1 (kV kvs[i].1) := by
            cases e : kvs[i].1 with
            | inl n => exact .int n
            | inr z =>
              have h := hk1 z e
              exact .str z h.1 h.2
          refine ⟨T, _, rfl, SqT.of tT, rfl, _, _, rfl, _, _, rfl, rfl, ?_⟩
          refine ⟨rfl, ?_⟩
          unfold tYes
          have fin : ∀ (b : Bool) (H2 : Hp), b = kvB kvs[i] → Same H1 H2 → ∃ acc, H2 D = some (.lst acc) ∧ acc.length < sizeLine ∧ (Kp D Hl (upd H2 D (.lst (acc ++ [V.bl b]))) ∧ upd H2 D (.lst (acc ++ [V.bl b])) D = some (.lst (((kvs.take (i + 1)).map kvB).map V.bl))) := by
            intro b H2 eb s2
            refine ⟨_, s2 _ _ (sT _ _ hD), ?_, ?_, ?_⟩
            · rw [List.length_map, List.length_map, List.length_take]
              have h3 : 10 ≤ sizeLine := by decide
              omega
            · intro r o n e
              rw [upd_ne n]
              exact s2 _ _ (sT _ _ (kp r o n e))
            · rw [upd_same, List.take_succ, hkv, List.map_append, List.map_append, eb]
              rfl
          refine iteT ⟨_, rfl, kV kvs[i].1, rfl, kd1, fun H2 s2 => ⟨_, rfl, ?_⟩⟩
          cases hn : nameV (kV kvs[i].1) with
          | false => exact iteF (fin false H2 (by show _ = (_ && _); rw [hn]; rfl) s2)
          | true =>
            have kd2 : Kd K H2 kvs[i].2 := hk2.at fun r e o ho => by
              have n : r ≠ a := fun x => hka (by rw [e, x])
              exact s2 _ _ (sT _ _ (kp r o (fun z => by rw [z, nDH] at ho; cases ho) (lo r o n ho)))
            exact iteT ⟨_, rfl, kvs[i].2, 0, rfl, kd2, fin _ H2 (by show _ = (_ && _); rw [hn]; rfl) s2⟩
        · rintro H' ⟨kp, hD⟩
          rw [List.take_length] at hD
          refine ⟨kp _ _ aD la, D, kvs.map kvB, rfl, SqL.of (by rw [upd_ne aD.symm]; exact hD), ?_⟩
          have e : givenB (some (a, kvs)) = (kvs.map kvB).all id := by
            show (decide (kvs.length ≤ 2) && kvs.all kvB) = _
            rw [decide_eq_true (by omega), List.all_map]
            rfl
          rw [← e]
          refine q _ fun r o ho => ?_
          by_cases x : r = a
          · subst x
            rw [ha] at ho
            cases ho
            exact upd_same
          · rw [upd_ne x]
            exact kp r o (fun z => by rw [z, nDH] at ho; cases ho) (lo r o x ho)
end
end Mz
set_option Elab.async false
set_option linter.all false
set_option maxRecDepth 100000
set_option maxHeartbeats 4000000
namespace Mz
open PySem PySem.Spec PyProof.Rows L2
theorem Oty.same {K : PySem.W.Frag} {C : Addr} {H H' : Hp} {v : V} (s : Same H H') (h : Oty K C H v) : Oty K C H' v := by
  obtain ⟨t, ty, k⟩ := h
  exact ⟨t, ty_at (fun a _ o e => s a o e) ty, k⟩
theorem Kd.same {K : PySem.W.Frag} {H H' : Hp} {v : V} (s : Same H H') (h : Kd K H v) : Kd K H' v := h.at fun a _ o e => s a o e
theorem PlV.same {K : PySem.W.Frag} {C : Addr} {H H' : Hp} {kvs : List (Key × V)} {v : V} {wt : Option Int} (s : Same H H') (h : PlV K C H kvs v wt) : PlV K C H' kvs v wt := by
  rcases h with ⟨a, z, k, e, ⟨dx, pa⟩, ew⟩ | ⟨⟨k, o⟩, e⟩
  · exact .inl ⟨a, z, k, e, ⟨dx, s _ _ pa⟩, ew⟩
  · exact .inr ⟨⟨k.same s, o.same s⟩, e⟩
section
variable {P : Program} {w : World} {K : PySem.W.Frag} {mg : Str → Option Value} {base : Heap}
theorem scInitS : FnScope ["self", "sizes", "page"] ["self", "sizes", "page"] (defScope (inClass sSetting 0)) := ⟨rfl, rfl, rfl, by decide +kernel, rfl, by decide +kernel, by decide +kernel⟩
theorem ok_initS {f f1 f2 fS fI S cS cI : Addr} {fd fd1 fd2 fdS fdI : FuncData} {dvs : List V} {kws : List (Str × V)} {pa : Arguments} (F : FunD K "__init__" "Setting.__init__" pa (defBody (inClass sSetting 0)) (defScope (inClass sSetting 0)) dvs kws f fd) (T : Scl K mg S) (mDct : mg "dict" = none)
    (G1 : FnOk P w K mg base CX0 3 f1 fd1 ["value"] (spAre K)) (m1 : mg "_are_sizes" = some (.ref f1)) (k1 : PySem.W.keepIn K (.ref f1) = true) (b1 : Binds K fd1 ["value"] [])
    (G2 : FnOk P w K mg base CX0 2 f2 fd2 ["value", "low"] (spIsFrom K)) (m2 : mg "is_integer_from" = some (.ref f2)) (k2 : PySem.W.keepIn K (.ref f2) = true) (b2 : Binds K fd2 ["value", "low"] [])
    (TS : Xcl K mg "InvalidSetting" cS "value") (GS : FnOk P w K mg base CX0 1 fS fdS ["self", "value"] (spX1 K cS "value")) (iS : PySem.W.findIn K (.ref cS) "__init__" = some (some (.ref fS))) (tS : PySem.W.typeIn K (.ref fS) = some (.type "function")) (bS : Binds K fdS ["self", "value"] [])
    (TI : Xcl K mg "InvalidInteger" cI "value") (GI : FnOk P w K mg base CX0 1 fI fdI ["self", "value"] (spX1 K cI "value")) (iI : PySem.W.findIn K (.ref cI) "__init__" = some (some (.ref fI))) (tI : PySem.W.typeIn K (.ref fI) = some (.type "function")) (bI : Binds K fdI ["self", "value"] []) :
    FnOk P w K mg base (L2.CX P w) 4 f fd ["self", "sizes", "page"] (spInitS K S cS cI) := by
  refine F.ok (CX := L2.CX P w) scInitS (fun vs H Q E h => ?_) (fun cdv A outer s H vs Q E hr h => ?_)
  · obtain ⟨p, dx, v, m, r, rfl, _⟩ := h
    rfl
  · obtain ⟨p, dx, v, m, r, rfl, hp, hv, hm, h⟩ := h
    refine ⟨_, pss_cons (ps_if (pt_not (pt_val (pe_call G1 hr (by rfl) m1 k1 b1 .nil pass0 (pa_cons (pv 1) pa_nil)))) (pss_one (ps_raise rfl (takes_of rfl rfl rfl rfl) (pmk_oex TS.ox iS tS GS (hr.mono (by decide)) bS .nil pass0 (by rfl) TS.m (pa_cons (pv 1) pa_nil)))) pss_nil)
      (pss_cons (ps_if (pt_not (pt_val (pe_call G2 (hr.mono (by decide)) (by rfl) m2 k2 b2 .nil pass0 (pa_cons (pv 2) (pa_cons pe_int pa_nil))))) (pss_one (ps_raise rfl (takes_of rfl rfl rfl rfl) (pmk_oex TI.ox iI tI GI (hr.mono (by decide)) bI .nil pass0 (by rfl) TI.m (pa_cons (pv 2) pa_nil)))) pss_nil)
      (pss_cons (ps_fld (pv 0) (pe_callTy call_dictD (by rfl) mDct (by decide +kernel) (pa_cons (pv 1) pa_nil)) rfl) (pss_one (ps_fld (pv 0) (pv 2) rfl)))), ?_⟩
    refine ⟨_, rfl, v, r, rfl, hv, fun H1 s1 => ⟨_, rfl, ?_⟩⟩
    have hp1 := s1 _ _ hp
    rcases h with ⟨e, pg, rfl, hpg, q⟩ | ⟨e, q⟩ | ⟨e, e2, q⟩
    · rw [e]
      refine iteF ⟨_, rfl, _, 1, rfl, .int pg, _, rfl, ?_⟩
      have e1 : fromB 1 (.int pg) = true := decide_eq_true hpg
      rw [e1]
      rcases hv with ⟨rfl, _⟩ | ⟨a, kvs, rfl, rfl, ha, _⟩
      · cases e
      · refine iteF ⟨_, rfl, a, kvs, rfl, .inl (s1 _ _ ha), fun d nd => ?_⟩
        have dp : d ≠ p := (ne_of_none hp1 nd).symm
        have ep : (upd H1 d (.dK kvs)) p = some (.ins S dx []) := by
          rw [upd_ne dp.symm]
          exact hp1
        refine ⟨_, rfl, p, S, dx, [], rfl, ep, T.cl, T.nZ, (by show 0 < 1000; decide), _, rfl, _, rfl, p, S, dx, _, rfl, upd_same, T.cl, T.nP, (by show 1 < 1000; decide), ?_⟩
        rw [upd_upd]
        refine q _ (fun b o n hb => ?_) fun a2 k2 e2 => ?_
        · rw [upd_ne n, upd_ne (ne_of_none (s1 _ _ hb) nd)]
          exact s1 _ _ hb
        · cases e2
          exact ⟨dx, d, upd_same, (by rw [upd_ne dp]; exact upd_same), s1.free nd⟩
    · rw [e]
      exact iteT (mko_x1 rfl fun d H' nd s2 hd => q d H' (s1.free nd) (s1.trans s2) hd)
    · rw [e]
      refine iteF ⟨_, rfl, m, 1, rfl, hm.same s1, _, rfl, ?_⟩
      rw [e2]
      exact iteT (mko_x1 rfl fun d H' nd s2 hd => q d H' (s1.free nd) (s1.trans s2) hd)
theorem scGetS : FnScope ["self", "at", "place"] ["self", "at"] (defScope (inClass sSetting 3)) := ⟨rfl, rfl, rfl, by decide +kernel, rfl, by decide +kernel, by decide +kernel⟩
theorem ok_getS {f fO fX C S cX po gb gs pb ps_ : Addr} {fd fdO fdX fdb fds : FuncData} (F : Fun K "__getitem__" "Setting.__getitem__" (inClass sSetting 3) f fd) (Z : Cpl K mg C) (T : Scl K mg S) (O : OfM P w K mg base C cX po fO fdO)
    (TX : Xcl K mg "InvalidPlace" cX "value") (GX : FnOk P w K mg base CX0 1 fX fdX ["self", "value"] (spX1 K cX "value")) (iX : PySem.W.findIn K (.ref cX) "__init__" = some (some (.ref fX))) (tX : PySem.W.typeIn K (.ref fX) = some (.type "function")) (bX : Binds K fdX ["self", "value"] [])
    (pB : PropOf K C "base" pb gb) (Gb : FnOk P w K mg base CX0 1 gb fdb ["self"] (spBase C)) (bb : Binds K fdb ["self"] []) (pS : PropOf K C "shift" ps_ gs) (Gs : FnOk P w K mg base CX0 1 gs fds ["self"] (spShift C)) (bs : Binds K fds ["self"] []) :
    FnOk P w K mg base (L2.CX P w) 6 f fd ["self", "at"] (spGetS K S C cX) := by
  refine F.okX scGetS (fun vs H Q E h => ?_) (fun cdv A outer s H vs Q E hr h => ?_)
  · obtain ⟨s, v, kvs, pg, wt, rfl, _⟩ := h
    rfl
  · obtain ⟨st, v, kvs, pg, wt, rfl, hst, hki, hpl, q1, q2⟩ := h
    have nd := scGetS.nd
    have hr2 : Room 2 _ := hr.mono (by decide)
    have hu : ∀ {X : Cx}, Room 5 X.A → X.A.units + 1 < cLine := fun r => by
      have := r.units
      omega
    refine ⟨_, pss_cons (ps_set (i := 2) nd rfl (Or.inl rfl) (pe_cmethS (pe_glob (v := .ref C) rfl Z.mgC rfl) O.rd O.met O.ok hr O.b (fun σ => passAt (takes_of rfl rfl rfl rfl) σ) (pa_cons (pv 1) pa_nil)))
      (pss_cons (ps_if (pt_cmpR op_eq (pe_prop (pv 2) Z.cl pB Gb hr2 bb .nil pass0 rfl) pe_str (nomark _)) (pss_one (ps_ret (pe_prop (pv 2) Z.cl pS Gs hr2 bs .nil pass0 rfl))) pss_nil)
      (pss_cons (ps_if (pt_cmp (pc_dnotin (hu hr) (pe_prop (pv 2) Z.cl pB Gb hr2 bb .nil pass0 rfl) (pe_fld (pv 0) rfl))) (pss_one (ps_raise rfl (takes_of rfl rfl rfl rfl) (pmk_oex TX.ox iX tX GX hr2 bX .nil pass0 (by rfl) TX.m (pa_cons (pv 1) pa_nil)))) pss_nil)
      (pss_one (ps_ret (pe_op op_add (pe_dget (hu hr) (pe_fld (pv 0) rfl) (pe_prop (pv 2) Z.cl pB Gb hr2 bb .nil pass0 rfl) (fun _ _ => rfl)) (pe_prop (pv 2) Z.cl pS Gs hr2 bs .nil pass0 rfl)))))), ?_⟩
    generalize hT : tSeq (tIfS _ _ _) _ = T2
    have rest : ∀ (p : Addr) (z : Str) (k : Int) (H1 : Hp), Same H H1 → Pl C H1 p z k → wt = wtK kvs z k → T2 { nx := fun _ H' => Q .non H', rt := Q } [some (.ref st), some v, some (.ref p)] H1 := by
      intro p z k H1 sm pp ew
      rw [← hT]
      obtain ⟨dp, hp⟩ := id pp
      obtain ⟨dx, d, h1, h2⟩ := hst.same sm
      refine ⟨_, rfl, p, dp, _, rfl, hp, p, z, k, rfl, pp, rfl, _, rfl, ?_⟩
      by_cases e : z = ""
      · rw [decide_eq_true (show V.str z = V.str "" by rw [e])]
        have : wt = some k := by
          rw [ew]
          exact if_pos e
        exact iteT ⟨_, rfl, p, dp, _, rfl, hp, p, z, k, rfl, pp, q1 k this H1 sm⟩
      · rw [decide_eq_false (show ¬ V.str z = V.str "" from fun x => e (V.str.inj x))]
        have ew2 : wt = match valV kvs (.inr z) with
          | some (.int n) => some (n + k)
          | _ => none := by
          rw [ew]
          exact if_neg e
        refine iteF ⟨_, rfl, p, dp, _, rfl, hp, p, z, k, rfl, pp, _, rfl, st, S, dx, _, _, rfl, h1, T.cl, T.nZ, stF_sizes, d, _, rfl, DGet.k (k := Sum.inr z) h2, _, rfl, ?_⟩
        cases ev : valV kvs (Sum.inr z) with
        | none =>
          rw [ev] at ew2
          exact iteT (mko_x1 rfl fun d2 H' nd2 s2 hd => q2 ew2 d2 H' (sm.free nd2) (sm.trans s2) hd)
        | some y =>
          obtain ⟨n, rfl⟩ := hki z y ev
          rw [ev] at ew2
          refine iteF ⟨_, rfl, st, S, dx, _, _, rfl, h1, T.cl, T.nZ, stF_sizes, _, rfl, p, dp, _, rfl, hp, p, z, k, rfl, pp, d, _, rfl, (by rw [← ev]; exact DGet.k (k := Sum.inr z) h2), _, rfl, p, dp, _, rfl, hp, p, z, k, rfl, pp, _, _, rfl, rfl, q1 _ ew2 H1 sm⟩
    clear hT
    refine ⟨rfl, _, rfl, v, rfl, ?_⟩
    rcases hpl with ⟨a, z, k, rfl, pa, ew⟩ | ⟨np, ew⟩
    · exact .inl ⟨a, z, k, rfl, pa, rest a z k H (Same.refl H) pa ew⟩
    · refine .inr ⟨np, fun z k e p H' n1 sm pp g => rest p z k H' sm pp ?_, fun e d H' nd2 sm hd => q2 ?_ d H' nd2 sm hd⟩
      · rw [ew, e]
        rfl
      · rw [ew, e]
        rfl
def spSizesS (S : Addr) : Sp := fun vs H Q _ => ∃ s kvs pg, vs = [.ref s] ∧ Stg S H s kvs pg ∧ ∀ p, H p = none → Q (.ref p) (upd H p (.dK kvs))
theorem scSizesS : FnScope ["self"] ["self"] (defScope (inClass sSetting 1)) := ⟨rfl, rfl, rfl, by decide +kernel, rfl, by decide +kernel, by decide +kernel⟩
theorem ok_sizesS {f S : Addr} {fd : FuncData} (F : Fun K "sizes" "Setting.sizes" (inClass sSetting 1) f fd) (T : Scl K mg S) (mDct : mg "dict" = none) : FnOk P w K mg base CX0 1 f fd ["self"] (spSizesS S) := by
  refine F.ok scSizesS (fun vs H Q E h => ?_) (fun cdv A outer s H vs Q E hr h => ?_)
  · obtain ⟨s, kvs, pg, rfl, _⟩ := h
    rfl
  · obtain ⟨st, kvs, pg, rfl, ⟨dx, d, h1, h2⟩, q⟩ := h
    exact ⟨_, pss_one (ps_ret (pe_callTy call_dictD (by rfl) mDct (by decide +kernel) (pa_cons (pe_fld (pv 0) rfl) pa_nil))), _, rfl, st, S, dx, _, _, rfl, h1, T.cl, T.nZ, stF_sizes, d, kvs, rfl, .inl h2, q⟩
end
end Mz
set_option Elab.async false
set_option linter.all false
set_option maxRecDepth 100000
set_option maxHeartbeats 4000000
namespace Mz
open PySem PySem.Spec PyProof.Rows L2
def isPlV (pl : Bool) (v : V) : Bool := pl || (ofV v).isSome
def spIsPl (K : PySem.W.Frag) (C : Addr) : Sp := fun vs H Q _ => ∃ v, vs = [v] ∧ ((∃ a z k, v = .ref a ∧ Pl C H a z k ∧ Q (.bl true) H) ∨ (NoPl K C H v ∧ ∀ H', Same H H' → Q (.bl (ofV v).isSome) H'))
section
variable {P : Program} {w : World} {K : PySem.W.Frag} {mg : Str → Option Value} {base : Heap}
theorem scIsPl : FnScope ["value"] ["value"] (defScope sIsPlace) := ⟨rfl, rfl, rfl, by decide +kernel, rfl, by decide +kernel, by decide +kernel⟩
theorem ok_isPl {f fO C cX po : Addr} {fd fdO : FuncData} (F : Fun K "is_place" "is_place" sIsPlace f fd) (T : Cpl K mg C) (O : OfM P w K mg base C cX po fO fdO) (mX : mg "InvalidPlace" = some (.ref cX)) (te : PySem.W.exmOne K (.ref cX) (.ref cX) = some true) :
    FnOk P w K mg base CX0 6 f fd ["value"] (spIsPl K C) := by
  refine F.ok scIsPl (fun vs H Q E h => ?_) (fun cdv A outer s H vs Q E hr h => ?_)
  · obtain ⟨v, rfl, _⟩ := h
    rfl
  · obtain ⟨v, rfl, h⟩ := h
    refine ⟨_, pss_cons (ps_try_only rfl rfl ⟨rfl, by decide, .inl mX⟩ takes0 (fun W pn xe tk _ => pss_one (ps_expr (pe_cmethS (pe_glob (v := .ref C) rfl T.mgC rfl) O.rd O.met O.ok hr O.b (fun σ => passAt tk σ) (pa_cons (pv 0) pa_nil))))
      (fun a oe cls d pn hz hf => pss_one (ps_ret pe_bl))) (pss_one (ps_ret pe_bl)), ?_⟩
    rcases h with ⟨a, z, k, rfl, pa, q⟩ | ⟨nv, q⟩
    · exact ⟨rfl, _, rfl, .ref a, rfl, .inl ⟨a, z, k, rfl, pa, q⟩⟩
    · refine ⟨rfl, _, rfl, v, rfl, .inr ⟨nv, fun z k e p H' np sm pl g => ?_, fun e d H' nd sm hd => ?_⟩⟩
      · have q2 := q H' sm
        rw [e] at q2
        exact q2
      · have q2 := q H' sm
        rw [e] at q2
        exact ⟨true, te, fun _ a ha => q2, fun x => Bool.noConfusion x⟩
end
end Mz
set_option Elab.async false
set_option linter.all false
set_option maxRecDepth 100000
set_option maxHeartbeats 4000000
namespace Mz
open PySem PySem.Spec PyProof.Rows L2
/-! a place's text, read again -/
def sfx (k : Int) : Str := if k = 1 then "+1" else if k = 2 then "+2" else if k = 3 then "+3" else if k = -1 then "-1" else if k = -2 then "-2" else if k = -3 then "-3" else ""
theorem cps_app (z s : Str) : (z ++ s).cps.toList = z.cps.toList ++ s.cps.toList := app_list z s
theorem six0 {n : Nat} : HT.sIx n 0 none = 0 := rfl
theorem six2 {n : Nat} (h : 2 ≤ n) : HT.sIx n n (some (-2)) = n - 2 := by
  unfold HT.sIx
  simp
  omega
theorem six2b {n : Nat} (h : 2 ≤ n) : HT.sIx n 0 (some (-2)) = n - 2 := by
  unfold HT.sIx
  simp
  omega
theorem sixn {n : Nat} : HT.sIx n n none = n := rfl
theorem len_cps (z : Str) : z.cps.toList.length = z.length := by
  rw [Array.length_toList]
  rfl
theorem cut_head {z s : Str} (h : s.length = 2) : headS (z ++ s) = z := by
  refine str_ext ?_
  unfold headS cutS
  have l : (z ++ s).length = z.length + 2 := by rw [strLen_append, h]
  rw [l, six0, six2 (by omega)]
  simp [cps_app]
  rw [← len_cps z, List.take_left]
theorem cut_tail {z s : Str} (h : s.length = 2) : tailS (z ++ s) = s := by
  refine str_ext ?_
  unfold tailS cutS
  have l : (z ++ s).length = z.length + 2 := by rw [strLen_append, h]
  rw [l, six2b (by omega), sixn]
  have e1 : z.length + 2 - 2 = z.cps.toList.length := by rw [len_cps]; omega
  rw [e1, cps_app, List.drop_left]
  rw [List.take_of_length_le (by rw [len_cps, len_cps]; omega)]
theorem num_none {z : Str} (h : 3 ≤ z.length) : numS z = none := by
  unfold numS
  rw [if_neg (fun e => by rw [e] at h; revert h; decide +kernel), if_neg (fun e => by rw [e] at h; revert h; decide +kernel), if_neg (fun e => by rw [e] at h; revert h; decide +kernel), if_neg (fun e => by rw [e] at h; revert h; decide +kernel)]
theorem name_len {z : Str} (h : nameS z = true) : 1 ≤ z.length ∧ z.length ≤ 6 := by
  have := (Bool.and_eq_true_iff.mp h).1
  obtain ⟨h1, h2⟩ := Bool.and_eq_true_iff.mp this
  have h1 := of_decide_eq_true h1
  have h2 := of_decide_eq_true h2
  omega
theorem sfx_len {k : Int} (h0 : -3 ≤ k) (h1 : k ≤ 3) (hk : k ≠ 0) : (sfx k).length = 2 ∧ shS (sfx k) = some k := by
  have h : k = -3 ∨ k = -2 ∨ k = -1 ∨ k = 1 ∨ k = 2 ∨ k = 3 := by omega
  rcases h with rfl | rfl | rfl | rfl | rfl | rfl <;> decide +kernel
theorem sh_noname6 {z : Str} {n : Int} (h : shS (tailS z) = some n) : ¬ nameS z = true := by
  intro hn
  have hall : (z.cps.toList.all fun c => decide (c ∈ abc.cps.toList)) = true := (Bool.and_eq_true_iff.mp hn).2
  have sub : ∀ c ∈ (tailS z).cps.toList, c ∈ abc.cps.toList := by
    intro c hc
    unfold tailS cutS at hc
    have h1 : c ∈ z.cps.toList := List.mem_of_mem_drop (List.mem_of_mem_take (by simpa using hc))
    exact of_decide_eq_true (List.all_eq_true.mp hall c h1)
  generalize tailS z = y at h sub
  unfold shS at h
  repeat' split at h
  all_goals first
    | (rename_i e
       subst e
       revert sub
       decide +kernel)
    | cases h
theorem num_name {z : Str} (h : nameS z = true) : numS z = none := by
  unfold numS
  rw [if_neg (fun e => by rw [e] at h; revert h; decide +kernel), if_neg (fun e => by rw [e] at h; revert h; decide +kernel), if_neg (fun e => by rw [e] at h; revert h; decide +kernel), if_neg (fun e => by rw [e] at h; revert h; decide +kernel)]
theorem parts_sfx {z : Str} {k : Int} (h : nameS z = true) (h0 : -3 ≤ k) (h1 : k ≤ 3) : partsS (z ++ sfx k) = some (z, k) := by
  by_cases hk : k = 0
  · subst hk
    have e : z ++ sfx 0 = z := by
      refine str_ext ?_
      rw [cps_app]
      exact List.append_nil _
    rw [e]
    unfold partsS
    rw [num_name h]
    show (if nameS z = true then some (z, (0 : Int)) else _) = _
    rw [if_pos h]
  · obtain ⟨l, s⟩ := sfx_len h0 h1 hk
    have n := name_len h
    unfold partsS
    have hn := cut_tail (z := z) l
    rw [num_none (by rw [strLen_append, l]; omega)]
    show (if nameS (z ++ sfx k) = true then _ else if nameS (headS (z ++ sfx k)) = true then _ else none) = _
    rw [if_neg (sh_noname6 (n := k) (by rw [hn]; exact s)), if_pos (by rw [cut_head l]; exact h), hn, s, cut_head l]
end Mz
set_option Elab.async false
set_option linter.all false
set_option maxRecDepth 100000
set_option maxHeartbeats 4000000
namespace Mz
open PySem PySem.Spec PyProof.Rows L2
/-- a place by its parts: no name or one of the names -/
def Prt (roots : List Str) (z : Str) (k : Int) : Prop := (z = "" ∧ 0 ≤ k ∧ k ≤ 3) ∨ (z ∈ roots ∧ -3 ≤ k ∧ k ≤ 3)
def spPair6 (K : PySem.W.Frag) : Sp := fun vs H Q _ => ∃ (b rl : Addr) (n : Nat) (roots : List Str), vs = [.ref b, .ref rl] ∧ Bx H b n ∧ n ≤ 900000 ∧ H rl = some (.lst (roots.map V.str)) ∧ roots.length ≤ 2 ∧ rl ≠ b ∧
  ∀ (q : Addr) (z : Str) (k : Int) (H' : Hp), Prt roots z k → H' q = some (.tup [.str z, .int k]) → H q = none → Bx H' b (n + 2) → Kp b H H' → Q (.ref q) H'
/-- the value of a place, by the law's own dict -/
def wtD (kvs : List (Key × V)) (z : Str) (k : Int) : Option Int := match valV kvs (.inr z) with
  | some (.int n) => some (n + k)
  | some _ => none
  | none => some k
def spWorth6 : Sp := fun vs H Q _ => ∃ (d p : Addr) (kvs : List (Key × V)) (z : Str) (k n : Int), vs = [.ref d, .ref p] ∧ H d = some (.dK kvs) ∧ H p = some (.tup [.str z, .int k]) ∧ wtD kvs z k = some n ∧ Q (.int n) H
section
variable {P : Program} {w : World} {K : PySem.W.Frag} {mg : Str → Option Value} {base : Heap}
theorem scPair6 : FnScope ["_law_box_here", "_law_roots_here", "_law_root"] ["_law_box_here", "_law_roots_here"] (defScope sPair6) := ⟨rfl, rfl, rfl, by decide +kernel, rfl, by decide +kernel, by decide +kernel⟩
theorem ok_pair6 {f f1 : Addr} {fd fd1 : FuncData} (F : Fun K "_law_pair" "_law_pair" sPair6 f fd) (T : Tk P w K mg base f1 fd1) (B : Blt mg) : FnOk P w K mg base CX0 2 f fd ["_law_box_here", "_law_roots_here"] (spPair6 K) := by
  refine F.ok scPair6 (fun vs H Q E h => ?_) (fun cdv A outer s H vs Q E hr h => ?_)
  · obtain ⟨b, rl, n, roots, rfl, _⟩ := h
    rfl
  · obtain ⟨b, rl, n, roots, rfl, hB, hn, hR, hl, ne, q⟩ := h
    have nd := scPair6.nd
    refine ⟨_, pss_cons (ps_set (i := 2) nd rfl (Or.inl rfl) (pe_ix ix_list (pe_op op_cat (pv 1) (pe_lst (pa_cons pe_str pa_nil)))
        (pe_call T.ok hr (by rfl) T.m T.k T.b .nil pass0 (pa_cons (pv 0) (pa_cons (pe_op op_add (pe_callB call_len_seq (by rfl) B.len PySem.boot_len (pa_cons (pv 1) pa_nil)) pe_int) pa_nil))) (fun _ _ => rfl)))
      (pss_one (ps_ret (pe_tup (pa_cons (pv 2) (pa_cons (pe_ifExp (pt_cmpR op_eq (pv 2) pe_str (nomark _)) (pe_call T.ok hr (by rfl) T.m T.k T.b .nil pass0 (pa_cons (pv 0) (pa_cons pe_int pa_nil)))
        (pe_op op_sub (pe_call T.ok hr (by rfl) T.m T.k T.b .nil pass0 (pa_cons (pv 0) (pa_cons pe_int pa_nil))) pe_int)) pa_nil))))), ?_⟩
    have off : ∀ {G : Hp} {p : Addr} {m : Nat}, Bx G b m → G p = none → p ≠ b := fun hb hp => by
      obtain ⟨_, _, _, e, _⟩ := hb
      exact (ne_of_none e hp).symm
    have one : ∀ {H1 : Hp} {p : Addr} (o : HO), H1 p = none → ∃ H2, H2 = upd H1 p o ∧ Same H1 H2 ∧ H2 p = some o := fun o n => ⟨_, rfl, same_nw n, upd_same⟩
    refine ⟨_, rfl, (by show 1 ≤ sizeLine; decide), fun p1 n1 => ?_⟩
    obtain ⟨H1, e, s1, t1⟩ := one (.lst [V.str ""]) n1
    rw [← e]
    clear e
    refine ⟨_, _, _, _, rfl, rfl, s1 _ _ hR, t1, ?_, fun p2 n2 => ?_⟩
    · rw [List.length_map]
      have : 10 ≤ sizeLine := by decide
      show roots.length + 1 ≤ sizeLine
      omega
    obtain ⟨H2, e, s2, t2⟩ := one (.lst (roots.map V.str ++ [V.str ""])) n2
    rw [← e]
    clear e
    have B2 := (hB.same s1).same s2
    refine ⟨_, rfl, _, rfl, rl, _, rfl, .inl (SqL.of (s2 _ _ (s1 _ _ hR))), _, _, rfl, rfl, ?_⟩
    have lr : ((roots.map V.str).length : Int) = (roots.length : Int) := by rw [List.length_map]
    rw [lr]
    refine ⟨b, n, (roots.length : Int) + 1, rfl, B2, by omega, by omega, by omega, fun r H3 r0 r1 B3 K3 => ?_⟩
    obtain ⟨c, hc, hm⟩ := atI_in (l := roots.map V.str ++ [V.str ""]) (i := r) r0 (by
      rw [List.length_append, List.length_map]
      show r < ((roots.length + 1 : Nat) : Int)
      omega)
    refine ⟨p2, _, _, _, rfl, rfl, SqL.of (K3 _ _ (off (hB.same s1) n2) t2), hc, ?_⟩
    have K03 : Kp b H H3 := (Kp.same (s1.trans s2)).trans K3
    have fin : ∀ (z : Str) (k : Int) (H4 : Hp), Prt roots z k → Bx H4 b (n + 2) → Kp b H3 H4 → 2 ≤ sizeLine ∧ ∀ p, H4 p = none → Q (.ref p) (upd H4 p (.tup [.str z, .int k])) := by
      intro z k H4 pr B4 K4
      refine ⟨(by decide), fun p np => q p z k _ pr upd_same ?_ (B4.same (same_nw np)) ((K03.trans K4).trans (Kp.same (same_nw np)))⟩
      cases x : H p with
      | none => rfl
      | some o =>
        have := (K03.trans K4) p o (off B4 np) x
        rw [np] at this
        cases this
    have hz : ∃ z, c = .str z ∧ (z ∈ roots ∨ z = "") := by
      rcases List.mem_append.mp hm with h | h
      · obtain ⟨z, h1, h2⟩ := List.mem_map.mp h
        exact ⟨z, h2.symm, .inl h1⟩
      · exact ⟨"", List.mem_singleton.mp h, .inr rfl⟩
    obtain ⟨z, rfl, hz⟩ := hz
    refine ⟨_, rfl, _, rfl, rfl, _, rfl, ?_⟩
    refine ite2 (fun h1 => ?_) (fun h1 => ?_)
    · have e1 : z = "" := V.str.inj (of_decide_eq_true h1)
      refine ⟨_, rfl, b, n + 1, 4, rfl, B3, by omega, by decide, by decide, fun k H4 k0 k1 B4 K4 => ?_⟩
      exact fin z k H4 (.inl ⟨e1, k0, by omega⟩) B4 K4
    · have e1 : ¬ z = "" := fun x => h1 (decide_eq_true (by rw [x]))
      refine ⟨_, rfl, b, n + 1, 7, rfl, B3, by omega, by decide, by decide, fun k H4 k0 k1 B4 K4 => ⟨_, _, rfl, rfl, ?_⟩⟩
      exact fin z (k - 3) H4 (.inr ⟨hz.resolve_right e1, by omega, by omega⟩) B4 K4
end
end Mz
set_option Elab.async false
set_option linter.all false
set_option maxRecDepth 100000
set_option maxHeartbeats 4000000
namespace Mz
open PySem PySem.Spec PyProof.Rows L2
/-- parts that a place may have -/
def Prs (z : Str) (k : Int) : Prop := (z = "" ∧ 0 ≤ k ∧ k ≤ 3) ∨ (nameS z = true ∧ Sm 10 z ∧ -3 ≤ k ∧ k ≤ 3)
theorem Prs.good {z : Str} {k : Int} (h : Prs z k) : Good z k := by
  rcases h with ⟨rfl, h0, h1⟩ | ⟨hn, hs, h0, h1⟩
  · exact ⟨by decide +kernel, by decide +kernel, .inl rfl, by unfold lowS; rw [if_pos rfl]; exact h0, h1⟩
  · refine ⟨Nat.le_trans hs.1 (by decide), hs.2, .inr hn, ?_, h1⟩
    unfold lowS
    rw [if_neg (fun e => by rw [e] at hn; revert hn; decide +kernel)]
    exact h0
/-- what stands for a place -/
def Pv6 (K : PySem.W.Frag) (C : Addr) (H : Hp) (v : V) (z : Str) (k : Int) : Prop := (∃ a, v = .ref a ∧ Pl C H a z k) ∨ (NoPl K C H v ∧ ofV v = some (z, k))
theorem Pv6.plv {K : PySem.W.Frag} {C : Addr} {H : Hp} {v : V} {z : Str} {k : Int} (h : Pv6 K C H v z k) (kvs : List (Key × V)) : PlV K C H kvs v (wtK kvs z k) := by
  rcases h with ⟨a, e, p⟩ | ⟨n, e⟩
  · exact .inl ⟨a, z, k, e, p, rfl⟩
  · exact .inr ⟨n, by rw [e]; rfl⟩
def spTold6 (K : PySem.W.Frag) (C : Addr) : Sp := fun vs H Q _ => ∃ (b p : Addr) (n : Nat) (z : Str) (k : Int), vs = [.ref b, .ref p] ∧ Bx H b n ∧ n ≤ 900000 ∧ H p = some (.tup [.str z, .int k]) ∧ Prs z k ∧
  ∀ (v : V) (H' : Hp), Pv6 K C H' v z k → (∀ a, v = .ref a → a ≠ b ∧ H a = none) → Bx H' b (n + 1) → Kp b H H' → Q v H'
section
variable {P : Program} {w : World} {K : PySem.W.Frag} {mg : Str → Option Value} {base : Heap}
theorem scTold6 : FnScope ["_law_box_here", "_law_pair_here", "_law_way", "_law_text"] ["_law_box_here", "_law_pair_here"] (defScope sTold6) := ⟨rfl, rfl, rfl, by decide +kernel, rfl, by decide +kernel, by decide +kernel⟩
theorem ok_told6 {f f1 fI fA C : Addr} {fd fd1 fdI fdA : FuncData} {ds : List Value} {g2 : List Value → List Value → List Value} (F : Fun K "_law_told" "_law_told" sTold6 f fd) (T : Tk P w K mg base f1 fd1) (Z : Cpl K mg C) (M : Mk K C fI) (N : Npl K C)
    (GI : FnOk P w K mg base CX0 3 fI fdI ["self", "base", "shift"] (spInit C)) (hds : Vals [.int 0] ds) (bI : Binds K fdI ["self", "base", "shift"] ds) (kI2 : KBn K fdI ["self", "base", "shift"] 2 ["shift"] g2 (fun vs zs => vs ++ zs))
    (GA : FnOk P w K mg base CX0 5 fA fdA ["self", "other"] (spAdd C)) (bA : Binds K fdA ["self", "other"] []) (TA : Arith K C .Add fA) : FnOk P w K mg base CX0 6 f fd ["_law_box_here", "_law_pair_here"] (spTold6 K C) := by
  refine F.ok scTold6 (fun vs H Q E h => ?_) (fun cdv A outer s H vs Q E hr5 h => ?_)
  · obtain ⟨b, p, n, z, k, rfl, _⟩ := h
    rfl
  · obtain ⟨b, p, n, z, k, rfl, hB, hn, hp, hz, q⟩ := h
    have nd := scTold6.nd
    have hr1 : Room 1 _ := hr5.mono (by decide)
    have hr4 : Room 4 _ := hr5.mono (by decide)
    refine ⟨_, pss_cons (ps_set (i := 2) nd rfl (Or.inl rfl) (pe_call T.ok hr1 (by rfl) T.m T.k T.b .nil pass0 (pa_cons (pv 0) (pa_cons pe_int pa_nil))))
      (pss_cons (ps_set (i := 3) nd rfl (Or.inl rfl) (pe_op op_add_str (pe_ix ix_tup (pv 1) pe_int (fun _ _ => rfl)) (pe_ix ix_list (pe_lst (pa_cons pe_str (pa_cons pe_str (pa_cons pe_str (pa_cons pe_str (pa_cons pe_str (pa_cons pe_str (pa_cons pe_str pa_nil)))))))) (pe_ix ix_tup (pv 1) pe_int (fun _ _ => rfl)) (fun _ _ => rfl))))
      (pss_cons (ps_if (pt_cmpR op_eq (pv 2) pe_int (nomark _)) (pss_one (ps_ret (pe_makeK M GI hr4 (by rfl) Z.mgC kI2 pass0 (pa_cons (pe_ix ix_tup (pv 1) pe_int (fun _ _ => rfl)) pa_nil) (pk_cons (pe_ix ix_tup (pv 1) pe_int (fun _ _ => rfl)) pk_nil)))) pss_nil)
      (pss_cons (ps_if (pt_cmpR op_eq (pv 2) pe_int (nomark _)) (pss_one (ps_ret (pe_op (op_binO GA hr5 bA TA) (pe_make M GI hr4 (by rfl) Z.mgC bI hds pass0 (pa_cons (pe_ix ix_tup (pv 1) pe_int (fun _ _ => rfl)) pa_nil)) (pe_ix ix_tup (pv 1) pe_int (fun _ _ => rfl))))) pss_nil)
      (pss_cons (ps_if (pt_cmpR op_eq (pe_ix ix_tup (pv 1) pe_int (fun _ _ => rfl)) pe_str (nomark _)) (pss_one (ps_ret (pe_ix ix_list (pe_lst (pa_cons (pe_ix ix_tup (pv 1) pe_int (fun _ _ => rfl)) (pa_cons (pe_ix ix_str pe_str (pe_ix ix_tup (pv 1) pe_int (fun _ _ => rfl)) (fun _ _ => rfl)) pa_nil))) (pe_op op_sub (pv 2) pe_int) (fun _ _ => rfl)))) pss_nil)
      (pss_one (ps_ret (pv 3))))))), ?_⟩
    have off : ∀ {G : Hp} {p : Addr} {m : Nat}, Bx G b m → G p = none → p ≠ b := fun hb hp => by
      obtain ⟨_, _, _, e, _⟩ := hb
      exact (ne_of_none e hp).symm
    have one : ∀ {H1 : Hp} {p : Addr} (o : HO), H1 p = none → ∃ H2, H2 = upd H1 p o ∧ Same H1 H2 ∧ H2 p = some o := fun o n => ⟨_, rfl, same_nw n, upd_same⟩
    have pb : p ≠ b := by
      obtain ⟨_, _, _, e, _⟩ := hB
      intro x
      rw [x, e] at hp
      cases hp
    have g := hz.good
    have k0 := g.lo
    have k1 := g.hi
    refine ⟨_, rfl, b, n, 4, rfl, hB, by omega, by decide, by decide, fun way H1 w0 w1 B1 K1 => ?_⟩
    have hp1 := K1 _ _ pb hp
    refine ⟨_, rfl, p, _, _, _, rfl, rfl, SqT.of hp1, rfl, (by show 7 ≤ sizeLine; decide), fun p2 n2 => ?_⟩
    obtain ⟨H2, e, s2, t2⟩ := one (.lst [V.str "", V.str "+1", V.str "+2", V.str "+3", V.str "-3", V.str "-2", V.str "-1"]) n2
    rw [← e]
    clear e
    have hp2 := s2 _ _ hp1
    have ix7 : atI [V.str "", V.str "+1", V.str "+2", V.str "+3", V.str "-3", V.str "-2", V.str "-1"] k = some (.str (sfx k)) := by
      have h : k = -3 ∨ k = -2 ∨ k = -1 ∨ k = 0 ∨ k = 1 ∨ k = 2 ∨ k = 3 := by omega
      rcases h with rfl | rfl | rfl | rfl | rfl | rfl | rfl <;> rfl
    have sl : (sfx k).length ≤ 2 := by
      by_cases h : k = 0
      · subst h
        decide +kernel
      · rw [(sfx_len k0 k1 h).1]
        exact Nat.le_refl _
    have z10 : z.length ≤ 1000 := g.1
    have sz : 10000 ≤ sizeLine := by decide
    refine ⟨_, rfl, p, _, _, _, rfl, rfl, SqT.of hp2, rfl, p2, _, _, _, rfl, rfl, SqL.of t2, ix7, _, _, rfl, rfl, by omega, ?_⟩
    have K02 : Kp b H H2 := K1.trans (Kp.same s2)
    have B2 := B1.same s2
    have fresh : ∀ {G : Hp} {q : Addr}, Kp b H G → q ≠ b → G q = none → H q = none := fun {G q} kp nq e => by
      cases x : H q with
      | none => rfl
      | some o =>
        rw [kp q o nq x] at e
        cases e
    refine ⟨_, rfl, rfl, _, rfl, ite2 (fun h1 => ?_) (fun h1 => ?_)⟩
    · refine ⟨_, rfl, p, _, _, _, rfl, rfl, SqT.of hp2, rfl, _, rfl, p, _, _, _, rfl, rfl, SqT.of hp2, rfl, rfl, rfl, fun x dx nx ndx nn => ?_⟩
      refine ⟨x, dx, z, k, rfl, upd_same, g.1, g.2.1, g.2.2.1, g.2.2.2.1, g.2.2.2.2, fun H3 u3 t3 => ⟨rfl, ?_⟩⟩
      have s3 : Same H2 H3 := fun r o h => u3 r o (ne_of_none h nx) (by
        rw [upd_ne (ne_of_none h nx), upd_ne (ne_of_none h ndx)]
        exact h)
      exact q _ H3 (.inl ⟨x, rfl, dx, t3⟩) (fun a e => by cases e; exact ⟨off B2 nx, fresh K02 (off B2 nx) nx⟩) (B2.same s3) (K02.trans (Kp.same s3))
    refine ⟨_, rfl, rfl, _, rfl, ite2 (fun h2 => ?_) (fun h2 => ?_)⟩
    · refine ⟨_, rfl, p, _, _, _, rfl, rfl, SqT.of hp2, rfl, fun x dx nx ndx nn => ?_⟩
      have g0 : Good z 0 := ⟨g.1, g.2.1, g.2.2.1, by unfold lowS; split <;> omega, by omega⟩
      refine ⟨x, dx, z, 0, rfl, upd_same, g.1, g.2.1, g.2.2.1, g0.2.2.2.1, by decide, fun H3 u3 t3 => ⟨rfl, ?_⟩⟩
      have s3 : Same H2 H3 := fun r o h => u3 r o (ne_of_none h nx) (by
        rw [upd_ne (ne_of_none h nx), upd_ne (ne_of_none h ndx)]
        exact h)
      refine ⟨_, rfl, p, _, _, _, rfl, rfl, SqT.of (s3 _ _ hp2), rfl, x, dx, _, k, rfl, rfl, t3, x, z, 0, k, rfl, ⟨dx, t3⟩, g0, by rw [Int.zero_add]; exact g, fun p4 H4 n4 s4 h4 => ⟨⟨p4, rfl⟩, ?_⟩⟩
      rw [Int.zero_add] at h4
      have B3 := B2.same s3
      have K03 := K02.trans (Kp.same s3)
      exact q _ H4 (.inl ⟨p4, rfl, h4⟩) (fun a e => by cases e; exact ⟨off B3 n4, fresh K03 (off B3 n4) n4⟩) (B3.same s4) (K03.trans (Kp.same s4))
    have w3 : way = 1 ∨ way = 2 := by
      have a1 : way ≠ 0 := fun e => h1 (decide_eq_true (by rw [e]))
      have a2 : way ≠ 3 := fun e => h2 (decide_eq_true (by rw [e]))
      omega
    refine ⟨_, rfl, p, _, _, _, rfl, rfl, SqT.of hp2, rfl, rfl, _, rfl, ite2 (fun h3 => ?_) (fun h3 => ?_)⟩
    · have e1 : z = "" := V.str.inj (of_decide_eq_true h3)
      subst e1
      have k00 : 0 ≤ k := by
        have := g.2.2.2.1
        unfold lowS at this
        rw [if_pos rfl] at this
        exact this
      obtain ⟨c, hc, hm⟩ := atI_in (l := ("0123" : Str).cps.toList) (i := k) k00 (by
        show k < 4
        omega)
      refine ⟨_, rfl, p, _, _, _, rfl, rfl, SqT.of hp2, rfl, _, rfl, p, _, _, _, rfl, rfl, SqT.of hp2, rfl, "0123", k, c, rfl, rfl, (by decide +kernel), hc, (by show 2 ≤ sizeLine; decide), fun p3 n3 => ?_⟩
      have s3 : Same H2 (upd H2 p3 (.lst [.int k, .str ⟨#[c]⟩])) := same_nw n3
      have t3 : upd H2 p3 (.lst [.int k, .str ⟨#[c]⟩]) p3 = some (.lst [.int k, .str ⟨#[c]⟩]) := upd_same
      generalize upd H2 p3 (.lst [.int k, .str ⟨#[c]⟩]) = H3 at s3 t3
      refine ⟨_, rfl, _, _, rfl, rfl, ?_⟩
      have B3 := B2.same s3
      have K03 := K02.trans (Kp.same s3)
      rcases w3 with rfl | rfl
      · exact ⟨p3, _, _, _, rfl, rfl, SqL.of t3, rfl, q _ H3 (.inr ⟨⟨.int k, _, .base (.int k), N.int⟩, by show (if 0 ≤ k ∧ k ≤ 3 then some ((("" : Str), k)) else none) = _; rw [if_pos ⟨k00, k1⟩]⟩) (fun a e => nomatch e) B3 K03⟩
      · refine ⟨p3, _, _, _, rfl, rfl, SqL.of t3, rfl, q _ H3 (.inr ⟨⟨.str _ (Nat.le_trans (Nat.le_refl 1) (by decide)) ?_, _, .base (.str _), N.str⟩, ?_⟩) (fun a e => nomatch e) B3 K03⟩
        · exact sign_ok (z := "0123") (by decide +kernel) hm
        · have h : k = 0 ∨ k = 1 ∨ k = 2 ∨ k = 3 := by omega
          rcases h with rfl | rfl | rfl | rfl
          · cases hc
            decide +kernel
          · cases hc
            decide +kernel
          · cases hc
            decide +kernel
          · cases hc
            decide +kernel
    · have e1 : ¬ z = "" := fun x => h3 (decide_eq_true (by rw [x]))
      obtain ⟨hn1, hs, _, _⟩ := hz.resolve_left fun x => e1 x.1
      have s2' : Sm 2 (sfx k) := ⟨sl, by
        have h : k = -3 ∨ k = -2 ∨ k = -1 ∨ k = 0 ∨ k = 1 ∨ k = 2 ∨ k = 3 := by omega
        rcases h with rfl | rfl | rfl | rfl | rfl | rfl | rfl <;> decide +kernel⟩
      have ss := hs.app s2'
      exact ⟨_, rfl, q _ H2 (.inr ⟨⟨.str _ (Nat.le_trans ss.1 (by decide)) ss.2, _, .base (.str _), N.str⟩, parts_sfx hn1 k0 k1⟩) (fun a e => nomatch e) B2 K02⟩
end
end Mz
set_option Elab.async false
set_option linter.all false
set_option maxRecDepth 100000
set_option maxHeartbeats 4000000
namespace Mz
open PySem PySem.Spec PyProof.Rows L2
theorem takes_nowhere {X : Cx} : Takes X (fun _ _ _ _ => False) := fun u s' ⟨_, _, _, _, _, _, _, _, _, _, _, _, _, _, _, _, w⟩ => w.elim
theorem join_list : ∀ cs : List Nat, (Str.join "" (cs.map fun c => (⟨#[c]⟩ : Str))).cps.toList = cs
  | [] => rfl
  | [c] => rfl
  | c :: d :: r => by
    show ((⟨#[c]⟩ : Str) ++ "" ++ Str.join "" ((d :: r).map fun c => (⟨#[c]⟩ : Str))).cps.toList = _
    rw [app_list, app_list, join_list (d :: r), nil_list, List.append_nil]
    rfl
/-- a text of up to n letters -/
def Az (n : Nat) (z : Str) : Prop := z.length ≤ n ∧ ∀ c ∈ z.cps.toList, c ∈ abc.cps.toList
theorem Az.sm {n : Nat} {z : Str} (h : Az n z) : Sm n z := ⟨h.1, strOk_iff.mpr fun c hc => by
  have := h.2 c hc
  revert this
  rw [abc_range]
  intro x
  have := List.mem_range'_1.mp x
  omega⟩
theorem Az.app {n m : Nat} {y z : Str} (hy : Az n y) (hz : Az m z) : Az (n + m) (y ++ z) := by
  refine ⟨by rw [strLen_append]; exact Nat.add_le_add hy.1 hz.1, fun c hc => ?_⟩
  rw [cps_app] at hc
  rcases List.mem_append.mp hc with h | h
  · exact hy.2 c h
  · exact hz.2 c h
theorem Az.cut {n : Nat} {z : Str} (h : Az n z) (lo hi : Option Int) : Az n (cutS z lo hi) := by
  refine ⟨Nat.le_trans (cutS_length z lo hi) h.1, fun c hc => ?_⟩
  unfold cutS at hc
  exact h.2 c (List.mem_of_mem_drop (List.mem_of_mem_take (by simpa using hc)))
theorem Az.one {c : Nat} (h : c ∈ abc.cps.toList) : Az 1 ⟨#[c]⟩ := ⟨Nat.le_refl _, fun d hd => by
  have : d = c := by simpa using hd
  rw [this]
  exact h⟩
theorem Az.name {z : Str} (h : Az 6 z) (h1 : 1 ≤ z.length) : nameS z = true := by
  show ((decide (1 ≤ (z.length : Int)) && decide ((z.length : Int) ≤ 6)) && z.cps.toList.all fun c => decide (c ∈ abc.cps.toList)) = true
  have h6 := h.1
  rw [decide_eq_true (by omega), decide_eq_true (by omega)]
  show (z.cps.toList.all fun c => decide (c ∈ abc.cps.toList)) = true
  rw [List.all_eq_true]
  exact fun c hc => decide_eq_true (h.2 c hc)
theorem index_abc : ∀ c ∈ abc.cps.toList, (Txt.index0 abc ⟨#[c]⟩).isSome = true := by decide +kernel
/-- names, as the law draws them -/
def Rt (z : Str) : Prop := nameS z = true ∧ Sm 10 z
theorem Rt.of {z : Str} (h : Az 6 z) (h1 : 1 ≤ z.length) : Rt z := ⟨h.name h1, h.sm.mono (by decide)⟩
def spRoots6 : Sp := fun vs H Q _ => ∃ (b : Addr) (n : Nat), vs = [.ref b] ∧ Bx H b n ∧ n ≤ 900000 ∧ ∀ (p : Addr) (y z : Str) (H' : Hp), Rt y → Rt z → H' p = some (.lst [.str y, .str z]) → H p = none → p ≠ b → Bx H' b (n + 15) → Kp b H H' → Q (.ref p) H'
section
variable {P : Program} {w : World} {K : PySem.W.Frag} {mg : Str → Option Value} {base : Heap}
theorem scRoots6 : FnScope ["_law_box_here", "_law_seven", "_law_at", "_law_letters", "_law_stem", "_law_other_here", "_law_way", "_law_k"] ["_law_box_here"] (defScope sRoots6) := ⟨rfl, rfl, rfl, by decide +kernel, rfl, by decide +kernel, by decide +kernel⟩
theorem ok_roots6 {f f1 : Addr} {fd fd1 : FuncData} (F : Fun K "_law_roots" "_law_roots" sRoots6 f fd) (T : Tk P w K mg base f1 fd1) (B : Blt mg) : FnOk P w K mg base CX0 2 f fd ["_law_box_here"] spRoots6 := by
  refine F.ok scRoots6 (fun vs H Q E h => ?_) (fun cdv A outer s H vs Q E hr h => ?_)
  · obtain ⟨b, n, rfl, _⟩ := h
    rfl
  · obtain ⟨b, n, rfl, hB, hn, q⟩ := h
    have nd := scRoots6.nd
    refine ⟨_, (pss_cons (ps_set (i := 1) nd rfl (Or.inl rfl) (pe_lst (pa_cons pe_str (pa_cons pe_str (pa_cons pe_str (pa_cons pe_str (pa_cons pe_str (pa_cons pe_str (pa_cons pe_str pa_nil)))))))))
      (pss_cons (ps_if (pt_cmpR op_eq (pe_call T.ok hr (by rfl) T.m T.k T.b .nil pass0 (pa_cons (pv 0) (pa_cons pe_int pa_nil))) pe_int (nomark _)) (pss_cons (ps_set (i := 2) nd rfl (Or.inl rfl) (pe_call T.ok hr (by rfl) T.m T.k T.b .nil pass0 (pa_cons (pv 0) (pa_cons pe_int pa_nil))))
      (pss_one (ps_ret (pe_lst (pa_cons (pe_ix ix_list (pv 1) (pv 2) (fun _ _ => rfl)) (pa_cons (pe_ix ix_list (pv 1) (pe_op op_mod (pe_op op_add (pe_op op_add (pv 2) pe_int) (pe_call T.ok hr (by rfl) T.m T.k T.b .nil pass0 (pa_cons (pv 0) (pa_cons pe_int pa_nil)))) pe_int) (fun _ _ => rfl)) pa_nil)))))) pss_nil)
      (pss_cons (ps_set (i := 3) nd rfl (Or.inr rfl) pe_str)
      (pss_cons (ps_set (i := 4) nd rfl (Or.inl rfl) (pe_join pe_str (pe_lc (own := [("_law_k", 7)]) (g := gName 7) (tt := tYes) rfl nd (pi_range1 rfl B.range (pa_cons (pe_op op_add pe_int (pe_call T.ok hr (by rfl) T.m T.k T.b .nil pass0 (pa_cons (pv 0) (pa_cons pe_int pa_nil)))) pa_nil)) (blkOk_by (N := ["_law_box_here", "_law_seven", "_law_at", "_law_letters", "_law_stem", "_law_other_here", "_law_way", "_law_k"]) (sc := defScope sRoots6) (by decide +kernel)) (fun _ _ _ _ _ => pg_name (i := 7) nd rfl (Or.inl rfl)) (fun _ _ _ _ _ => pts_nil) (fun _ _ _ _ _ => (pe_ix ix_str (pv 3) (pe_call T.ok hr (by rfl) T.m T.k T.b .nil pass0 (pa_cons (pv 0) (pa_cons pe_int pa_nil))) (fun _ _ => rfl))))))
      (pss_cons (ps_par (i := 5) (j := 6) rfl nd rfl rfl (by decide) rfl rfl (pa_cons (pe_op op_add_str (pv 4) (pe_ix ix_str (pv 3) (pe_call T.ok hr (by rfl) T.m T.k T.b .nil pass0 (pa_cons (pv 0) (pa_cons pe_int pa_nil))) (fun _ _ => rfl))) (pa_cons (pe_call T.ok hr (by rfl) T.m T.k T.b .nil pass0 (pa_cons (pv 0) (pa_cons pe_int pa_nil))) pa_nil)) (by rfl))
      (pss_cons (ps_if (pt_cmpR op_eq (pv 6) pe_int (nomark _)) (pss_one (ps_set (i := 5) nd rfl (Or.inl rfl) (pe_op op_add_str (pe_ix ix_str (pv 3) (pe_op op_mod (pe_op op_add (pe_op op_add (pe_bmS PySem.F.plainAttrs_str PySem.F.slot_str_index PySem.F.type_str_index (mt_indexX rfl takes_nowhere) (pv 3) (pa_cons (pe_ix ix_str (pv 4) pe_int (fun _ _ => rfl)) pa_nil)) pe_int) (pe_call T.ok hr (by rfl) T.m T.k T.b .nil pass0 (pa_cons (pv 0) (pa_cons pe_int pa_nil)))) pe_int) (fun _ _ => rfl)) (pe_slice sl_str (pv 4) (po_some pe_int) po_none)))) pss_nil)
      (pss_cons (ps_if (pt_cmpR op_eq (pv 6) pe_int (nomark _)) (pss_one (ps_par (i := 4) (j := 5) rfl nd rfl rfl (by decide) rfl rfl (pa_cons (pe_op op_add_str pe_str (pe_slice sl_str (pv 4) po_none (po_some pe_int))) (pa_cons (pe_op op_add_str pe_str (pv 4)) pa_nil)) (by rfl))) pss_nil)
      (pss_one (ps_ret (pe_ifExp (pt_cmpR op_eq (pe_call T.ok hr (by rfl) T.m T.k T.b .nil pass0 (pa_cons (pv 0) (pa_cons pe_int pa_nil))) pe_int (nomark _)) (pe_lst (pa_cons (pv 4) (pa_cons (pv 5) pa_nil))) (pe_lst (pa_cons (pv 5) (pa_cons (pv 4) pa_nil))))))))))))), ?_⟩
    have off : ∀ {G : Hp} {p : Addr} {m : Nat}, Bx G b m → G p = none → p ≠ b := fun hb hp => by
      obtain ⟨_, _, _, e, _⟩ := hb
      exact (ne_of_none e hp).symm
    have one : ∀ {H1 : Hp} {p : Addr} (o : HO), H1 p = none → ∃ H2, H2 = upd H1 p o ∧ Same H1 H2 ∧ H2 p = some o := fun o n => ⟨_, rfl, same_nw n, upd_same⟩
    have free : ∀ {G : Hp} {q : Addr}, Kp b H G → q ≠ b → G q = none → H q = none := fun {G q} kp nq e => by
      cases x : H q with
      | none => rfl
      | some o =>
        rw [kp q o nq x] at e
        cases e
    have fin : ∀ (y z : Str) (G : Hp), Rt y → Rt z → Bx G b (n + 15) → Kp b H G → 2 ≤ sizeLine ∧ ∀ p, G p = none → Q (.ref p) (upd G p (.lst [.str y, .str z])) := fun y z G hy hz bx kp => ⟨(by decide), fun p np => q p y z _ hy hz upd_same (free kp (off bx np) np) (off bx np) (bx.same (same_nw np)) (kp.trans (Kp.same (same_nw np)))⟩
    refine ⟨(by show 7 ≤ sizeLine; decide), fun p1 n1 => ?_⟩
    obtain ⟨H1, e, s1, t1⟩ := one (.lst ((["done", "end", "fails", "more", "none", "old", "zero"] : List Str).map V.str)) n1
    rw [show (upd H p1 (.lst [V.str "done", V.str "end", V.str "fails", V.str "more", V.str "none", V.str "old", V.str "zero"])) = H1 from e.symm]
    clear e
    have seven : ∀ y ∈ (["done", "end", "fails", "more", "none", "old", "zero"] : List Str), Rt y := by
      unfold Rt Sm
      decide +kernel
    have B1 := hB.same s1
    refine ⟨_, rfl, b, n, 6, rfl, B1, by omega, by decide, by decide, fun r H2 r0 r1 B2 K2 => ⟨rfl, _, rfl, ite2 (fun _ => ?_) (fun _ => ?_)⟩⟩
    · refine ⟨_, rfl, b, n + 1, 7, rfl, B2, by omega, by decide, by decide, fun at_ H3 a0 a1 B3 K3 => ?_⟩
      have t3 := K3 _ _ (off hB n1) (K2 _ _ (off hB n1) t1)
      obtain ⟨v, hv, hm⟩ := atI_in (l := (["done", "end", "fails", "more", "none", "old", "zero"] : List Str).map V.str) (i := at_) a0 a1
      obtain ⟨y, hy, rfl⟩ := List.mem_map.mp hm
      refine ⟨_, rfl, _, rfl, p1, _, _, _, rfl, rfl, SqL.of t3, hv, _, rfl, _, rfl, _, _, rfl, rfl, ?_⟩
      refine ⟨_, rfl, b, n + 2, 6, rfl, B3, by omega, by decide, by decide, fun r5 H4 c0 c1 B4 K4 => ⟨_, _, rfl, rfl, _, _, rfl, rfl, (by show (0 : Int) < 7; decide), ?_⟩⟩
      obtain ⟨v2, hv2, hm2⟩ := atI_in (l := (["done", "end", "fails", "more", "none", "old", "zero"] : List Str).map V.str) (i := (at_ + 1 + r5) % 7) (Int.emod_nonneg _ (by decide)) (Int.emod_lt_of_pos _ (by decide))
      obtain ⟨y2, hy2, rfl⟩ := List.mem_map.mp hm2
      refine ⟨p1, _, _, _, rfl, rfl, SqL.of (K4 _ _ (off hB n1) t3), hv2, ?_⟩
      exact fin y y2 H4 (seven y hy) (seven y2 hy2) (B4.more (by omega)) ((Kp.same s1).trans (K2.trans (K3.trans K4)))
    · have K02 : Kp b H H2 := (Kp.same s1).trans K2
      refine ⟨⟨_, rfl⟩, _, rfl, b, n + 1, 5, rfl, B2, by omega, by decide, by decide, fun r H3 r0 r1 B3 K3 => ?_⟩
      refine ⟨_, _, rfl, rfl, _, rfl, by omega, by omega, fun D hD => ?_⟩
      have nb : D ≠ b := off B3 hD
      refine lc_range (lo := 0) (n := (1 + r).toNat) (fun i H' => Bx H' b (n + 2 + i) ∧ Kp b H3 H' ∧ ∃ cs : List Nat, cs.length = i ∧ (∀ c ∈ cs, c ∈ abc.cps.toList) ∧ H' D = some (.lst ((cs.map fun c => (⟨#[c]⟩ : Str)).map V.str)))
        ⟨B3.upd hD, Kp.fresh hD, [], rfl, fun _ h => (nomatch h), upd_same⟩ ?_ ?_
      · rintro i H4 hi ⟨B4, K4, cs, ely, hcs, hl⟩
        refine ⟨rfl, ?_⟩
        unfold tYes
        refine iteT ⟨_, rfl, _, rfl, b, n + 2 + i, 26, rfl, B4, by omega, by decide, by decide, fun c H5 c0 c1 B5 K5 => ?_⟩
        obtain ⟨g, hg, hm⟩ := atI_in (l := abc.cps.toList) c0 c1
        have hl3 := K5 D _ nb hl
        refine ⟨abc, c, g, rfl, rfl, (by decide +kernel), hg, _, hl3, by rw [List.length_map, List.length_map, ely]; exact Nat.lt_of_lt_of_le (by omega) (show 9 ≤ sizeLine by decide), ?_⟩
        refine ⟨?_, ?_, cs ++ [g], by rw [List.length_append, ely]; rfl, ?_, by rw [List.map_append, List.map_append]; exact upd_same⟩
        · obtain ⟨x, y, z, e, h⟩ := B5
          exact ⟨x, y, z, by rw [upd_ne nb.symm]; exact e, h⟩
        · intro p o np e
          have pD : p ≠ D := ne_of_none e hD
          rw [upd_ne pD]
          exact K5 p o np (K4 p o np e)
        · intro y hy
          rcases List.mem_append.mp hy with h | h
          · exact hcs y h
          · rw [List.mem_singleton.mp h]
            exact hm
      · rintro H4 ⟨B4, K4, cs, ely, hcs, hl⟩
        have ones : ∀ y ∈ cs.map fun c => (⟨#[c]⟩ : Str), Sm 1 y := fun y hy => by
          obtain ⟨c, hc, rfl⟩ := List.mem_map.mp hy
          exact sm_sign (z := abc) (by decide +kernel) (hcs c hc)
        have ej : (Txt.join "" (cs.map fun c => (⟨#[c]⟩ : Str))).cps.toList = cs := by
          unfold Txt.join
          rw [StrLaws.glued_eq_join, join_list]
        refine ⟨"", D, _, rfl, rfl, .inl (SqL.of hl), ?_, ?_⟩
        · have e2 := sum_ones _ ones
          have e3 : (cs.map fun c => (⟨#[c]⟩ : Str)).length * ("" : Str).length = 0 := by
            rw [show ("" : Str).length = 0 by decide +kernel, Nat.mul_zero]
          rw [List.length_map] at e2
          omega
        generalize Txt.join "" (cs.map fun c => (⟨#[c]⟩ : Str)) = z at ej
        have lz : z.length = cs.length := by rw [← len_cps, ej]
        have az : Az 5 z := ⟨by omega, fun c hc => hcs c (by rw [ej] at hc; exact hc)⟩
        have z1 : 1 ≤ z.length := by omega
        have K04 : Kp b H H4 := K02.trans (K3.trans K4)
        have B4' : Bx H4 b (n + 7) := B4.more (by omega)
        have big : 1000 ≤ sizeLine := by decide
        have zs : z.length ≤ sizeLine := by have := az.1; omega
        refine ⟨_, rfl, _, rfl, _, rfl, b, n + 7, 26, rfl, B4', by omega, by decide, by decide, fun c H5 c0 c1 B5 K5 => ?_⟩
        obtain ⟨g, hg, hm⟩ := atI_in (l := abc.cps.toList) c0 c1
        have ag := Az.one hm
        have azg := az.app ag
        refine ⟨abc, c, g, rfl, rfl, (by decide +kernel), hg, _, _, rfl, rfl, by have := az.1; show z.length + 1 ≤ sizeLine; omega, ?_⟩
        refine ⟨_, rfl, b, n + 8, 3, rfl, B5, by omega, by decide, by decide, fun way H6 w0 w1 B6 K6 => ⟨_, _, rfl, ?_⟩⟩
        have K06 : Kp b H H6 := K04.trans (K5.trans K6)
        have rz : Rt z := Rt.of ⟨by have := az.1; omega, az.2⟩ z1
        have aA : Az 1 "a" := Az.one (c := 97) (by decide +kernel)
        have aB : Az 1 "b" := Az.one (c := 98) (by decide +kernel)
        have rA : Rt ("a" ++ z) := Rt.of ⟨by have := (aA.app az).1; omega, (aA.app az).2⟩ (by rw [strLen_append]; show 1 ≤ 1 + _; omega)
        have aC := az.cut none (some 1)
        have aD := aB.app aC
        have rB : Rt ("b" ++ cutS z none (some 1)) := Rt.of ⟨by have := aD.1; omega, aD.2⟩ (by rw [strLen_append]; show 1 ≤ 1 + _; omega)
        have lA : ("a" : Str).length + z.length ≤ sizeLine := by
          have := az.1
          show 1 + z.length ≤ sizeLine
          omega
        have lB : ("b" : Str).length + (cutS z none (some 1)).length ≤ sizeLine := by
          have := aC.1
          show 1 + (cutS z none (some 1)).length ≤ sizeLine
          omega
        refine ⟨_, rfl, rfl, _, rfl, ite2 (fun _ => ?_) (fun _ => ?_)⟩
        · obtain ⟨s0, hs0, hm0⟩ := atI_in (l := z.cps.toList) (i := 0) (by decide) (by rw [len_cps]; omega)
          have ix0 := index_abc s0 (az.2 s0 hm0)
          refine ⟨_, rfl, _, rfl, rfl, _, rfl, z, 0, s0, rfl, rfl, zs, hs0, abc, _, rfl, rfl, fun k hk => ?_, fun hk => ?_⟩
          · refine ⟨_, _, rfl, rfl, _, rfl, b, n + 9, 25, rfl, B6, by omega, by decide, by decide, fun r6 H7 a0 a1 B7 K7 => ⟨_, _, rfl, rfl, _, _, rfl, rfl, (by show (0 : Int) < 26; decide), ?_⟩⟩
            obtain ⟨g2, hg2, hm2⟩ := atI_in (l := abc.cps.toList) (i := ((k : Int) + 1 + r6) % 26) (Int.emod_nonneg _ (by decide)) (Int.emod_lt_of_pos _ (by decide))
            refine ⟨abc, _, g2, rfl, rfl, (by decide +kernel), hg2, _, rfl, _, rfl, z, rfl, zs, _, _, rfl, rfl, ?_, ?_⟩
            · have := (az.cut (some 1) none).1
              show 1 + (cutS z (some 1) none).length ≤ sizeLine
              omega
            · have al := (Az.one hm2).app (az.cut (some 1) none)
              have ry : Rt (⟨#[g2]⟩ ++ cutS z (some 1) none) := Rt.of ⟨by have := al.1; omega, al.2⟩ (by rw [strLen_append]; show 1 ≤ 1 + _; omega)
              refine ⟨_, rfl, rfl, _, rfl, ite2 (fun _ => ?_) (fun _ => ?_)⟩
              · refine ⟨_, rfl, _, rfl, z, rfl, zs, _, _, rfl, rfl, lB, _, rfl, _, _, rfl, rfl, lA, _, _, rfl, ?_⟩
                refine ⟨_, rfl, b, n + 10, 2, rfl, B7, by omega, by decide, by decide, fun r7 H8 _ _ B8 K11 => ⟨rfl, _, rfl, ite2 (fun _ => ?_) (fun _ => ?_)⟩⟩
                · exact ⟨_, rfl, _, rfl, fin _ _ H8 rB rA (B8.more (by omega)) (K06.trans (K7.trans K11))⟩
                · exact ⟨_, rfl, _, rfl, fin _ _ H8 rA rB (B8.more (by omega)) (K06.trans (K7.trans K11))⟩
              · refine ⟨_, rfl, b, n + 10, 2, rfl, B7, by omega, by decide, by decide, fun r7 H8 _ _ B8 K11 => ⟨rfl, _, rfl, ite2 (fun _ => ?_) (fun _ => ?_)⟩⟩
                · exact ⟨_, rfl, _, rfl, fin _ _ H8 rz ry (B8.more (by omega)) (K06.trans (K7.trans K11))⟩
                · exact ⟨_, rfl, _, rfl, fin _ _ H8 ry rz (B8.more (by omega)) (K06.trans (K7.trans K11))⟩
          · rw [hk] at ix0
            cases ix0
        · have ry : Rt (z ++ ⟨#[g]⟩) := Rt.of ⟨by have := azg.1; omega, azg.2⟩ (by rw [strLen_append]; omega)
          refine ⟨_, rfl, rfl, _, rfl, ite2 (fun _ => ?_) (fun _ => ?_)⟩
          · refine ⟨_, rfl, _, rfl, z, rfl, zs, _, _, rfl, rfl, lB, _, rfl, _, _, rfl, rfl, lA, _, _, rfl, ?_⟩
            refine ⟨_, rfl, b, n + 9, 2, rfl, B6, by omega, by decide, by decide, fun r7 H8 _ _ B8 K11 => ⟨rfl, _, rfl, ite2 (fun _ => ?_) (fun _ => ?_)⟩⟩
            · exact ⟨_, rfl, _, rfl, fin _ _ H8 rB rA (B8.more (by omega)) (K06.trans K11)⟩
            · exact ⟨_, rfl, _, rfl, fin _ _ H8 rA rB (B8.more (by omega)) (K06.trans K11)⟩
          · refine ⟨_, rfl, b, n + 9, 2, rfl, B6, by omega, by decide, by decide, fun r7 H8 _ _ B8 K11 => ⟨rfl, _, rfl, ite2 (fun _ => ?_) (fun _ => ?_)⟩⟩
            · exact ⟨_, rfl, _, rfl, fin _ _ H8 rz ry (B8.more (by omega)) (K06.trans K11)⟩
            · exact ⟨_, rfl, _, rfl, fin _ _ H8 ry rz (B8.more (by omega)) (K06.trans K11)⟩
end
end Mz
set_option Elab.async false
set_option linter.all false
set_option maxRecDepth 100000
set_option maxHeartbeats 4000000
namespace Mz
open PySem PySem.Spec PyProof.Rows L2
/-! in, ==, page of a setting -/
/-- whether a value is a name of the setting -/
def inSet (kvs : List (Key × V)) : V → Bool
  | .str z => (valV kvs (.inr z)).isSome
  | _ => false
def spContS (K : PySem.W.Frag) (S : Addr) : Sp := fun vs H Q _ => ∃ s v kvs pg, vs = [.ref s, v] ∧ Stg S H s kvs pg ∧ Kd K H v ∧ Q (.bl (inSet kvs v)) H
def spPageS (S : Addr) : Sp := fun vs H Q _ => ∃ s kvs pg, vs = [.ref s] ∧ Stg S H s kvs pg ∧ Q (.int pg) H
def spEqS (K : PySem.W.Frag) (S : Addr) : Sp := fun vs H Q _ => ∃ s kvs pg, Stg S H s kvs pg ∧ AllI kvs ∧
  ((∃ r ls qg, vs = [.ref s, .ref r] ∧ Stg S H r ls qg ∧ AllI ls ∧ Q (.bl (eqDV kvs ls && decide (pg = qg))) H) ∨ ∃ y, vs = [.ref s, y] ∧ Oty K S H y ∧ Q (.bl false) H)
section
variable {P : Program} {w : World} {K : PySem.W.Frag} {mg : Str → Option Value} {base : Heap}
theorem scPageS : FnScope ["self"] ["self"] (defScope (inClass sSetting 2)) := ⟨rfl, rfl, rfl, by decide +kernel, rfl, by decide +kernel, by decide +kernel⟩
theorem ok_pageS {f S : Addr} {fd : FuncData} (F : Fun K "page" "Setting.page" (inClass sSetting 2) f fd) (T : Scl K mg S) : FnOk P w K mg base CX0 1 f fd ["self"] (spPageS S) := by
  refine F.ok scPageS (fun vs H Q E h => ?_) (fun cdv A outer s H vs Q E hr h => ?_)
  · obtain ⟨s, kvs, pg, rfl, _⟩ := h
    rfl
  · obtain ⟨st, kvs, pg, rfl, ⟨dx, d, h1, h2⟩, q⟩ := h
    exact ⟨_, pss_one (ps_ret (pe_fld (pv 0) rfl)), _, rfl, st, S, dx, _, _, rfl, h1, T.cl, T.nP, stF_page, q⟩
theorem scContS : FnScope ["self", "x"] ["self", "x"] (defScope (inClass sSetting 5)) := ⟨rfl, rfl, rfl, by decide +kernel, rfl, by decide +kernel, by decide +kernel⟩
theorem ok_contS {f S : Addr} {fd : FuncData} (F : Fun K "__contains__" "Setting.__contains__" (inClass sSetting 5) f fd) (T : Scl K mg S) (D : Blp mg) : FnOk P w K mg base CX0 1 f fd ["self", "x"] (spContS K S) := by
  refine F.ok scContS (fun vs H Q E h => ?_) (fun cdv A outer s H vs Q E hr h => ?_)
  · obtain ⟨s, v, kvs, pg, rfl, _⟩ := h
    rfl
  · obtain ⟨st, v, kvs, pg, rfl, ⟨dx, d, h1, h2⟩, hv, q⟩ := h
    refine ⟨_, pss_one (ps_ret (pe_and (pe_callB call_isi (by rfl) D.isi (by decide +kernel) (pa_cons (pv 1) (pa_cons (pe_bltn (v := .ty "str") (by rfl) D.str (by decide +kernel) rfl) pa_nil)))
      (pe_one (pe_cmp (pc_din (hu_of hr) (pv 1) (pe_fld (pv 0) rfl)))))), ?_⟩
    refine ⟨_, rfl, ?_⟩
    cases hv with
    | int i => exact ⟨_, _, _, _, false, rfl, .ty _, .base (.int i), kit_ty (by decide +kernel), false, rfl, iteF q⟩
    | bl b => exact ⟨_, _, _, _, false, rfl, .ty _, .base (.bl b), kit_ty (by decide +kernel), false, rfl, iteF q⟩
    | non => exact ⟨_, _, _, _, false, rfl, .ty _, .base .non, kit_ty (by decide +kernel), false, rfl, iteF q⟩
    | oth a t ty ki ks => exact ⟨_, _, _, _, false, rfl, .ty _, ty, ks, false, rfl, iteF q⟩
    | str z l ok => exact ⟨_, _, _, _, true, rfl, .ty _, .base (.str z), kit_ty (by decide +kernel), true, rfl, iteT ⟨_, rfl, _, rfl, st, S, dx, _, _, rfl, h1, T.cl, T.nZ, stF_sizes, d, _, rfl, DGet.k (k := .inr z) h2, q⟩⟩
theorem scEqS : FnScope ["self", "other"] ["self", "other"] (defScope (inClass sSetting 7)) := ⟨rfl, rfl, rfl, by decide +kernel, rfl, by decide +kernel, by decide +kernel⟩
theorem ok_eqS {f S : Addr} {fd : FuncData} (F : Fun K "__eq__" "Setting.__eq__" (inClass sSetting 7) f fd) (T : Scl K mg S) (Y : Pty K S) (D : Blp mg) : FnOk P w K mg base CX0 1 f fd ["self", "other"] (spEqS K S) := by
  refine F.ok scEqS (fun vs H Q E h => ?_) (fun cdv A outer s H vs Q E hr h => ?_)
  · obtain ⟨s, kvs, pg, _, _, ⟨r, ls, qg, rfl, _⟩ | ⟨y, rfl, _⟩⟩ := h
    · rfl
    · rfl
  · obtain ⟨st, kvs, pg, hst, ia, h⟩ := h
    refine ⟨_, pss_one (ps_ret (pe_and (pe_callB call_isi (by rfl) D.isi (by decide +kernel) (pa_cons (pv 1) (pa_cons (pe_glob (v := .ref S) rfl T.mgS rfl) pa_nil)))
      (pe_and (pe_cmpR (op_eqDI (Nat.lt_of_le_of_lt (Nat.le_add_right _ 63) hr.units)) (pe_fld (pv 0) rfl) (pe_fld (pv 1) rfl) (nomark _)) (pe_one (pe_cmpR op_eq (pe_fld (pv 0) rfl) (pe_fld (pv 1) rfl) (nomark _)))))), ?_⟩
    obtain ⟨dx, d, h1, h2⟩ := hst
    rcases h with ⟨r, ls, qg, rfl, ⟨dy, e, h3, h4⟩, ib, q⟩ | ⟨y, rfl, ⟨t, ty, kt⟩, q⟩
    · refine ⟨_, rfl, .ref r, .ref S, .ref S, .ref S, true, rfl, .own S, .base (.ins h3 Y.cl Y.ha Y.hn Y.htk Y.hm), kit_self, true, rfl, iteT ?_⟩
      refine ⟨_, rfl, st, S, dx, _, _, rfl, h1, T.cl, T.nZ, stF_sizes, _, rfl, r, S, dy, _, _, rfl, h3, T.cl, T.nZ, stF_sizes, d, e, kvs, ls, rfl, rfl, h2, h4, ia, ib, _, rfl, ite2 (fun hc => ?_) (fun hc => ?_)⟩
      · refine ⟨_, rfl, st, S, dx, _, _, rfl, h1, T.cl, T.nP, stF_page, _, rfl, r, S, dy, _, _, rfl, h3, T.cl, T.nP, stF_page, rfl, ?_⟩
        have e2 : decide (V.int pg = V.int qg) = decide (pg = qg) := decide_eq_decide.mpr ⟨fun x => V.int.inj x, fun x => by rw [x]⟩
        rw [hc, Bool.true_and] at q
        rw [e2]
        exact q
      · rw [Bool.eq_false_iff.mpr hc, Bool.false_and] at q
        exact q
    · exact ⟨_, rfl, y, .ref S, t, .ref S, false, rfl, .own S, ty, kt, false, rfl, iteF q⟩
end
end Mz
set_option Elab.async false
set_option linter.all false
set_option maxRecDepth 100000
set_option maxHeartbeats 4000000
/-! two lists item by item; comprehensions with two clauses -/
namespace Mz
open PySem PySem.Spec PyProof.Rows L2
inductive Lk {α β : Type} (R : α → β → Prop) : List α → List β → Prop
  | nil : Lk R [] []
  | cons {x : α} {y : β} {xs : List α} {ys : List β} (h : R x y) (t : Lk R xs ys) : Lk R (x :: xs) (y :: ys)
section
variable {α β : Type} {R : α → β → Prop} {xs xs2 : List α} {ys ys2 : List β}
theorem Lk.length (h : Lk R xs ys) : xs.length = ys.length := by
  induction h with
  | nil => rfl
  | cons _ _ ih => rw [List.length_cons, List.length_cons, ih]
theorem Lk.imp {S : α → β → Prop} (h : Lk R xs ys) (f : ∀ x y, R x y → S x y) : Lk S xs ys := by
  induction h with
  | nil => exact .nil
  | cons h _ ih => exact .cons (f _ _ h) ih
theorem Lk.append (h : Lk R xs ys) (k : Lk R xs2 ys2) : Lk R (xs ++ xs2) (ys ++ ys2) := by
  induction h with
  | nil => exact k
  | cons h _ ih => exact .cons h ih
theorem Lk.one {x : α} {y : β} (h : R x y) : Lk R [x] [y] := .cons h .nil
theorem Lk.get (h : Lk R xs ys) : ∀ {i : Nat} {x : α}, xs[i]? = some x → ∃ y, ys[i]? = some y ∧ R x y := by
  induction h with
  | nil => intro i x e; simp at e
  | cons h _ ih =>
    intro i x e
    match i, e with
    | 0, e =>
      simp at e
      exact ⟨_, rfl, e ▸ h⟩
    | i + 1, e => exact ih (i := i) (by simpa using e)
theorem Lk.memL (h : Lk R xs ys) : ∀ {x : α}, x ∈ xs → ∃ y ∈ ys, R x y := by
  induction h with
  | nil => intro x e; cases e
  | cons h _ ih =>
    intro x e
    rcases List.mem_cons.mp e with rfl | e
    · exact ⟨_, List.mem_cons_self .., h⟩
    · obtain ⟨y, hy, r⟩ := ih e
      exact ⟨y, List.mem_cons_of_mem _ hy, r⟩
theorem Lk.memR (h : Lk R xs ys) : ∀ {y : β}, y ∈ ys → ∃ x ∈ xs, R x y := by
  induction h with
  | nil => intro x e; cases e
  | cons h _ ih =>
    intro x e
    rcases List.mem_cons.mp e with rfl | e
    · exact ⟨_, List.mem_cons_self .., h⟩
    · obtain ⟨y, hy, r⟩ := ih e
      exact ⟨y, List.mem_cons_of_mem _ hy, r⟩
theorem Lk.take (h : Lk R xs ys) (n : Nat) : Lk R (xs.take n) (ys.take n) := by
  induction h generalizing n with
  | nil => rw [List.take_nil, List.take_nil]; exact .nil
  | cons h _ ih =>
    cases n with
    | zero => exact .nil
    | succ n => exact .cons h (ih n)
theorem Lk.drop (h : Lk R xs ys) (n : Nat) : Lk R (xs.drop n) (ys.drop n) := by
  induction h generalizing n with
  | nil => rw [List.drop_nil, List.drop_nil]; exact .nil
  | cons h t ih =>
    cases n with
    | zero => exact .cons h t
    | succ n => exact ih n
end
/-- a term by a name of its own -/
def tW (t : TE) : TE := t
theorem pe_w {X : Cx} {e : Expr} {t : TE} (h : PE X e t) : PE X e (tW t) := h
theorem yesT {σ : L2.St} {H : Hp} {f g : Hp → Prop} (h : f H) : tYes σ H (fun b H3 => if b = true then f H3 else g H3) := by
  show if true = true then f H else g H
  rw [if_pos rfl]
  exact h
/-- rules whose terms speak of K alone, for use within a comprehension -/
theorem pi_tupK {X : Cx} {tg l : Expr} {tl : TE} (K : PySem.W.Frag) (hl : PE X l tl) (hK : X.K = K := by rfl) : PI X tg l (iTup K tl) := by
  subst hK
  exact pi_tup hl
theorem pi_listK {X : Cx} {tg l : Expr} {tl : TE} (K : PySem.W.Frag) (hl : PE X l tl) (hK : X.K = K := by rfl) : PI X tg l (iList K tl) := by
  subst hK
  exact pi_list hl
theorem sl_tupK {X : Cx} (K : PySem.W.Frag) (hK : X.K = K := by rfl) : SlR X (rSlT K) := by
  subst hK
  exact sl_tup
/-- the inner walk of a comprehension with two clauses -/
theorem lc2_in {J : It} {n : Nat} {G : Hp → Prop} {Y : Nat → Hp → V → Hp → Prop} (wk : L2.Walk J n G Y) {g : TG} {tt : TT} {te : TE} {vs : List Nat} {σ : L2.St} {H0 : Hp} {D : Addr} {Nx : Hp → Prop} (Pv : Nat → Hp → Prop) (h0 : Pv 0 H0) (hG : ∀ i H, i ≤ n → Pv i H → G H)
    (hs : ∀ i x H H', i < n → Pv i H → Y i H x H' → g x (wipe σ vs) H' fun σ3 H5 => wipe σ3 vs = wipe σ vs ∧ tt σ3 H5 fun b H6 =>
      if b = true then te σ3 H6 fun y H7 => ∃ acc, H7 D = some (.lst acc) ∧ acc.length < sizeLine ∧ Pv (i + 1) (upd H7 D (.lst (acc ++ [y]))) else Pv (i + 1) H6) (hd : ∀ H, Pv n H → Nx H) :
    ∃ W1 : Nat → Nat → Hp → Prop, (∃ m, W1 0 m H0) ∧ ∀ j k H, W1 j k H →
      (J.stop j H ∧ Nx H) ∨ (J.go j H ∧ ∃ Nx1 : Hp → Prop, (∀ H', Nx1 H' → ∃ k', k' < k ∧ W1 (j + 1) k' H') ∧ ∀ x H', J.yld j H x H' → g x (wipe σ vs) H' fun σ3 H5 => wipe σ3 vs = wipe σ vs ∧ tt σ3 H5 fun b H6 =>
        if b = true then te σ3 H6 fun y H7 => ∃ acc, H7 D = some (.lst acc) ∧ acc.length < sizeLine ∧ Nx1 (upd H7 D (.lst (acc ++ [y]))) else Nx1 H6) := by
  refine ⟨fun i m H => m + i = n ∧ Pv i H, ⟨n, by omega, h0⟩, fun i m H ⟨hm, p⟩ => ?_⟩
  have gs := hG i H (by omega) p
  rcases Nat.lt_or_ge i n with lt | ge
  · exact .inr ⟨wk.goes i H lt gs, Pv (i + 1), fun H' p' => ⟨m - 1, by omega, by omega, p'⟩, fun x H' y => hs i x H H' lt p (wk.yields i H x H' lt gs y)⟩
  · have e : i = n := by omega
    subst e
    exact .inl ⟨wk.stops H gs, hd H p⟩
/-- the outer walk -/
theorem lc2_out {J : It} {n : Nat} {G : Hp → Prop} {Y : Nat → Hp → V → Hp → Prop} (wk : L2.Walk J n G Y) {g g1 : TG} {tt tt1 : TT} {wi1 : TI} {te : TE} {vs vs1 : List Nat} {σ : L2.St} {H1 : Hp} {D : Addr} {Qd : Hp → Prop} (Pv : Nat → Hp → Prop) (h0 : Pv 0 (upd H1 D (.lst []))) (hG : ∀ i H, i ≤ n → Pv i H → G H)
    (hs : ∀ i x H H', i < n → Pv i H → Y i H x H' → g x (wipe σ vs) H' fun σ2 H2 => wipe σ2 vs = wipe σ vs ∧ tt σ2 H2 fun b H3 =>
      if b = true then wi1 σ2 H3 fun J1 H4 => ∃ W1 : Nat → Nat → Hp → Prop, (∃ m, W1 0 m H4) ∧ ∀ j k H, W1 j k H →
        (J1.stop j H ∧ Pv (i + 1) H) ∨ (J1.go j H ∧ ∃ Nx1 : Hp → Prop, (∀ H', Nx1 H' → ∃ k', k' < k ∧ W1 (j + 1) k' H') ∧ ∀ x H', J1.yld j H x H' → g1 x (wipe σ2 vs1) H' fun σ3 H5 => wipe σ3 vs1 = wipe σ2 vs1 ∧ tt1 σ3 H5 fun b H6 =>
          if b = true then te σ3 H6 fun y H7 => ∃ acc, H7 D = some (.lst acc) ∧ acc.length < sizeLine ∧ Nx1 (upd H7 D (.lst (acc ++ [y]))) else Nx1 H6)
      else Pv (i + 1) H3) (hd : ∀ H, Pv n H → Qd H) :
    ∃ W : Nat → Nat → Hp → Prop, (∃ m, W 0 m (upd H1 D (.lst []))) ∧ ∀ i m H, W i m H →
      (J.stop i H ∧ Qd H) ∨ (J.go i H ∧ ∃ Nx : Hp → Prop, (∀ H', Nx H' → ∃ m', m' < m ∧ W (i + 1) m' H') ∧ ∀ x H', J.yld i H x H' → g x (wipe σ vs) H' fun σ2 H2 => wipe σ2 vs = wipe σ vs ∧ tt σ2 H2 fun b H3 =>
        if b = true then wi1 σ2 H3 fun J1 H4 => ∃ W1 : Nat → Nat → Hp → Prop, (∃ m, W1 0 m H4) ∧ ∀ j k H, W1 j k H →
          (J1.stop j H ∧ Nx H) ∨ (J1.go j H ∧ ∃ Nx1 : Hp → Prop, (∀ H', Nx1 H' → ∃ k', k' < k ∧ W1 (j + 1) k' H') ∧ ∀ x H', J1.yld j H x H' → g1 x (wipe σ2 vs1) H' fun σ3 H5 => wipe σ3 vs1 = wipe σ2 vs1 ∧ tt1 σ3 H5 fun b H6 =>
            if b = true then te σ3 H6 fun y H7 => ∃ acc, H7 D = some (.lst acc) ∧ acc.length < sizeLine ∧ Nx1 (upd H7 D (.lst (acc ++ [y]))) else Nx1 H6)
        else Nx H3) := by
  refine ⟨fun i m H => m + i = n ∧ Pv i H, ⟨n, by omega, h0⟩, fun i m H ⟨hm, p⟩ => ?_⟩
  have gs := hG i H (by omega) p
  rcases Nat.lt_or_ge i n with lt | ge
  · exact .inr ⟨wk.goes i H lt gs, Pv (i + 1), fun H' p' => ⟨m - 1, by omega, by omega, p'⟩, fun x H' y => hs i x H H' lt p (wk.yields i H x H' lt gs y)⟩
  · have e : i = n := by omega
    subst e
    exact .inl ⟨wk.stops H gs, hd H p⟩
end Mz
set_option Elab.async false
set_option linter.all false
set_option maxRecDepth 100000
set_option maxHeartbeats 4000000
namespace Mz
open PySem PySem.Spec PyProof.Rows L2
theorem rd_keep {H H' : Hp} {a : Addr} {u : HO} (h : Rd H a u) (k : ∀ b o, H b = some o → H' b = some o) : Rd H' a u := by
  rcases h with h | ⟨o, h⟩
  · exact .inl (k _ _ h)
  · exact .inr ⟨o, k _ _ h⟩
theorem sqL_keep {K : PySem.W.Frag} {H H' : Hp} {a : Addr} {xs : List V} (h : SqL K H a xs) (k : ∀ b o, H b = some o → H' b = some o) : SqL K H' a xs := by
  rcases h with h | h
  · exact .inl (rd_keep h k)
  · exact .inr h
theorem sqT_keep {K : PySem.W.Frag} {H H' : Hp} {a : Addr} {xs : List V} (h : SqT K H a xs) (k : ∀ b o, H b = some o → H' b = some o) : SqT K H' a xs := by
  rcases h with h | h
  · exact .inl (rd_keep h k)
  · exact .inr h
/-- a place object, by its parts -/
def PlR (C : Addr) (H : Hp) : Addr → Str × Int → Prop := fun a p => Pl C H a p.1 p.2
theorem PlR.same {C : Addr} {H H' : Hp} (s : Same H H') {a : Addr} {p : Str × Int} (h : PlR C H a p) : PlR C H' a p := by
  obtain ⟨dx, h⟩ := h
  exact ⟨dx, s _ _ h⟩
/-- a shared def, as it is called -/
structure D1 (P : Program) (w : World) (K : PySem.W.Frag) (mg : Str → Option Value) (base : Heap) (x : Str) (k : Nat) (ps : List Str) (sp : Sp) (f : Addr) (fd : FuncData) : Prop where
  ok : FnOk P w K mg base CX0 k f fd ps sp
  m : mg x = some (.ref f)
  k : PySem.W.keepIn K (.ref f) = true
  b : Binds K fd ps []
/-- the names of places, ascending -/
def Unk (ps : List (Str × Int)) (ys : List Str) : Prop := sortedS ys = true ∧ ys.Nodup ∧ ∀ z, z ∈ ys ↔ z ≠ "" ∧ ∃ k, (z, k) ∈ ps
def spUnkOf (K : PySem.W.Frag) (C : Addr) : Sp := fun vs H Q _ => ∃ (pl : Addr) (qs : List Addr) (ps : List (Str × Int)), vs = [.ref pl] ∧ SqL K H pl (qs.map V.ref) ∧ Lk (PlR C H) qs ps ∧ ps.length < 60 ∧
  ∀ (p : Addr) (ys : List Str) (H' : Hp), Same H H' → H p = none → H' p = some (.lst (ys.map V.str)) → Unk ps ys → Q (.ref p) H'
section
variable {P : Program} {w : World} {K : PySem.W.Frag} {mg : Str → Option Value} {base : Heap}
theorem scUnkOf : FnScope ["places", "place"] ["places"] (defScope sUnkOf) := ⟨rfl, rfl, rfl, by decide +kernel, rfl, by decide +kernel, by decide +kernel⟩
theorem ok_unkOf {f C pb gb : Addr} {fd fdb : FuncData} (F : Fun K "unknowns_of" "unknowns_of" sUnkOf f fd) (Z : Cpl K mg C) (mS : mg "sorted" = none) (pB : PropOf K C "base" pb gb) (Gb : FnOk P w K mg base CX0 1 gb fdb ["self"] (spBase C)) (bb : Binds K fdb ["self"] []) :
    FnOk P w K mg base CX0 3 f fd ["places"] (spUnkOf K C) := by
  refine F.ok scUnkOf (fun vs H Q E h => ?_) (fun cdv A outer s H vs Q E hr h => ?_)
  · obtain ⟨pl, qs, ps, rfl, _⟩ := h
    rfl
  · obtain ⟨pl, qs, ps, rfl, hL, hq, hn, q⟩ := h
    have nd := scUnkOf.nd
    refine ⟨_, pss_one (ps_ret (pe_callB (cr_sortSet rfl) (by rfl) mS (by decide +kernel) (pa_cons (pe_scS (own := [("place", 1)]) (g := gName 1) rfl nd (pi_list (pv 0)) (blkOk_by (N := ["places", "place"]) (sc := defScope sUnkOf) (by decide +kernel)) (fun _ _ _ _ _ => pg_name (i := 1) nd rfl (Or.inl rfl)) (fun _ _ _ _ _ => pts_one (pt_cmpR op_ne (pe_w (pe_prop (pv 1) Z.cl pB Gb hr bb .nil pass0 rfl)) pe_str (nomark _))) (fun _ _ _ _ _ => pe_w (pe_prop (pv 1) Z.cl pB Gb hr bb .nil pass0 rfl))) pa_nil))), ?_⟩
    refine ⟨_, rfl, pl, rfl, ⟨_, hL⟩, fun D nD => ?_⟩
    have oldD : ∀ b o, H b = some o → b ≠ D := fun b o e => ne_of_none e nD
    have lq := hq.length
    refine scS_it (P := P) (w := w) (walk_list (xs := qs.map V.ref)) (fun i H' => (∀ b o, b ≠ D → H b = some o → H' b = some o) ∧ ∃ (S : Str → Bool) (n : Nat), H' D = some (SetS P w D S n) ∧ n ≤ i ∧ ∀ z, S z = true ↔ z ≠ "" ∧ ∃ k, (z, k) ∈ ps.take i)
      ⟨fun b o n e => by rw [upd_ne n]; exact e, _, 0, upd_same, Nat.le_refl _, fun z => by simp⟩ (fun i H' _ h => sqL_keep hL fun b o e => h.1 b o (oldD b o e) e) ?_ ?_
    · rintro i x H1 H2 hi ⟨keep, S, n, hD, hni, hS⟩ ⟨rfl, hx⟩
      rw [List.getElem?_map] at hx
      obtain ⟨a, ha, rfl⟩ := Option.map_eq_some_iff.mp hx
      obtain ⟨⟨z, k⟩, hp, dx, pa⟩ := hq.get ha
      have pa2 := keep a _ (oldD a _ pa) pa
      have tk : ps.take (i + 1) = ps.take i ++ [(z, k)] := by rw [List.take_succ, hp]; rfl
      rw [List.length_map] at hi
      have sb : 1000 < scanBound := by decide
      refine ⟨rfl, ?_⟩
      refine ⟨_, rfl, a, dx, _, rfl, pa2, a, z, k, rfl, ⟨dx, pa2⟩, ?_⟩
      refine ⟨rfl, _, rfl, ?_⟩
      by_cases e : z = ""
      · subst e
        refine iteF ⟨keep, S, n, hD, by omega, fun y => ?_⟩
        rw [hS y, tk]
        constructor
        · rintro ⟨h1, k1, h2⟩
          exact ⟨h1, k1, List.mem_append_left _ h2⟩
        · rintro ⟨h1, k1, h2⟩
          rcases List.mem_append.mp h2 with h2 | h2
          · exact ⟨h1, k1, h2⟩
          · cases List.mem_singleton.mp h2
            exact absurd rfl h1
      · rw [show (!decide (V.str z = V.str "")) = true by rw [decide_eq_false (fun x => e (V.str.inj x))]; rfl]
        refine iteT ⟨_, rfl, a, dx, _, rfl, pa2, a, z, k, rfl, ⟨dx, pa2⟩, z, S, n, rfl, hD, by omega, fun b o n2 e2 => by rw [upd_ne n2]; exact keep b o n2 e2, _, _, upd_same, ?_, fun y => ?_⟩
        · split <;> omega
        · rw [Bool.or_eq_true, decide_eq_true_eq, hS y, tk]
          constructor
          · rintro (⟨h1, k1, h2⟩ | rfl)
            · exact ⟨h1, k1, List.mem_append_left _ h2⟩
            · exact ⟨e, k, List.mem_append_right _ (List.mem_singleton.mpr rfl)⟩
          · rintro ⟨h1, k1, h2⟩
            rcases List.mem_append.mp h2 with h2 | h2
            · exact .inl ⟨h1, k1, h2⟩
            · cases List.mem_singleton.mp h2
              exact .inr rfl
    · rintro H1 ⟨keep, S, n, hD, hni, hS⟩
      rw [List.length_map] at hni
      rw [List.length_map, List.take_of_length_le (by omega)] at hS
      have old : Same H H1 := fun b o e => keep b o (oldD b o e) e
      exact ⟨D, S, n, rfl, hD, by omega, fun ys p h1 h2 h3 h4 np => q p ys _ (old.trans (same_nw np)) (old.free np) upd_same ⟨h1, h2, fun z => (h3 z).trans (hS z)⟩⟩
end
def spHasSizes (K : PySem.W.Frag) (S : Addr) : Sp := fun vs H Q _ => ∃ (s ul : Addr) (kvs : List (Key × V)) (pg : Int) (ys : List Str), vs = [.ref s, .ref ul] ∧ Stg S H s kvs pg ∧ SqL K H ul (ys.map V.str) ∧ (∀ y ∈ ys, Sm 1000 y) ∧ ys.length ≤ 100 ∧
  ∀ H', Same H H' → Q (.bl (ys.all fun y => (valV kvs (.inr y)).isSome)) H'
section
variable {P : Program} {w : World} {K : PySem.W.Frag} {mg : Str → Option Value} {base : Heap}
theorem scHasSizes : FnScope ["setting", "unknowns", "name"] ["setting", "unknowns"] (defScope sHasSizes) := ⟨rfl, rfl, rfl, by decide +kernel, rfl, by decide +kernel, by decide +kernel⟩
theorem ok_hasSizes {f S g5 : Addr} {fd fd5 : FuncData} (F : Fun K "has_sizes" "has_sizes" sHasSizes f fd) (D : Blp mg) (GC : FnOk P w K mg base CX0 1 g5 fd5 ["self", "x"] (spContS K S)) (bC : Binds K fd5 ["self", "x"] []) (iC : PySem.W.findIn K (.ref S) "__contains__" = some (some (.ref g5))) (jC : PySem.W.isFn K (.ref g5) = true) :
    FnOk P w K mg base CX0 2 f fd ["setting", "unknowns"] (spHasSizes K S) := by
  refine F.ok scHasSizes (fun vs H Q E h => ?_) (fun cdv A outer s H vs Q E hr h => ?_)
  · obtain ⟨s, ul, kvs, pg, ys, rfl, _⟩ := h
    rfl
  · obtain ⟨st, ul, kvs, pg, ys, rfl, hst, hL, hsm, hn, q⟩ := h
    have nd := scHasSizes.nd
    refine ⟨_, pss_one (ps_ret (pe_callB (cr_all rfl) (by rfl) D.all (by decide +kernel) (pa_cons (pe_lc (own := [("name", 2)]) (g := gName 2) (tt := tYes) rfl nd (pi_list (pv 1)) (blkOk_by (N := ["setting", "unknowns", "name"]) (sc := defScope sHasSizes) (by decide +kernel)) (fun _ _ _ _ _ => pg_name (i := 2) nd rfl (Or.inl rfl)) (fun _ _ _ _ _ => pts_nil)
      (fun _ _ _ _ _ => pe_w (pe_cmpR (op_inO GC hr bC iC jC) (pv 2) (pv 0) (by rfl)))) pa_nil))), ?_⟩
    refine ⟨_, rfl, ul, rfl, ⟨_, hL⟩, fun Dd nD => ?_⟩
    have oldD : ∀ b o, H b = some o → b ≠ Dd := fun b o e => ne_of_none e nD
    refine lc_it (walk_list (xs := ys.map V.str)) (fun i H' => (∀ b o, b ≠ Dd → H b = some o → H' b = some o) ∧ H' Dd = some (.lst (((ys.take i).map fun y => (valV kvs (.inr y)).isSome).map V.bl)))
      ⟨fun b o n e => by rw [upd_ne n]; exact e, upd_same⟩ (fun i H' _ h => sqL_keep hL fun b o e => h.1 b o (oldD b o e) e) ?_ ?_
    · rintro i x H1 H2 hi ⟨keep, hD⟩ ⟨rfl, hx⟩
      rw [List.getElem?_map] at hx
      obtain ⟨y, hy, rfl⟩ := Option.map_eq_some_iff.mp hx
      have hm := hsm y (List.mem_of_getElem? hy)
      have old : Same H H2 := fun b o e => keep b o (oldD b o e) e
      obtain ⟨dx, d, h1, h2⟩ := hst.same old
      rw [List.length_map] at hi
      refine ⟨rfl, yesT ?_⟩
      unfold tW
      refine ⟨_, rfl, _, rfl, st, dx, _, rfl, h1, st, .str y, kvs, pg, rfl, ⟨dx, d, h1, h2⟩, .str y hm.1 hm.2, _, rfl, _, hD, ?_, fun b o n e => by rw [upd_ne n]; exact keep b o n e, ?_⟩
      · rw [List.length_map, List.length_map, List.length_take]
        exact Nat.lt_of_lt_of_le (show min i ys.length < 1000 by omega) (by decide)
      · rw [upd_same, List.take_succ, hy, List.map_append, List.map_append]
        rfl
    · rintro H1 ⟨keep, hD⟩
      rw [List.length_map, List.take_length] at hD
      have e : (ys.map fun y => (valV kvs (.inr y)).isSome).all id = ys.all fun y => (valV kvs (.inr y)).isSome := by
        rw [List.all_map]
        rfl
      refine ⟨Dd, ys.map fun y => (valV kvs (.inr y)).isSome, rfl, SqL.of hD, ?_⟩
      rw [e]
      exact q _ fun b o e => keep b o (oldD b o e) e
end
end Mz
set_option Elab.async false
set_option linter.all false
set_option maxRecDepth 100000
set_option maxHeartbeats 4000000
/-! a dict comprehension over any walk -/
namespace Mz
open PySem PySem.Spec PyProof.Rows L2
theorem dc_it {J : It} {n : Nat} {G : Hp → Prop} {Y : Nat → Hp → V → Hp → Prop} (w : Walk J n G Y) {g : TG} {tt : TT} {tk tv : TE} {vs : List Nat} {σ : L2.St} {H1 : Hp} {D : Addr} {Qd : Hp → Prop} (Pv : Nat → Hp → Prop) (h0 : Pv 0 (upd H1 D (.dK []))) (hG : ∀ i H, i ≤ n → Pv i H → G H)
    (hs : ∀ i x H H', i < n → Pv i H → Y i H x H' → g x (wipe σ vs) H' fun σ2 H2 => wipe σ2 vs = wipe σ vs ∧ tt σ2 H2 fun b H3 =>
      if b = true then tk σ2 H3 fun y H4 => tv σ2 H4 fun z H5 => ∃ kvs k, y = kV k ∧ H5 D = some (.dK kvs) ∧ kvs.length < sizeLine ∧ Pv (i + 1) (upd H5 D (.dK (putK kvs k z))) else Pv (i + 1) H3) (hd : ∀ H, Pv n H → Qd H) :
    ∃ W : Nat → Nat → Hp → Prop, (∃ m, W 0 m (upd H1 D (.dK []))) ∧ ∀ i m H, W i m H →
      (J.stop i H ∧ Qd H) ∨ (J.go i H ∧ ∃ Nx : Hp → Prop, (∀ H', Nx H' → ∃ m', m' < m ∧ W (i + 1) m' H') ∧ ∀ x H', J.yld i H x H' → g x (wipe σ vs) H' fun σ2 H2 => wipe σ2 vs = wipe σ vs ∧ tt σ2 H2 fun b H3 =>
        if b = true then tk σ2 H3 fun y H4 => tv σ2 H4 fun z H5 => ∃ kvs k, y = kV k ∧ H5 D = some (.dK kvs) ∧ kvs.length < sizeLine ∧ Nx (upd H5 D (.dK (putK kvs k z))) else Nx H3) := by
  refine ⟨fun i m H => m = n - i ∧ i ≤ n ∧ Pv i H, ⟨n, by simp, Nat.zero_le _, h0⟩, ?_⟩
  rintro i m H ⟨rfl, hi, p⟩
  have q := hG i H hi p
  by_cases hlt : i < n
  · refine .inr ⟨w.goes i H hlt q, Pv (i + 1), fun H' p' => ⟨n - (i + 1), by omega, rfl, hlt, p'⟩, fun x H' y => hs i x H H' hlt p (w.yields i H x H' hlt q y)⟩
  · have e : i = n := by omega
    subst e
    exact .inl ⟨w.stops H q, hd H p⟩
end Mz
set_option Elab.async false
set_option linter.all false
set_option maxRecDepth 100000
set_option maxHeartbeats 4000000
/-! ranks -/
namespace Mz
open PySem PySem.Spec PyProof.Rows L2
/-- numbers, each by the place it has in ascending order -/
def ranksL (ys xs : List Int) : List Int := xs.map fun x => ((K11.rank ys x : Nat) : Int)
def spRanks (K : PySem.W.Frag) : Sp := fun vs H Q _ => ∃ (a : Addr) (xs : List Int), vs = [.ref a] ∧ SqL K H a (xs.map V.int) ∧ xs.length < 60 ∧
  ∀ (p : Addr) (ys : List Int) (H' : Hp), ys.Pairwise (· < ·) → (∀ z, z ∈ ys ↔ z ∈ xs) → Same H H' → H p = none → H' p = some (.tup ((ranksL ys xs).map V.int)) → Q (.ref p) H'
section
variable {P : Program} {w : World} {K : PySem.W.Frag} {mg : Str → Option Value} {base : Heap}
theorem scRanks : FnScope ["numbers", "order", "rank", "number"] ["numbers"] (defScope sRanks) := ⟨rfl, rfl, rfl, by decide +kernel, rfl, by decide +kernel, by decide +kernel⟩
theorem ok_ranks {f : Addr} {fd : FuncData} (F : Fun K "_ranks" "_ranks" sRanks f fd) (mEn : mg "enumerate" = none) (mSet : mg "set" = none) (mSort : mg "sorted" = none) (mTup : mg "tuple" = none) : FnOk P w K mg base CX0 2 f fd ["numbers"] (spRanks K) := by
  refine F.ok scRanks (fun vs H Q E h => ?_) (fun cdv A outer s H vs Q E hr h => ?_)
  · obtain ⟨a, xs, rfl, _⟩ := h
    rfl
  · obtain ⟨a, xs, rfl, hL, hn, q⟩ := h
    have nd := scRanks.nd
    have hu := hu_of hr
    refine ⟨_, (pss_cons (ps_set (i := 1) nd rfl (Or.inr rfl) (pe_dc (own := [("rank", 2), ("number", 3)]) (g := gTup K 2 (gCons (gName 2) (gCons (gName 3) gNil))) (tt := tYes) rfl nd (pi_enum rfl mEn (pa_cons (pe_callB (cr_sortSetI rfl) (by rfl) mSort (by decide +kernel) (pa_cons (pe_callTy (cr_setInt rfl) (by rfl) mSet (by decide +kernel) (pa_cons (pv 0) pa_nil)) pa_nil)) pa_nil)) (blkOk_by (N := ["numbers", "order", "rank", "number"]) (sc := defScope sRanks) (by decide +kernel)) (fun _ _ _ _ _ => pg_tup (by rfl) (pgs_cons (pg_name (i := 2) nd rfl (Or.inl rfl)) (pgs_cons (pg_name (i := 3) nd rfl (Or.inl rfl)) pgs_nil))) (fun _ _ _ _ _ => pts_nil) (fun _ _ _ _ _ => (pv 3)) (fun _ _ _ _ _ => (pv 2))))
      (pss_one (ps_ret (pe_callTy call_tuple_of (by rfl) mTup (by decide +kernel) (pa_cons (pe_lc (own := [("number", 3)]) (g := gName 3) (tt := tYes) rfl nd (pi_list (pv 0)) (blkOk_by (N := ["numbers", "order", "rank", "number"]) (sc := defScope sRanks) (by decide +kernel)) (fun _ _ _ _ _ => (pg_name (i := 3) nd rfl (Or.inl rfl))) (fun _ _ _ _ _ => pts_nil) (fun _ _ _ _ _ => (pe_dget hu (pv 1) (pv 3) (fun _ _ => rfl)))) pa_nil))))), ?_⟩
    have sb : 1000 ≤ sizeLine := by decide
    refine ⟨_, rfl, a, xs, rfl, hL, by omega, fun ps n nps hns => ?_⟩
    refine ⟨ps, _, n, rfl, upd_same, by omega, fun ys l asc mem len nl => ?_⟩
    have mem : ∀ z, z ∈ ys ↔ z ∈ xs := fun z => (mem z).trans decide_eq_true_iff
    have s1 : Same H (upd H ps (SetN (cxOf CX0 P w K mg base ["numbers", "order", "rank", "number"] "_ranks" (defScope sRanks) f cdv A outer s H E).nox.prog (cxOf CX0 P w K mg base ["numbers", "order", "rank", "number"] "_ranks" (defScope sRanks) f cdv A outer s H E).nox.w ps (fun j => decide (j ∈ xs)) n)) := same_nw nps
    generalize upd H ps (SetN _ _ ps (fun j => decide (j ∈ xs)) n) = H1 at s1 nl
    have s2 : Same H1 (upd H1 l (.lst (ys.map V.int))) := same_nw nl
    have t2 : upd H1 l (.lst (ys.map V.int)) l = some (.lst (ys.map V.int)) := upd_same
    generalize upd H1 l (.lst (ys.map V.int)) = H2 at s2 t2
    refine ⟨l, _, rfl, SqL.of t2, fun D nD => ?_⟩
    refine dc_it (walk_enum (xs := ys.map V.int)) (fun i H' => (∀ p o, p ≠ D → H2 p = some o → H' p = some o) ∧ ∃ kvs : List (Key × V), H' D = some (.dK kvs) ∧ kvs.length ≤ i ∧ ∀ z : Int, valV kvs (.inl z) = if z ∈ ys.take i then some (.int ((K11.rank ys z : Nat) : Int)) else none)
      ⟨fun p o n e => by rw [upd_ne n]; exact e, [], upd_same, Nat.le_refl _, fun z => by rw [List.take_zero, if_neg (List.not_mem_nil)]; rfl⟩ (fun i H' _ h => SqL.of (h.1 _ _ (ne_of_none t2 nD) t2)) ?_ ?_
    · rintro i x G1 G2 hi ⟨keep, kvs, hD, lk, hv⟩ ⟨T, x1, y1, rfl, nT, rfl, e1, e2⟩
      have e1 : some (V.int (i : Nat)) = some x1 := e1
      have e2 : (ys.map V.int)[i]? = some y1 := e2
      cases e1
      rw [List.getElem?_map] at e2
      obtain ⟨y, hy, rfl⟩ := Option.map_eq_some_iff.mp e2
      rw [List.length_map] at hi
      have TD : T ≠ D := fun z => by
        rw [z, hD] at nT
        cases nT
      refine ⟨T, _, rfl, SqT.of upd_same, rfl, _, _, rfl, _, _, rfl, rfl, ?_⟩
      refine ⟨rfl, yesT ?_⟩
      refine ⟨_, rfl, _, rfl, kvs, .inl y, rfl, by rw [upd_ne TD.symm]; exact hD, by omega, fun p o n e => ?_, _, upd_same, ?_, fun z => ?_⟩
      · rw [upd_ne n, upd_ne (fun z => by rw [z] at e; rw [keep _ _ (by rw [← z]; exact n) e] at nT; cases nT)]
        exact keep p o n e
      · have := length_putK kvs (.inl y) (V.int (i : Nat))
        omega
      · rw [valV_put, hv z]
        by_cases e : z = y
        · subst e
          rw [if_pos rfl, if_pos (by rw [List.take_succ, hy]; simp), K11.rank_at asc hy]
        · rw [if_neg (fun x => e (Sum.inl.inj x))]
          have : (z ∈ ys.take (i + 1)) ↔ z ∈ ys.take i := by
            rw [List.take_succ, hy]
            simp [e]
          by_cases m : z ∈ ys.take i
          · rw [if_pos m, if_pos (this.mpr m)]
          · rw [if_neg m, if_neg (fun x => m (this.mp x))]
    rintro G1 ⟨keep, kvs, hD, lk, hv⟩
    rw [List.length_map, List.take_length] at hv
    have sHG : Same H G1 := s1.trans (s2.trans fun p o e => keep p o (ne_of_none e nD) e)
    refine ⟨_, rfl, a, rfl, ⟨_, sqL_keep hL sHG⟩, fun D2 nD2 => ?_⟩
    refine lc_it (walk_list (xs := xs.map V.int)) (fun i H' => (∀ p o, p ≠ D2 → G1 p = some o → H' p = some o) ∧ H' D2 = some (.lst (((ranksL ys xs).take i).map V.int)))
      ⟨fun p o n e => by rw [upd_ne n]; exact e, by rw [upd_same, List.take_zero]; rfl⟩ (fun i H' _ h => sqL_keep hL fun p o e => h.1 _ _ (ne_of_none (sHG _ _ e) nD2) (sHG _ _ e)) ?_ ?_
    · rintro i x G2 G3 hi ⟨keep2, hD2⟩ ⟨rfl, hx⟩
      rw [List.getElem?_map] at hx
      obtain ⟨y, hy, rfl⟩ := Option.map_eq_some_iff.mp hx
      rw [List.length_map] at hi
      have hDD := keep2 _ _ (ne_of_none hD nD2) hD
      have g := DGet.k (k := .inl y) hDD
      rw [hv y, if_pos ((mem y).mpr (List.mem_of_getElem? hy))] at g
      have hr : (ranksL ys xs)[i]? = some ((K11.rank ys y : Nat) : Int) := by
        unfold ranksL
        rw [List.getElem?_map, hy]
        rfl
      refine ⟨rfl, yesT ?_⟩
      refine ⟨_, rfl, _, rfl, D, _, rfl, g, _, hD2, ?_, fun p o n e => by rw [upd_ne n]; exact keep2 p o n e, ?_⟩
      · rw [List.length_map, List.length_take]
        omega
      · rw [upd_same, List.take_succ, hr, List.map_append]
        rfl
    rintro G2 ⟨keep2, hD2⟩
    rw [List.take_of_length_le (by rw [List.length_map]; exact Nat.le_of_eq (List.length_map _))] at hD2
    have sHG2 : Same H G2 := sHG.trans fun p o e => keep2 p o (ne_of_none e nD2) e
    exact ⟨D2, _, rfl, .inl ⟨SqL.of hD2, fun p np => q p ys _ asc mem (sHG2.trans (same_nw np)) (sHG2.free np) upd_same⟩⟩

end
end Mz
set_option Elab.async false
set_option linter.all false
set_option maxRecDepth 100000
set_option maxHeartbeats 4000000
/-! the kind of values -/
namespace Mz
open PySem PySem.Spec PyProof.Rows L2
/-- the pages, and the pages ahead -/
def pagesL (pg : Int) (xs : List Int) : List Int := xs.map (· / pg) ++ xs.map (fun x => (x - 1) / pg)
/-- the ranks of values and pages -/
def KindV (H : Hp) (p : Addr) (pg : Int) (xs : List Int) : Prop := ∃ (p1 p2 : Addr) (ys us : List Int), H p = some (.tup [.ref p1, .ref p2]) ∧ H p1 = some (.tup ((ranksL ys xs).map V.int)) ∧ H p2 = some (.tup ((ranksL us (pagesL pg xs)).map V.int)) ∧
  ys.Pairwise (· < ·) ∧ (∀ z, z ∈ ys ↔ z ∈ xs) ∧ us.Pairwise (· < ·) ∧ ∀ z, z ∈ us ↔ z ∈ pagesL pg xs
def spKind (K : PySem.W.Frag) : Sp := fun vs H Q _ => ∃ (a : Addr) (xs : List Int) (pg : Int), vs = [.ref a, .int pg] ∧ SqL K H a (xs.map V.int) ∧ xs.length < 20 ∧ 0 < pg ∧ pg.natAbs.log2 < 9000 ∧
  ∀ (p : Addr) (H' : Hp), Same H H' → H p = none → KindV H' p pg xs → Q (.ref p) H'
section
variable {P : Program} {w : World} {K : PySem.W.Frag} {mg : Str → Option Value} {base : Heap}
theorem scKind : FnScope ["values", "page", "pages", "pages_ahead", "value"] ["values", "page"] (defScope sKind) := ⟨rfl, rfl, rfl, by decide +kernel, rfl, by decide +kernel, by decide +kernel⟩
theorem ok_kind {f fR : Addr} {fd fdR : FuncData} (F : Fun K "_kind" "_kind" sKind f fd) (GR : D1 P w K mg base "_ranks" 2 ["numbers"] (spRanks K) fR fdR) : FnOk P w K mg base CX0 3 f fd ["values", "page"] (spKind K) := by
  refine F.ok scKind (fun vs H Q E h => ?_) (fun cdv A outer s H vs Q E hr h => ?_)
  · obtain ⟨a, xs, pg, rfl, _⟩ := h
    rfl
  · obtain ⟨a, xs, pg, rfl, hL, hn, p0, pl, q⟩ := h
    have nd := scKind.nd
    have hr2 : Room 2 _ := hr.mono (by decide)
    refine ⟨_, (pss_cons (ps_setLc (i := 2) (own := [("value", 4)]) (g := gName 4) (tt := tYes) rfl nd rfl rfl (sw_true rfl rfl rfl (by decide +kernel)) (pi_list (pv 0)) (blkOk_by (N := ["values", "page", "pages", "pages_ahead", "value"]) (sc := defScope sKind) (by decide +kernel)) (fun _ _ _ _ _ => (pg_name (i := 4) nd rfl (Or.inl rfl))) (fun _ _ _ _ _ => pts_nil) (fun _ _ _ _ _ => (pe_op op_fdivW (pv 4) (pv 1))))
      (pss_cons (ps_setLc (i := 3) (own := [("value", 4)]) (g := gName 4) (tt := tYes) rfl nd rfl rfl (sw_true rfl rfl rfl (by decide +kernel)) (pi_list (pv 0)) (blkOk_by (N := ["values", "page", "pages", "pages_ahead", "value"]) (sc := defScope sKind) (by decide +kernel)) (fun _ _ _ _ _ => (pg_name (i := 4) nd rfl (Or.inl rfl))) (fun _ _ _ _ _ => pts_nil) (fun _ _ _ _ _ => (pe_op op_fdivW (pe_op op_sub (pv 4) pe_int) (pv 1))))
      (pss_one (ps_ret (pe_tup (pa_cons (pe_call GR.ok hr2 (by rfl) GR.m GR.k GR.b .nil pass0 (pa_cons (pv 0) pa_nil)) (pa_cons (pe_call GR.ok hr2 (by rfl) GR.m GR.k GR.b .nil pass0 (pa_cons (pe_op op_cat (pv 2) (pv 3)) pa_nil)) pa_nil))))))), ?_⟩
    have sb : 1000 ≤ sizeLine := by decide
    refine ⟨_, rfl, a, rfl, ⟨_, hL⟩, fun D nD => ?_⟩
    refine lc_it (walk_list (xs := xs.map V.int)) (fun i H' => (∀ p o, p ≠ D → H p = some o → H' p = some o) ∧ H' D = some (.lst (((xs.take i).map (· / pg)).map V.int)))
      ⟨fun p o n e => by rw [upd_ne n]; exact e, by rw [upd_same, List.take_zero]; rfl⟩ (fun i H' _ h => sqL_keep hL fun p o e => h.1 _ _ (ne_of_none e nD) e) ?_ ?_
    · rintro i x G2 G3 hi ⟨keep, hD⟩ ⟨rfl, hx⟩
      rw [List.getElem?_map] at hx
      obtain ⟨y, hy, rfl⟩ := Option.map_eq_some_iff.mp hx
      rw [List.length_map] at hi
      refine ⟨rfl, yesT ?_⟩
      refine ⟨_, rfl, _, rfl, _, _, rfl, rfl, ⟨p0, pl⟩, _, hD, ?_, fun p o n e => by rw [upd_ne n]; exact keep p o n e, ?_⟩
      · rw [List.length_map, List.length_map, List.length_take]
        omega
      · rw [upd_same, List.take_succ, hy, List.map_append, List.map_append]
        rfl
    rintro G1 ⟨keep, hD⟩
    rw [List.length_map, List.take_length] at hD
    have s1 : Same H G1 := fun p o e => keep p o (ne_of_none e nD) e
    have nH1 := nD
    refine ⟨_, rfl, a, rfl, ⟨_, sqL_keep hL s1⟩, fun D2 nD2 => ?_⟩
    refine lc_it (walk_list (xs := xs.map V.int)) (fun i H' => (∀ p o, p ≠ D2 → G1 p = some o → H' p = some o) ∧ H' D2 = some (.lst (((xs.take i).map (fun x => (x - 1) / pg)).map V.int)))
      ⟨fun p o n e => by rw [upd_ne n]; exact e, by rw [upd_same, List.take_zero]; rfl⟩ (fun i H' _ h => sqL_keep hL fun p o e => h.1 _ _ (ne_of_none (s1 _ _ e) nD2) (s1 _ _ e)) ?_ ?_
    · rintro i x G2 G3 hi ⟨keep, hD⟩ ⟨rfl, hx⟩
      rw [List.getElem?_map] at hx
      obtain ⟨y, hy, rfl⟩ := Option.map_eq_some_iff.mp hx
      rw [List.length_map] at hi
      refine ⟨rfl, yesT ?_⟩
      refine ⟨_, rfl, _, _, rfl, rfl, _, rfl, _, _, rfl, rfl, ⟨p0, pl⟩, _, hD, ?_, fun p o n e => by rw [upd_ne n]; exact keep p o n e, ?_⟩
      · rw [List.length_map, List.length_map, List.length_take]
        omega
      · rw [upd_same, List.take_succ, hy, List.map_append, List.map_append]
        rfl
    rintro G2 ⟨keep2, hD2⟩
    rw [List.length_map, List.take_length] at hD2
    have s2 : Same G1 G2 := fun p o e => keep2 p o (ne_of_none e nD2) e
    refine ⟨_, rfl, a, xs, rfl, sqL_keep hL (s1.trans s2), by omega, fun p1 ys H3 asc mem s3 n3 h3 => ?_⟩
    refine ⟨_, rfl, _, rfl, D, D2, _, _, rfl, rfl, s3 _ _ (s2 _ _ hD), s3 _ _ hD2, ?_, fun pc nc => ?_⟩
    · rw [List.length_map, List.length_map, List.length_map, List.length_map]
      omega
    have s4 : Same H3 (upd H3 pc (.lst ((xs.map (· / pg)).map V.int ++ (xs.map (fun x => (x - 1) / pg)).map V.int))) := same_nw nc
    have t4 : upd H3 pc (.lst ((xs.map (· / pg)).map V.int ++ (xs.map (fun x => (x - 1) / pg)).map V.int)) pc = some (.lst ((pagesL pg xs).map V.int)) := by
      rw [upd_same]
      unfold pagesL
      rw [List.map_append]
    generalize upd H3 pc (.lst ((xs.map (· / pg)).map V.int ++ (xs.map (fun x => (x - 1) / pg)).map V.int)) = H4 at s4 t4
    have lp : (pagesL pg xs).length < 60 := by
      unfold pagesL
      rw [List.length_append, List.length_map, List.length_map]
      omega
    refine ⟨pc, _, rfl, SqL.of t4, lp, fun p2 us H5 asc2 mem2 s5 n5 h5 => ?_⟩
    refine ⟨(by show 2 ≤ sizeLine; decide), fun pt npt => ?_⟩
    have s6 : Same H5 (upd H5 pt (.tup [.ref p1, .ref p2])) := same_nw npt
    exact q pt _ ((s1.trans s2).trans (s3.trans (s4.trans (s5.trans s6)))) (((s1.trans s2).trans (s3.trans (s4.trans s5))).free npt) ⟨p1, p2, ys, us, upd_same, s6 _ _ (s5 _ _ (s4 _ _ h3)), s6 _ _ h5, asc, mem, asc2, mem2⟩

end
end Mz
set_option Elab.async false
set_option linter.all false
set_option maxRecDepth 100000
set_option maxHeartbeats 4000000
/-! the kind of a setting -/
namespace Mz
open PySem PySem.Spec PyProof.Rows L2
/-- the value of a place at sizes -/
def wtP (kvs : List (Key × V)) (p : Str × Int) : Int := (wtK kvs p.1 p.2).getD 0
def spKindOf (K : PySem.W.Frag) (S C : Addr) : Sp := fun vs H Q _ => ∃ (s pl : Addr) (qs : List Addr) (ps : List (Str × Int)) (kvs : List (Key × V)) (pg : Int), vs = [.ref s, .ref pl] ∧ Stg S H s kvs pg ∧ KInt kvs ∧ 0 < pg ∧ pg.natAbs.log2 < 9000 ∧
  SqL K H pl (qs.map V.ref) ∧ Lk (PlR C H) qs ps ∧ ps.length < 19 ∧ (∀ p ∈ ps, ∃ n, wtK kvs p.1 p.2 = some n) ∧ ∀ (p : Addr) (H' : Hp), Same H H' → H p = none → KindV H' p pg (ps.map (wtP kvs) ++ [0]) → Q (.ref p) H'
section
variable {P : Program} {w : World} {K : PySem.W.Frag} {mg : Str → Option Value} {base : Heap}
theorem scKindOf : FnScope ["setting", "places", "place"] ["setting", "places"] (defScope sKindOf) := ⟨rfl, rfl, rfl, by decide +kernel, rfl, by decide +kernel, by decide +kernel⟩
theorem ok_kindOf {f fK S C cX fG pg2 g2 : Addr} {fd fdK fdG fd2 : FuncData} (F : Fun K "kind_of" "kind_of" sKindOf f fd) (T : Scl K mg S) (GK : D1 P w K mg base "_kind" 3 ["values", "page"] (spKind K) fK fdK)
    (GG : FnOk P w K mg base (L2.CX P w) 6 fG fdG ["self", "at"] (spGetS K S C cX)) (bG : Binds K fdG ["self", "at"] [])
    (iG : PySem.W.findIn K (.ref S) "__getitem__" = some (some (.ref fG))) (fG2 : PySem.W.fnIn K fG = true) (jG : PySem.W.isFn K (.ref fG) = true) (pP : PropOf K S "page" pg2 g2) (GP : FnOk P w K mg base CX0 1 g2 fd2 ["self"] (spPageS S)) (bP : Binds K fd2 ["self"] []) :
    FnOk P w K mg base CX0 8 f fd ["setting", "places"] (spKindOf K S C) := by
  refine F.ok scKindOf (fun vs H Q E h => ?_) (fun cdv A outer s H vs Q E hr h => ?_)
  · obtain ⟨s, pl, qs, ps, kvs, pg, rfl, _⟩ := h
    rfl
  · obtain ⟨st, pl, qs, ps, kvs, pg, rfl, hst, hki, p0, p9, hL, hq, hn, hh, q⟩ := h
    have nd := scKindOf.nd
    have hr2 : Room 2 _ := hr.mono (by decide)
    have hr3 : Room 3 _ := hr.mono (by decide)
    refine ⟨_, (pss_one (ps_ret (pe_call GK.ok hr3 (by rfl) GK.m GK.k GK.b .nil pass0 (pa_cons (pe_op op_cat (pe_lc (own := [("place", 2)]) (g := gName 2) (tt := tYes) rfl nd (pi_list (pv 1)) (blkOk_by (N := ["setting", "places", "place"]) (sc := defScope sKindOf) (by decide +kernel)) (fun _ _ _ _ _ => (pg_name (i := 2) nd rfl (Or.inl rfl))) (fun _ _ _ _ _ => pts_nil) (fun _ _ _ _ _ => (pe_w (pe_subS (E := fun _ => E0) GG hr bG iG fG2 jG (fun σ => pass_no) (pv 0) (pv 2))))) (pe_lst (pa_cons pe_int pa_nil))) (pa_cons (pe_prop (pv 0) T.cl pP GP hr2 bP .nil pass0 rfl) pa_nil))))), ?_⟩
    have sb : 1000 ≤ sizeLine := by decide
    have lq := hq.length
    refine ⟨_, rfl, pl, rfl, ⟨_, hL⟩, fun D nD => ?_⟩
    refine lc_it (walk_list (xs := qs.map V.ref)) (fun i H' => (∀ p o, p ≠ D → H p = some o → H' p = some o) ∧ H' D = some (.lst (((ps.take i).map (wtP kvs)).map V.int)))
      ⟨fun p o n e => by rw [upd_ne n]; exact e, by rw [upd_same, List.take_zero]; rfl⟩ (fun i H' _ h => sqL_keep hL fun p o e => h.1 _ _ (ne_of_none e nD) e) ?_ ?_
    · rintro i x G2 G3 hi ⟨keep, hD⟩ ⟨rfl, hx⟩
      rw [List.getElem?_map] at hx
      obtain ⟨r, hr0, rfl⟩ := Option.map_eq_some_iff.mp hx
      obtain ⟨p, hp, pr⟩ := hq.get hr0
      rw [List.length_map] at hi
      have sG : Same H G3 := fun p o e => keep p o (ne_of_none e nD) e
      obtain ⟨n, hn2⟩ := hh p (List.mem_of_getElem? hp)
      obtain ⟨dx, d, h1, h2⟩ := hst.same sG
      refine ⟨rfl, yesT ?_⟩
      unfold tW
      refine ⟨_, rfl, _, rfl, st, dx, _, rfl, h1, st, .ref r, kvs, pg, _, rfl, ⟨dx, d, h1, h2⟩, hki, .inl ⟨r, p.1, p.2, rfl, pr.same sG, rfl⟩, fun m hm H1 s1 => ?_, fun e => by rw [hn2] at e; cases e⟩
      rw [hn2] at hm
      cases hm
      refine ⟨_, s1 _ _ hD, ?_, fun p o n e => by rw [upd_ne n]; exact s1 _ _ (keep p o n e), ?_⟩
      · rw [List.length_map, List.length_map, List.length_take]
        omega
      · rw [upd_same, List.take_succ, hp, List.map_append, List.map_append]
        have : wtP kvs p = n := by
          unfold wtP
          rw [hn2]
          rfl
        show _ = some (HO.lst (_ ++ [V.int (wtP kvs p)]))
        rw [this]
    rintro G1 ⟨keep, hD⟩
    rw [List.length_map, lq, List.take_length] at hD
    have s1 : Same H G1 := fun p o e => keep p o (ne_of_none e nD) e
    refine ⟨(by show 1 ≤ sizeLine; decide), fun p1 n1 => ?_⟩
    have s2 : Same G1 (upd G1 p1 (.lst [.int 0])) := same_nw n1
    have t2 : upd G1 p1 (.lst [.int 0]) p1 = some (.lst [.int 0]) := upd_same
    generalize upd G1 p1 (.lst [.int 0]) = G2 at s2 t2
    refine ⟨D, p1, _, _, rfl, rfl, s2 _ _ hD, t2, ?_, fun pc nc => ?_⟩
    · rw [List.length_map, List.length_map]
      show ps.length + 1 ≤ sizeLine
      omega
    have s3 : Same G2 (upd G2 pc (.lst ((ps.map (wtP kvs)).map V.int ++ [.int 0]))) := same_nw nc
    have t3 : upd G2 pc (.lst ((ps.map (wtP kvs)).map V.int ++ [.int 0])) pc = some (.lst ((ps.map (wtP kvs) ++ [0]).map V.int)) := by
      rw [upd_same, List.map_append]
      rfl
    generalize upd G2 pc (.lst ((ps.map (wtP kvs)).map V.int ++ [.int 0])) = G3 at s3 t3
    have s13 : Same H G3 := s1.trans (s2.trans s3)
    obtain ⟨dx, d, h1, h2⟩ := hst.same s13
    refine ⟨_, rfl, st, dx, _, rfl, h1, st, kvs, pg, rfl, ⟨dx, d, h1, h2⟩, pc, _, pg, rfl, SqL.of t3, ?_, p0, p9, fun p H' s4 n4 hk => q p H' (s13.trans s4) (s13.free n4) hk⟩
    rw [List.length_append, List.length_map]
    show ps.length + 1 < 20
    omega

end
end Mz
set_option Elab.async false
set_option linter.all false
set_option maxRecDepth 100000
set_option maxHeartbeats 4000000
/-! what goes over a list or a tuple, whichever it is -/
namespace Mz
open PySem PySem.Spec PyProof.Rows L2
def SqLT (K : PySem.W.Frag) (H : Hp) (a : Addr) (xs : List V) : Prop := SqL K H a xs ∨ SqT K H a xs
def iSeq (K : PySem.W.Frag) (tl : TE) : TI := fun σ H R => iList K tl σ H R ∨ iTup K tl σ H R
theorem pi_seq {X : Cx} {tg l : Expr} {tl : TE} (K : PySem.W.Frag) (hl : PE X l tl) (hK : X.K = K := by rfl) : PI X tg l (iSeq K tl) :=
  ⟨fun pins s σ H R I h => h.elim (fun h => (pi_listK K hl hK).run pins s σ H R I h) (fun h => (pi_tupK K hl hK).run pins s σ H R I h)⟩
/-- a comprehension over it -/
theorem lc_seq {K : PySem.W.Frag} {a : Addr} {xs : List V} {j : Nat} {g : TG} {tt : TT} {te : TE} {vs : List Nat} {σ : L2.St} {H : Hp} {Q : VK} (hv : σ[j]? = some (some (.ref a))) (hL : SqLT K H a xs) (Pv : Addr → Nat → Hp → Prop) (h0 : ∀ D, H D = none → Pv D 0 (upd H D (.lst [])))
    (hG : ∀ D i H', H D = none → i ≤ xs.length → Pv D i H' → SqLT K H' a xs ∧ ∀ p o, H p = some o → H' p = some o)
    (hs : ∀ D, H D = none → ∀ i x H', i < xs.length → Pv D i H' → xs[i]? = some x → g x (wipe σ vs) H' fun σ2 H2 => wipe σ2 vs = wipe σ vs ∧ tt σ2 H2 fun b H3 =>
      if b = true then te σ2 H3 fun y H4 => ∃ acc, H4 D = some (.lst acc) ∧ acc.length < sizeLine ∧ Pv D (i + 1) (upd H4 D (.lst (acc ++ [y]))) else Pv D (i + 1) H3)
    (hd : ∀ D H', H D = none → Pv D xs.length H' → Q (.ref D) H') : tLc (iSeq K (tVar j)) g tt te vs σ H Q := by
  have keepL : ∀ {H' : Hp}, SqL K H a xs → (∀ p o, H p = some o → H' p = some o) → SqL K H' a xs := fun {H'} h k => by
    rcases h with (h | ⟨o, h⟩) | h
    · exact .inl (.inl (k _ _ h))
    · exact .inl (.inr ⟨o, k _ _ h⟩)
    · exact .inr h
  have keepT : ∀ {H' : Hp}, SqT K H a xs → (∀ p o, H p = some o → H' p = some o) → SqT K H' a xs := fun {H'} h k => by
    rcases h with (h | ⟨o, h⟩) | h
    · exact .inl (.inl (k _ _ h))
    · exact .inl (.inr ⟨o, k _ _ h⟩)
    · exact .inr h
  rcases hL with hL | hL
  · refine .inl ⟨_, hv, a, rfl, ⟨_, hL⟩, fun D nD => ?_⟩
    refine lc_it (walk_list (xs := xs)) (Pv D) (h0 D nD) (fun i H' hi h => keepL hL (hG D i H' nD hi h).2) ?_ (fun H' h => hd D H' nD h)
    rintro i x H1 H2 hi p ⟨rfl, hx⟩
    exact hs D nD i x _ hi p hx
  · refine .inr ⟨_, hv, a, rfl, ⟨_, hL⟩, fun D nD => ?_⟩
    refine lc_it (walk_tup (xs := xs)) (Pv D) (h0 D nD) (fun i H' hi h => keepT hL (hG D i H' nD hi h).2) ?_ (fun H' h => hd D H' nD h)
    rintro i x H1 H2 hi p ⟨rfl, hx⟩
    exact hs D nD i x _ hi p hx
/-- a for over it -/
theorem for_seq {K : PySem.W.Frag} {a : Addr} {xs : List V} {j : Nat} {g : TG} {tb : TS} {D : Ends} {σ : L2.St} {H : Hp} (hv : σ[j]? = some (some (.ref a))) (hL : SqLT K H a xs) (Pv : Nat → L2.St → Hp → Prop) (h0 : Pv 0 σ H)
    (hG : ∀ i σ' H', i ≤ xs.length → Pv i σ' H' → ∀ p o, H p = some o → H' p = some o)
    (hs : ∀ i x σ' H', xs[i]? = some x → Pv i σ' H' → g x σ' H' fun σ2 H2 => tb { D with nx := Pv (i + 1), ct := Pv (i + 1), bk := D.nx } σ2 H2) (hd : ∀ σ' H', Pv xs.length σ' H' → D.nx σ' H') : tFor (iSeq K (tVar j)) g tb D σ H := by
  have keepL : ∀ {H' : Hp}, SqL K H a xs → (∀ p o, H p = some o → H' p = some o) → SqL K H' a xs := fun {H'} h k => by
    rcases h with (h | ⟨o, h⟩) | h
    · exact .inl (.inl (k _ _ h))
    · exact .inl (.inr ⟨o, k _ _ h⟩)
    · exact .inr h
  have keepT : ∀ {H' : Hp}, SqT K H a xs → (∀ p o, H p = some o → H' p = some o) → SqT K H' a xs := fun {H'} h k => by
    rcases h with (h | ⟨o, h⟩) | h
    · exact .inl (.inl (k _ _ h))
    · exact .inl (.inr ⟨o, k _ _ h⟩)
    · exact .inr h
  rcases hL with hL | hL
  · exact .inl ⟨_, hv, a, rfl, ⟨_, hL⟩, for_it (walk_list (xs := xs)) Pv h0 (fun i σ' H' hi p => keepL hL (hG i σ' H' hi p)) (fun i x σ' H1 H2 hi p y => by obtain ⟨rfl, hx⟩ := y; exact hs i x σ' _ hx p) hd⟩
  · exact .inr ⟨_, hv, a, rfl, ⟨_, hL⟩, for_it (walk_tup (xs := xs)) Pv h0 (fun i σ' H' hi p => keepT hL (hG i σ' H' hi p)) (fun i x σ' H1 H2 hi p y => by obtain ⟨rfl, hx⟩ := y; exact hs i x σ' _ hx p) hd⟩
/-- a suite that is never come to -/
theorem pss_never {X : Cx} {ss : List Stmt} : PSs X ss (fun _ _ _ => False) := ⟨fun _ _ _ _ _ _ h => h.elim⟩
end Mz
set_option Elab.async false
set_option linter.all false
set_option maxRecDepth 100000
set_option maxHeartbeats 4000000
/-! places that are handed in -/
namespace Mz
open PySem PySem.Spec PyProof.Rows L2
theorem Pv6.same {K : PySem.W.Frag} {C : Addr} {H H' : Hp} {v : V} {z : Str} {k : Int} (s : Same H H') (h : Pv6 K C H v z k) : Pv6 K C H' v z k := by
  rcases h with ⟨a, e, ⟨dx, p⟩⟩ | ⟨⟨h1, h2⟩, e⟩
  · exact .inl ⟨a, e, dx, s _ _ p⟩
  · exact .inr ⟨⟨h1.same s, h2.same s⟩, e⟩
def spIsList (K : PySem.W.Frag) : Sp := fun vs H Q _ => ∃ (a : Addr) (xs : List V), vs = [.ref a] ∧ (H a = some (.lst xs) ∨ H a = some (.tup xs)) ∧ ∀ H', Same H H' → Q (.bl true) H'
def spPlaced14 (K : PySem.W.Frag) (C : Addr) : Sp := fun vs H Q _ => ∃ (a : Addr) (xs : List V) (ps : List (Str × Int)), vs = [.ref a] ∧ (H a = some (.lst xs) ∨ H a = some (.tup xs)) ∧ Lk (fun v (p : Str × Int) => Pv6 K C H v p.1 p.2) xs ps ∧ ps.length ≤ 14 ∧
  ∀ (p : Addr) (qs : List Addr) (H' : Hp), Same H H' → H p = none → H' p = some (.lst (qs.map V.ref)) → Lk (PlR C H') qs ps → Q (.ref p) H'
section
variable {P : Program} {w : World} {K : PySem.W.Frag} {mg : Str → Option Value} {base : Heap}
theorem scIsList : FnScope ["value"] ["value"] (defScope sIsList) := ⟨rfl, rfl, rfl, by decide +kernel, rfl, by decide +kernel, by decide +kernel⟩
theorem ok_isList {f : Addr} {fd : FuncData} (F : Fun K "is_list" "is_list" sIsList f fd) (D : Blp mg) (mL : mg "list" = none) (mT : mg "tuple" = none) : FnOk P w K mg base CX0 1 f fd ["value"] (spIsList K) := by
  refine F.ok scIsList (fun vs H Q E h => ?_) (fun cdv A outer s H vs Q E hr h => ?_)
  · obtain ⟨a, xs, rfl, _⟩ := h
    rfl
  · obtain ⟨a, xs, rfl, hL, q⟩ := h
    refine ⟨_, (pss_one (ps_ret (pe_callB call_isiT (by rfl) D.isi (by decide +kernel) (pa_cons (pv 0) (pa_cons (pe_tup (pa_cons (pe_bltn (v := .ty "list") (by rfl) mL (by decide +kernel) rfl) (pa_cons (pe_bltn (v := .ty "tuple") (by rfl) mT (by decide +kernel) rfl) pa_nil))) pa_nil))))), ?_⟩
    refine ⟨_, rfl, (by show 2 ≤ sizeLine; decide), fun p np => ?_⟩
    have s1 : Same H (upd H p (.tup [.ty "list", .ty "tuple"])) := same_nw np
    rcases hL with hL | hL
    · exact ⟨.ref a, p, [.ty "list", .ty "tuple"], .type "list", [.type "list", .type "tuple"], true, rfl, upd_same, .cons (.ty _) (.cons (.ty _) .nil), .base (.lst (s1 _ _ hL)), kitAny_cons (b := true) (kit_ty (by decide +kernel)) (fun e => nomatch e) (fun _ => rfl), q _ s1⟩
    · exact ⟨.ref a, p, [.ty "list", .ty "tuple"], .type "tuple", [.type "list", .type "tuple"], true, rfl, upd_same, .cons (.ty _) (.cons (.ty _) .nil), .base (.tup (s1 _ _ hL)), kitAny_cons (b := false) (kit_ty (by decide +kernel)) (fun _ => kitAny_cons (b := true) (kit_ty (by decide +kernel)) (fun e => nomatch e) (fun _ => rfl)) (fun e => nomatch e), q _ s1⟩
theorem scPlaced : FnScope ["places", "item"] ["places"] (defScope sPlaced) := ⟨rfl, rfl, rfl, by decide +kernel, rfl, by decide +kernel, by decide +kernel⟩
theorem ok_placed {f fL fI fO C cX po : Addr} {fd fdL fdI fdO : FuncData} {t14 : Tok} (F : Fun K "_placed" "_placed" sPlaced f fd) (B : Blt mg) (D : Blp mg) (Z : Cpl K mg C) (O : OfM P w K mg base C cX po fO fdO) (mM : mg "_MOST_PLACES" = some (.int 14 t14))
    (GL : D1 P w K mg base "is_list" 1 ["value"] (spIsList K) fL fdL) (GI : D1 P w K mg base "is_place" 6 ["value"] (spIsPl K C) fI fdI) : FnOk P w K mg base CX0 7 f fd ["places"] (spPlaced14 K C) := by
  refine F.ok scPlaced (fun vs H Q E h => ?_) (fun cdv A outer s H vs Q E hr h => ?_)
  · obtain ⟨a, xs, ps, rfl, _⟩ := h
    rfl
  · obtain ⟨a, xs, ps, rfl, hL, hx, hn, q⟩ := h
    have nd := scPlaced.nd
    have hr1 : Room 1 _ := hr.mono (by decide)
    have hr5 : Room 5 _ := hr.mono (by decide)
    have hr6 : Room 6 _ := hr.mono (by decide)
    refine ⟨_, (pss_cons (ps_if (PW.pt (pw_or (pt_not (pt_val (pe_call GL.ok hr1 (by rfl) GL.m GL.k GL.b .nil pass0 (pa_cons (pv 0) pa_nil)))) (pw_or (pt_cmpR op_gt (pe_callB call_len_seq (by rfl) B.len PySem.boot_len (pa_cons (pv 0) pa_nil)) (pe_glob (v := .int 14) rfl mM ⟨_, rfl⟩) (nomark _)) (pw_or1 (pt_not (pt_val (pe_callB (cr_all rfl) (by rfl) D.all (by decide +kernel) (pa_cons (pe_lc (own := [("item", 1)]) (g := gName 1) (tt := tYes) rfl nd (pi_seq K (pv 0)) (blkOk_by (N := ["places", "item"]) (sc := defScope sPlaced) (by decide +kernel)) (fun _ _ _ _ _ => (pg_name (i := 1) nd rfl (Or.inl rfl))) (fun _ _ _ _ _ => pts_nil) (fun _ _ _ _ _ => (pe_call GI.ok hr6 (by rfl) GI.m GI.k GI.b .nil pass0 (pa_cons (pv 1) pa_nil)))) pa_nil)))))))) pss_never pss_nil)
      (pss_one (ps_ret (pe_lc (own := [("item", 1)]) (g := gName 1) (tt := tYes) rfl nd (pi_seq K (pv 0)) (blkOk_by (N := ["places", "item"]) (sc := defScope sPlaced) (by decide +kernel)) (fun _ _ _ _ _ => (pg_name (i := 1) nd rfl (Or.inl rfl))) (fun _ _ _ _ _ => pts_nil) (fun _ _ _ _ _ => (pe_w (pe_cmethS (ES := fun _ => E0) (pe_glob (v := .ref C) rfl Z.mgC rfl) O.rd O.met O.ok hr5 O.b (fun σ => pass_no) (pa_cons (pv 1) pa_nil)))))))), ?_⟩
    have sb : 1000 ≤ sizeLine := by decide
    have lx := hx.length
    refine ⟨_, rfl, a, xs, rfl, hL, fun H1 s1 => ?_⟩
    refine ⟨true, rfl, iteF ?_⟩
    have hL1 : H1 a = some (.lst xs) ∨ H1 a = some (.tup xs) := hL.imp (s1 _ _) (s1 _ _)
    have seqOf : ∀ {H' : Hp}, (H' a = some (.lst xs) ∨ H' a = some (.tup xs)) → SqLT K H' a xs := fun h => h.imp SqL.of SqT.of
    refine ⟨_, rfl, a, xs, rfl, hL1.imp SqL.of SqT.of, _, _, rfl, rfl, _, rfl, ?_⟩
    rw [show decide ((14 : Int) < (xs.length : Nat)) = false from decide_eq_false (by omega)]
    refine iteF ?_
    dsimp only [tNot, tB, tCB, tCons]
    refine lc_seq (K := K) (a := a) (xs := xs) rfl (seqOf hL1) (fun D i H' => (∀ p o, p ≠ D → H1 p = some o → H' p = some o) ∧ H' D = some (.lst ((List.replicate i true).map V.bl)))
      (fun D nD => ⟨fun p o n e => by rw [upd_ne n]; exact e, upd_same⟩) (fun D i H' nD hi h => ⟨seqOf (hL1.imp (fun e => h.1 _ _ (ne_of_none e nD) e) (fun e => h.1 _ _ (ne_of_none e nD) e)), fun p o e => h.1 p o (ne_of_none e nD) e⟩) ?_ ?_
    · rintro D nD i x H2 hi ⟨keep, hD⟩ hxi
      obtain ⟨p, hp, pv⟩ := hx.get hxi
      have s2 : Same H1 H2 := fun p o e => keep p o (ne_of_none e nD) e
      refine ⟨rfl, yesT ?_⟩
      have fin : ∀ (b : Bool) (H3 : Hp), b = true → Same H2 H3 → ∃ acc, H3 D = some (.lst acc) ∧ acc.length < sizeLine ∧ (∀ p o, p ≠ D → H1 p = some o → upd H3 D (.lst (acc ++ [V.bl b])) p = some o) ∧ upd H3 D (.lst (acc ++ [V.bl b])) D = some (.lst ((List.replicate (i + 1) true).map V.bl)) := by
        rintro b H3 rfl s3
        refine ⟨_, s3 _ _ hD, ?_, fun p o n e => by rw [upd_ne n]; exact s3 _ _ (keep p o n e), ?_⟩
        · rw [List.length_map, List.length_replicate]
          omega
        · rw [upd_same, List.replicate_succ', List.map_append]
          rfl
      refine ⟨_, rfl, x, rfl, ?_⟩
      rcases pv.same (s1.trans s2) with ⟨r, rfl, pr⟩ | ⟨np, ev⟩
      · exact .inl ⟨r, p.1, p.2, rfl, pr, fin true H2 rfl (Same.refl _)⟩
      · exact .inr ⟨np, fun H3 s3 => fin _ H3 (by rw [ev]; rfl) s3⟩
    rintro D H2 nD ⟨keep, hD⟩
    have s2 : Same H1 H2 := fun p o e => keep p o (ne_of_none e nD) e
    refine ⟨D, List.replicate xs.length true, rfl, SqL.of hD, ?_⟩
    rw [show (List.replicate xs.length true).all id = true from by rw [List.all_eq_true]; intro b hb; rw [(List.mem_replicate.mp hb).2]; rfl]
    refine ⟨true, rfl, iteF ?_⟩
    dsimp only [tNext, tRet]
    have s12 := s1.trans s2
    have hL2 : H2 a = some (.lst xs) ∨ H2 a = some (.tup xs) := hL1.imp (s2 _ _) (s2 _ _)
    refine lc_seq (K := K) (a := a) (xs := xs) rfl (seqOf hL2) (fun D i H' => (∀ p o, p ≠ D → H2 p = some o → H' p = some o) ∧ ∃ qs : List Addr, H' D = some (.lst (qs.map V.ref)) ∧ Lk (PlR C H') qs (ps.take i))
      (fun D nD => ⟨fun p o n e => by rw [upd_ne n]; exact e, [], upd_same, by rw [List.take_zero]; exact .nil⟩) (fun D i H' nD hi h => ⟨seqOf (hL2.imp (fun e => h.1 _ _ (ne_of_none e nD) e) (fun e => h.1 _ _ (ne_of_none e nD) e)), fun p o e => h.1 p o (ne_of_none e nD) e⟩) ?_ ?_
    · rintro D nD i x H3 hi ⟨keep, qs, hD, hq⟩ hxi
      obtain ⟨⟨z, k⟩, hy, pv6⟩ := hx.get hxi
      have old : Same H H3 := s12.trans fun p o e => keep p o (ne_of_none e nD) e
      have lq := hq.length
      rw [List.length_take] at lq
      have fin : ∀ (r : Addr) (H4 : Hp), Same H3 H4 → Pl C H4 r z k → ∃ acc, H4 D = some (.lst acc) ∧ acc.length < sizeLine ∧ (∀ b o, b ≠ D → H2 b = some o → upd H4 D (.lst (acc ++ [V.ref r])) b = some o) ∧ ∃ qs : List Addr, upd H4 D (.lst (acc ++ [V.ref r])) D = some (.lst (qs.map V.ref)) ∧ Lk (PlR C (upd H4 D (.lst (acc ++ [V.ref r])))) qs (ps.take (i + 1)) := by
        intro r H4 s4 pr
        have hD4 := s4 _ _ hD
        have kp : ∀ {b : Addr} {p : Str × Int} (o : HO), PlR C H4 b p → PlR C (upd H4 D o) b p := fun {b p} o ⟨dx, e⟩ => ⟨dx, by rw [upd_ne (fun e2 => by rw [e2, hD4] at e; cases e)]; exact e⟩
        refine ⟨_, hD4, ?_, fun b o n e => by rw [upd_ne n]; exact s4 _ _ (keep b o n e), qs ++ [r], by rw [upd_same, List.map_append]; rfl, ?_⟩
        · rw [List.length_map]
          omega
        · rw [List.take_succ, hy]
          exact (hq.imp fun _ _ x => kp _ (x.same s4)).append (Lk.one (kp _ pr))
      refine ⟨rfl, yesT ?_⟩
      unfold tW
      refine ⟨rfl, _, rfl, x, rfl, ?_⟩
      rcases pv6.same old with ⟨r, rfl, pr⟩ | ⟨np, ev⟩
      · exact .inl ⟨r, z, k, rfl, pr, fin r H3 (Same.refl _) pr⟩
      · refine .inr ⟨np, fun z2 k2 e p H4 n4 sm pp g => ?_, fun e d H4 n4 sm hd => ?_⟩
        · rw [ev] at e
          cases e
          exact fin p H4 sm pp
        · rw [ev] at e
          cases e
    rintro D H3 nD ⟨keep, qs, hD, hq⟩
    rw [List.take_of_length_le (by omega)] at hq
    exact q D qs H3 (s12.trans fun p o e => keep p o (ne_of_none e nD) e) (s12.free nD) hD hq

end
end Mz
set_option Elab.async false
set_option linter.all false
set_option maxRecDepth 100000
set_option maxHeartbeats 4000000
/-! kinds are equal just where pairs are alike -/
namespace Mz
open PySem PySem.Spec PyProof.Rows L2
/-- what the law compares, of two lists of values side by side -/
def LikeP (l : List (Int × Int)) (p q : Int) : Prop := ∀ u ∈ l, ∀ v ∈ l, (u.1 < v.1 ↔ u.2 < v.2) ∧ (u.1 / p = v.1 / p ↔ u.2 / q = v.2 / q) ∧ ((u.1 - 1) / p = v.1 / p ↔ (u.2 - 1) / q = v.2 / q)
theorem ranks_at {ys zs xs us : List Int} (len : xs.length = us.length) : ranksL ys xs = ranksL zs us ↔ ∀ i, i < xs.length → K11.rank ys (xs.getD i 0) = K11.rank zs (us.getD i 0) := by
  constructor
  · intro h i hi
    have h2 : (ranksL ys xs)[i]? = (ranksL zs us)[i]? := by rw [h]
    unfold ranksL at h2
    rw [List.getElem?_map, List.getElem?_map, List.getElem?_eq_getElem hi, List.getElem?_eq_getElem (by omega)] at h2
    have h3 : ((K11.rank ys xs[i] : Nat) : Int) = ((K11.rank zs (us[i]'(by omega)) : Nat) : Int) := by simpa using h2
    rw [List.getD_eq_getElem?_getD, List.getD_eq_getElem?_getD, List.getElem?_eq_getElem hi, List.getElem?_eq_getElem (by omega)]
    exact Int.ofNat_inj.mp h3
  · intro h
    unfold ranksL
    refine List.ext_getElem (by rw [List.length_map, List.length_map, len]) fun i h1 h2 => ?_
    rw [List.length_map] at h1 h2
    have := h i h1
    rw [List.getD_eq_getElem?_getD, List.getD_eq_getElem?_getD, List.getElem?_eq_getElem h1, List.getElem?_eq_getElem h2] at this
    rw [List.getElem_map, List.getElem_map]
    exact congrArg _ this
theorem mem_at {xs : List Int} {z : Int} : z ∈ xs ↔ ∃ i, i < xs.length ∧ xs.getD i 0 = z := by
  constructor
  · intro h
    obtain ⟨i, hi, e⟩ := List.getElem_of_mem h
    exact ⟨i, hi, by rw [List.getD_eq_getElem?_getD, List.getElem?_eq_getElem hi]; exact e⟩
  · rintro ⟨i, hi, e⟩
    rw [List.getD_eq_getElem?_getD, List.getElem?_eq_getElem hi] at e
    rw [← e]
    exact List.getElem_mem hi
theorem asc_of {ys xs : List Int} (h : ys.Pairwise (· < ·)) (m : ∀ z, z ∈ ys ↔ z ∈ xs) : K11.Asc ys xs.length (fun i => xs.getD i 0) := ⟨h, fun z => (m z).trans mem_at⟩
theorem pages_len {pg : Int} {xs : List Int} : (pagesL pg xs).length = xs.length + xs.length := by
  unfold pagesL
  rw [List.length_append, List.length_map, List.length_map]
theorem pages_at {pg : Int} {xs : List Int} {i : Nat} (hi : i < xs.length + xs.length) : (pagesL pg xs).getD i 0 = K11.pgs xs.length pg (fun i => xs.getD i 0) i := by
  unfold pagesL K11.pgs
  rw [List.getD_eq_getElem?_getD]
  by_cases h : i < xs.length
  · rw [if_pos h, List.getElem?_append_left (by rw [List.length_map]; exact h), List.getElem?_map, List.getElem?_eq_getElem h]
    show xs[i] / pg = xs.getD i 0 / pg
    rw [List.getD_eq_getElem?_getD, List.getElem?_eq_getElem h]
    rfl
  · rw [if_neg h, List.getElem?_append_right (by rw [List.length_map]; omega), List.length_map, List.getElem?_map, List.getElem?_eq_getElem (show i - xs.length < xs.length by omega)]
    show (xs[i - xs.length] - 1) / pg = (xs.getD (i - xs.length) 0 - 1) / pg
    rw [List.getD_eq_getElem?_getD, List.getElem?_eq_getElem (show i - xs.length < xs.length by omega)]
    rfl
theorem like_pairs {l : List (Int × Int)} {p q : Int} : LikeP l p q ↔ K11.Like l.length p q (fun i => (l.map Prod.fst).getD i 0) (fun i => (l.map Prod.snd).getD i 0) := by
  have at1 : ∀ {i : Nat} (hi : i < l.length), (l.map Prod.fst).getD i 0 = (l[i]'hi).1 ∧ (l.map Prod.snd).getD i 0 = (l[i]'hi).2 := fun {i} hi => by
    rw [List.getD_eq_getElem?_getD, List.getD_eq_getElem?_getD, List.getElem?_map, List.getElem?_map, List.getElem?_eq_getElem hi]
    exact ⟨rfl, rfl⟩
  constructor
  · intro h i j hi hj
    dsimp only
    rw [(at1 hi).1, (at1 hi).2, (at1 hj).1, (at1 hj).2]
    exact h _ (List.getElem_mem hi) _ (List.getElem_mem hj)
  · intro h u hu v hv
    obtain ⟨i, hi, rfl⟩ := List.getElem_of_mem hu
    obtain ⟨j, hj, rfl⟩ := List.getElem_of_mem hv
    have := h i j hi hj
    dsimp only at this
    rw [(at1 hi).1, (at1 hi).2, (at1 hj).1, (at1 hj).2] at this
    exact this
/-- the ranks of values and pages are those of the other side just where all pairs are alike -/
theorem kinds_pairs {l : List (Int × Int)} {p q : Int} {ys zs us vs : List Int} (hp : 0 < p) (hq : 0 < q) (hy : ys.Pairwise (· < ·)) (my : ∀ z, z ∈ ys ↔ z ∈ l.map Prod.fst) (hz : zs.Pairwise (· < ·)) (mz : ∀ z, z ∈ zs ↔ z ∈ l.map Prod.snd)
    (hu : us.Pairwise (· < ·)) (mu : ∀ z, z ∈ us ↔ z ∈ pagesL p (l.map Prod.fst)) (hv : vs.Pairwise (· < ·)) (mv : ∀ z, z ∈ vs ↔ z ∈ pagesL q (l.map Prod.snd)) :
    (ranksL ys (l.map Prod.fst) = ranksL zs (l.map Prod.snd) ∧ ranksL us (pagesL p (l.map Prod.fst)) = ranksL vs (pagesL q (l.map Prod.snd))) ↔ LikeP l p q := by
  have l1 : (l.map Prod.fst).length = l.length := List.length_map _
  have l2 : (l.map Prod.snd).length = l.length := List.length_map _
  have a1 := asc_of hy my
  have a2 := asc_of hz mz
  have a3 : K11.Asc us (l.length + l.length) (K11.pgs l.length p (fun i => (l.map Prod.fst).getD i 0)) := ⟨hu, fun z => by
    rw [mu z, mem_at, pages_len, l1]
    constructor
    · rintro ⟨i, hi, e⟩
      exact ⟨i, hi, by rw [← e, pages_at (by omega), l1]⟩
    · rintro ⟨i, hi, e⟩
      exact ⟨i, hi, by rw [← e, pages_at (by omega), l1]⟩⟩
  have a4 : K11.Asc vs (l.length + l.length) (K11.pgs l.length q (fun i => (l.map Prod.snd).getD i 0)) := ⟨hv, fun z => by
    rw [mv z, mem_at, pages_len, l2]
    constructor
    · rintro ⟨i, hi, e⟩
      exact ⟨i, hi, by rw [← e, pages_at (by omega), l2]⟩
    · rintro ⟨i, hi, e⟩
      exact ⟨i, hi, by rw [← e, pages_at (by omega), l2]⟩⟩
  rw [l1] at a1
  rw [l2] at a2
  rw [like_pairs, ← K11.kinds_iff hp hq a1 a2 a3 a4, ranks_at (by rw [l1, l2]), ranks_at (by rw [pages_len, pages_len, l1, l2]), pages_len, l1]
  constructor
  · rintro ⟨h1, h2⟩
    refine ⟨h1, fun i hi => ?_⟩
    have := h2 i hi
    rw [pages_at (by omega), pages_at (by omega), l1, l2] at this
    exact this
  · rintro ⟨h1, h2⟩
    refine ⟨h1, fun i hi => ?_⟩
    rw [pages_at (by omega), pages_at (by omega), l1, l2]
    exact h2 i hi
end Mz
set_option Elab.async false
set_option linter.all false
set_option maxRecDepth 100000
set_option maxHeartbeats 4000000
/-! same_kind -/
namespace Mz
open PySem PySem.Spec PyProof.Rows L2
theorem of_pv6 {K : PySem.W.Frag} {C cX : Addr} {H : Hp} {v : V} {z : Str} {k : Int} {Q : VK} {E : XK} (pv : Pv6 K C H v z k) (q : ∀ (r : Addr) (H' : Hp), Same H H' → Pl C H' r z k → Q (.ref r) H') : spOf K C cX [.ref C, v] H Q E := by
  refine ⟨v, rfl, ?_⟩
  rcases pv with ⟨r, rfl, pr⟩ | ⟨np, ev⟩
  · exact .inl ⟨r, z, k, rfl, pr, q r H (Same.refl _) pr⟩
  · refine .inr ⟨np, fun z2 k2 e p H4 n4 sm pp g => ?_, fun e d H4 n4 sm hd => ?_⟩
    · rw [ev] at e
      cases e
      exact q p H4 sm pp
    · rw [ev] at e
      cases e
/-- ranks as data -/
def kdD (a b : List Int) : PyData := .tuple [.tuple (a.map PyData.int), .tuple (b.map PyData.int)]
theorem eqv_ints : ∀ xs ys : List Int, PyData.eqvAll (xs.map PyData.int) (ys.map PyData.int) = decide (xs = ys)
  | [], [] => rfl
  | x :: xs, y :: ys => by
    show ((x == y) && PyData.eqvAll (xs.map PyData.int) (ys.map PyData.int)) = _
    rw [eqv_ints xs ys, Bool.eq_iff_iff, Bool.and_eq_true, beq_iff_eq, decide_eq_true_eq, decide_eq_true_eq, List.cons.injEq]
  | [], _ :: _ => rfl
  | _ :: _, [] => rfl
theorem eqv_kd (a b c d : List Int) : PyData.eqv (kdD a b) (kdD c d) = decide (a = c ∧ b = d) := by
  show (PyData.eqvAll (a.map PyData.int) (c.map PyData.int) && (PyData.eqvAll (b.map PyData.int) (d.map PyData.int) && true)) = _
  rw [eqv_ints, eqv_ints, Bool.and_true, Bool.eq_iff_iff, Bool.and_eq_true, decide_eq_true_eq, decide_eq_true_eq, decide_eq_true_eq]
theorem ints_lay : ∀ xs : List Int, PyData.canLayAll0 (xs.map PyData.int) = true ∧ PyData.depthAll (xs.map PyData.int) ≤ 1
  | [] => ⟨rfl, by decide⟩
  | x :: xs => by
    obtain ⟨h1, h2⟩ := ints_lay xs
    rw [List.map_cons]
    refine ⟨?_, ?_⟩
    · simp [PyData.canLayAll0, PyData.canLay0, h1]
    · simp [PyData.depthAll, PyData.depth]
      omega
theorem shaped_kd (a b : List Int) : SeqAt.shaped (kdD a b) = true := by
  obtain ⟨h1, h2⟩ := ints_lay a
  obtain ⟨h3, h4⟩ := ints_lay b
  unfold SeqAt.shaped kdD
  rw [Bool.and_eq_true, decide_eq_true_eq]
  refine ⟨?_, ?_⟩
  · simp [PyData.canLayAll0, PyData.canLay0, h1, h3]
  · simp [PyData.depthAll, PyData.depth]
    omega
theorem dp_ints {K : PySem.W.Frag} {H : Hp} : ∀ xs : List Int, DpAll K H (xs.map V.int) (xs.map PyData.int)
  | [] => .nil
  | x :: xs => .cons (.int _) (dp_ints xs)
theorem dp_kd {K : PySem.W.Frag} {H : Hp} {p p1 p2 : Addr} {a b : List Int} (h : H p = some (.tup [.ref p1, .ref p2])) (h1 : H p1 = some (.tup (a.map V.int))) (h2 : H p2 = some (.tup (b.map V.int))) : Dp K H (.ref p) (kdD a b) :=
  .tup (SqT.of h) (.cons (.tup (SqT.of h1) (dp_ints a)) (.cons (.tup (SqT.of h2) (dp_ints b)) .nil))
/-- a setting that may be asked for places -/
def StQ (S : Addr) (H : Hp) (s : Addr) (kvs : List (Key × V)) (pg : Int) (ps : List (Str × Int)) : Prop := Stg S H s kvs pg ∧ KInt kvs ∧ 0 < pg ∧ pg.natAbs.log2 < 9000 ∧ ∀ p ∈ ps, ∃ n, wtK kvs p.1 p.2 = some n
theorem StQ.same {S s : Addr} {H H' : Hp} {kvs : List (Key × V)} {pg : Int} {ps : List (Str × Int)} (k : Same H H') (h : StQ S H s kvs pg ps) : StQ S H' s kvs pg ps := ⟨h.1.same k, h.2⟩
/-- the values of places at both, and 0 -/
def sideV (kvs ls : List (Key × V)) (ps : List (Str × Int)) : List (Int × Int) := ps.map (fun p => (wtP kvs p, wtP ls p)) ++ [(0, 0)]
instance (l : List (Int × Int)) (p q : Int) : Decidable (LikeP l p q) := by unfold LikeP; infer_instance
def spSame (K : PySem.W.Frag) (S C : Addr) : Sp := fun vs H Q _ => ∃ (s1 s2 a : Addr) (xs : List V) (ps : List (Str × Int)) (kvs ls : List (Key × V)) (pg qg : Int), vs = [.ref s1, .ref s2, .ref a] ∧ StQ S H s1 kvs pg ps ∧ StQ S H s2 ls qg ps ∧
  (H a = some (.lst xs) ∨ H a = some (.tup xs)) ∧ Lk (fun v (p : Str × Int) => Pv6 K C H v p.1 p.2) xs ps ∧ ps.length ≤ 14 ∧ (∀ p ∈ ps, Sm 1000 p.1) ∧ ∀ H', Same H H' → Q (.bl (decide (LikeP (sideV kvs ls ps) pg qg))) H'
section
variable {P : Program} {w : World} {K : PySem.W.Frag} {mg : Str → Option Value} {base : Heap}
theorem scSame : FnScope ["one", "other", "places", "setting", "placed", "item", "unknowns"] ["one", "other", "places"] (defScope sSameKind) := ⟨rfl, rfl, rfl, by decide +kernel, rfl, by decide +kernel, by decide +kernel⟩
theorem ok_same {f fP fU fH fKO fO C S cX po : Addr} {fd fdP fdU fdH fdK fdO : FuncData} (F : Fun K "same_kind" "same_kind" sSameKind f fd) (D : Blp mg) (Z : Cpl K mg C) (O : OfM P w K mg base C cX po fO fdO) (T : Scl K mg S) (Y : Pty K S)
    (GPl : D1 P w K mg base "_placed" 7 ["places"] (spPlaced14 K C) fP fdP) (GU : D1 P w K mg base "unknowns_of" 3 ["places"] (spUnkOf K C) fU fdU) (GH : D1 P w K mg base "has_sizes" 2 ["setting", "unknowns"] (spHasSizes K S) fH fdH) (GKO : D1 P w K mg base "kind_of" 8 ["setting", "places"] (spKindOf K S C) fKO fdK) :
    FnOk P w K mg base CX0 9 f fd ["one", "other", "places"] (spSame K S C) := by
  refine F.ok scSame (fun vs H Q E h => ?_) (fun cdv A outer s H vs Q E hr h => ?_)
  · obtain ⟨s1, s2, a, xs, ps, kvs, ls, pg, qg, rfl, _⟩ := h
    rfl
  · obtain ⟨sa, sb, a, xs, ps, kvs, ls, pg, qg, rfl, hA, hB, hL, hx, hn, hsm, q⟩ := h
    have nd := scSame.nd
    have hr2 : Room 2 _ := hr.mono (by decide)
    have hr3 : Room 3 _ := hr.mono (by decide)
    have hr5 : Room 5 _ := hr.mono (by decide)
    have hr7 : Room 7 _ := hr.mono (by decide)
    refine ⟨_, (pss_cons (ps_for PassesOwn.never rfl (pi_tup (pe_tup (pa_cons (pv 0) (pa_cons (pv 1) pa_nil)))) (pg_name (i := 3) nd rfl (Or.inl rfl)) (pss_one (ps_if (pt_not (pt_val (pe_callB call_isi (by rfl) D.isi (by decide +kernel) (pa_cons (pv 3) (pa_cons (pe_glob (v := .ref S) rfl T.mgS rfl) pa_nil))))) pss_never pss_nil)))
      (pss_cons (ps_set (i := 4) nd rfl (Or.inl rfl) (pe_call GPl.ok hr7 (by rfl) GPl.m GPl.k GPl.b .nil pass0 (pa_cons (pv 2) pa_nil)))
      (pss_cons (ps_for PassesOwn.never rfl (pi_seq K (pv 2)) (pg_name (i := 5) nd rfl (Or.inl rfl)) (pss_cons (ps_set (i := 6) nd rfl (Or.inl rfl) (pe_call GU.ok hr3 (by rfl) GU.m GU.k GU.b .nil pass0 (pa_cons (pe_lst (pa_cons (pe_cmethS (ES := fun _ => E0) (pe_glob (v := .ref C) rfl Z.mgC rfl) O.rd O.met O.ok hr5 O.b (fun σ => pass_no) (pa_cons (pv 5) pa_nil)) pa_nil)) pa_nil)))
      (pss_one (ps_if (PW.pt (pw_or (pt_not (pt_val (pe_call GH.ok hr2 (by rfl) GH.m GH.k GH.b .nil pass0 (pa_cons (pv 0) (pa_cons (pv 6) pa_nil))))) (pw_or1 (pt_not (pt_val (pe_call GH.ok hr2 (by rfl) GH.m GH.k GH.b .nil pass0 (pa_cons (pv 1) (pa_cons (pv 6) pa_nil)))))))) pss_never pss_nil))))
      (pss_one (ps_ret (pe_cmpR (op_eqD hr.units) (pe_call GKO.ok hr (by rfl) GKO.m GKO.k GKO.b .nil pass0 (pa_cons (pv 0) (pa_cons (pv 4) pa_nil))) (pe_call GKO.ok hr (by rfl) GKO.m GKO.k GKO.b .nil pass0 (pa_cons (pv 1) (pa_cons (pv 4) pa_nil))) (nomark _))))))), ?_⟩
    have lx := hx.length
    refine ⟨_, rfl, _, rfl, (by show 2 ≤ sizeLine; decide), fun p1 n1 => ?_⟩
    have z1 : Same H (upd H p1 (.tup [.ref sa, .ref sb])) := same_nw n1
    have t1 : upd H p1 (.tup [.ref sa, .ref sb]) p1 = some (.tup [.ref sa, .ref sb]) := upd_same
    generalize upd H p1 (.tup [.ref sa, .ref sb]) = H1 at z1 t1
    refine ⟨p1, rfl, ⟨_, SqT.of t1⟩, for_it (walk_tup (xs := [V.ref sa, V.ref sb])) (fun _ σ H' => ∃ v3 : Option V, σ = [some (.ref sa), some (.ref sb), some (.ref a), v3, none, none, none] ∧ H' = H1) ⟨none, rfl, rfl⟩ (fun i σ H' _ ⟨_, _, e⟩ => by rw [e]; exact SqT.of t1) ?_ ?_⟩
    · rintro i x σ G1 G2 hi ⟨v3, rfl, rfl⟩ ⟨rfl, hx⟩
      have st : ∃ (s0 : Addr) (kvs0 : List (Key × V)) (pg0 : Int), x = .ref s0 ∧ Stg S G2 s0 kvs0 pg0 := by
        match i, hx with
        | 0, hx =>
          cases hx
          exact ⟨sa, kvs, pg, rfl, hA.1.same z1⟩
        | 1, hx =>
          cases hx
          exact ⟨sb, ls, qg, rfl, hB.1.same z1⟩
        | _ + 2, hx => exact absurd hi (by show ¬ _ < 2; omega)
      obtain ⟨s0, kvs0, pg0, rfl, dx, d, e1, e2⟩ := st
      exact ⟨_, rfl, .ref s0, .ref S, .ref S, .ref S, true, rfl, .own S, .base (.ins e1 Y.cl Y.ha Y.hn Y.htk Y.hm), kit_self, true, rfl, iteF ⟨_, rfl, rfl⟩⟩
    rintro σ G ⟨v3, rfl, rfl⟩
    have hL1 := hL.imp (z1 a _) (z1 a _)
    refine ⟨_, rfl, a, xs, ps, rfl, hL1, hx.imp fun _ _ y => y.same z1, hn, fun pl qs H2 z2 n2 hpl hqs => ?_⟩
    have z12 := z1.trans z2
    have hL2 := hL1.imp (z2 a _) (z2 a _)
    dsimp only [gName, tSeq, List.set]
    refine for_seq (K := K) (a := a) (xs := xs) rfl (hL2.imp SqL.of SqT.of) (fun _ σ H' => ∃ v5 v6 : Option V, σ = [some (.ref sa), some (.ref sb), some (.ref a), v3, some (.ref pl), v5, v6] ∧ Same H2 H') ⟨_, _, rfl, Same.refl H2⟩ (fun i σ' H' _ h => by obtain ⟨_, _, _, z⟩ := h; exact z) ?_ ?_
    · rintro i x σ' G hxi ⟨v5, v6, rfl, z3⟩
      obtain ⟨⟨z, k⟩, hy, pv6⟩ := hx.get hxi
      have hmem : (z, k) ∈ ps := List.mem_of_getElem? hy
      generalize hDE : ({ nx := _, rt := _, bk := _, ct := _ } : Ends) = DE
      have enx : ∀ σ' H', (∃ v5 v6 : Option V, σ' = [some (.ref sa), some (.ref sb), some (.ref a), v3, some (.ref pl), v5, v6] ∧ Same H2 H') → DE.nx σ' H' := fun σ' H' h => by
        rw [← hDE]
        exact h
      clear hDE
      have z13 := z12.trans z3
      refine ⟨rfl, _, rfl, ?_⟩
      dsimp only [tNil]
      refine of_pv6 (pv6.same z13) fun r G2 z4 pr => ?_
      refine ⟨(by show 1 ≤ sizeLine; decide), fun pu nu => ?_⟩
      have z5 : Same G2 (upd G2 pu (.lst [.ref r])) := same_nw nu
      have t5 : upd G2 pu (.lst [.ref r]) pu = some (.lst [.ref r]) := upd_same
      generalize upd G2 pu (.lst [.ref r]) = G3 at z5 t5
      have pr3 : PlR C G3 r (z, k) := by
        obtain ⟨dx, e⟩ := pr
        exact ⟨dx, z5 _ _ e⟩
      refine ⟨pu, [r], [(z, k)], rfl, SqL.of t5, Lk.one pr3, (by show 1 < 60; decide), fun py ys G4 z6 n6 hys unk => ?_⟩
      have only : ∀ y ∈ ys, y = z ∧ z ≠ "" := fun y my => by
        obtain ⟨h1, k2, h2⟩ := (unk.2.2 y).mp my
        have h3 := List.mem_singleton.mp h2
        have h4 : y = z := congrArg Prod.fst h3
        exact ⟨h4, by rw [← h4]; exact h1⟩
      have few : ys.length ≤ 100 := Nat.le_trans (K11.nodup_le ys [z] unk.2.1 fun y my => List.mem_singleton.mpr (only y my).1) (by show 1 ≤ 100; decide)
      have smy : ∀ y ∈ ys, Sm 1000 y := fun y my => by
        rw [(only y my).1]
        exact hsm _ hmem
      have allOf : ∀ {G' : Hp} {t : Addr} {ks : List (Key × V)} {g : Int}, StQ S G' t ks g ps → (ys.all fun y => (valV ks (.inr y)).isSome) = true := fun {G' t ks g} h => by
        rw [List.all_eq_true]
        intro y my
        obtain ⟨rfl, ne⟩ := only y my
        obtain ⟨n, hn2⟩ := h.2.2.2.2 _ hmem
        unfold wtK at hn2
        rw [if_neg ne] at hn2
        cases hv : valV ks (.inr y) with
        | none =>
          rw [hv] at hn2
          cases hn2
        | some v => rfl
      have z16 : Same H G4 := z13.trans (z4.trans (z5.trans z6))
      refine ⟨_, rfl, _, rfl, sa, py, kvs, pg, ys, rfl, (hA.same z16).1, SqL.of hys, smy, few, fun G5 z7 => ?_⟩
      rw [allOf hA]
      refine ⟨true, rfl, iteF ?_⟩
      refine ⟨_, rfl, _, rfl, sb, py, ls, qg, ys, rfl, (hB.same (z16.trans z7)).1, SqL.of (z7 _ _ hys), smy, few, fun G6 z8 => ?_⟩
      rw [allOf hB]
      refine ⟨true, rfl, iteF ?_⟩
      exact enx _ _ ⟨_, _, rfl, z3.trans (z4.trans (z5.trans (z6.trans (z7.trans z8))))⟩
    rintro σ' G ⟨v5, v6, rfl, z3⟩
    have z13 := z12.trans z3
    have hq3 : Lk (PlR C G) qs ps := hqs.imp fun _ _ y => y.same z3
    have A3 := hA.same z13
    have B3 := hB.same z13
    refine ⟨_, rfl, _, rfl, sa, pl, qs, ps, kvs, pg, rfl, A3.1, A3.2.1, A3.2.2.1, A3.2.2.2.1, SqL.of (z3 _ _ hpl), hq3, by omega, A3.2.2.2.2, fun k1 G2 z4 n4 hk1 => ?_⟩
    have B4 := B3.same z4
    refine ⟨_, rfl, _, rfl, sb, pl, qs, ps, ls, qg, rfl, B4.1, B4.2.1, B4.2.2.1, B4.2.2.2.1, SqL.of (z4 _ _ (z3 _ _ hpl)), hq3.imp fun _ _ y => y.same z4, by omega, B4.2.2.2.2, fun k2 G3 z5 n5 hk2 => ?_⟩
    obtain ⟨c1, c2, ys, us, e1, e2, e3, a1, m1, a2, m2⟩ := hk1
    obtain ⟨d1, d2, zs, vs, f1, f2, f3, b1, l1, b2, l2⟩ := hk2
    refine ⟨_, _, dp_kd (z5 _ _ e1) (z5 _ _ e2) (z5 _ _ e3), dp_kd f1 f2 f3, shaped_kd _ _, shaped_kd _ _, ?_⟩
    have w1 : (sideV kvs ls ps).map Prod.fst = ps.map (wtP kvs) ++ [0] := by
      unfold sideV
      rw [List.map_append, List.map_map]
      rfl
    have w2 : (sideV kvs ls ps).map Prod.snd = ps.map (wtP ls) ++ [0] := by
      unfold sideV
      rw [List.map_append, List.map_map]
      rfl
    rw [← w1] at m1 m2 ⊢
    rw [← w2] at l1 l2 ⊢
    rw [eqv_kd, decide_eq_decide.mpr (kinds_pairs hA.2.2.1 hB.2.2.1 a1 m1 b1 l1 a2 m2 b2 l2)]
    exact q G3 (z13.trans (z4.trans z5))

end
end Mz
set_option Elab.async false
set_option linter.all false
set_option maxRecDepth 100000
set_option maxHeartbeats 4000000
/-! sizes that are drawn -/
namespace Mz
open PySem PySem.Spec PyProof.Rows L2
theorem Bx.off {H : Hp} {b p : Addr} {n : Nat} {o : HO} (B : Bx H b n) (e : H p = some o) (h : ∀ x y z : Int, o ≠ .lst [.int x, .int y, .int z]) : p ≠ b := by
  obtain ⟨x, y, z, hb, _⟩ := B
  intro e2
  rw [e2, hb] at e
  cases e
  exact h _ _ _ rfl
theorem Kp.free {b q : Addr} {H G : Hp} (kp : Kp b H G) (nq : q ≠ b) (e : G q = none) : H q = none := by
  cases x : H q with
  | none => rfl
  | some o =>
    rw [kp q o nq x] at e
    cases e
theorem Bx.new {G : Hp} {b p : Addr} {m : Nat} (hb : Bx G b m) (hp : G p = none) : p ≠ b := by
  obtain ⟨_, _, _, e, _⟩ := hb
  exact (ne_of_none e hp).symm
def spMuch : Sp := fun vs H Q _ => ∃ (b : Addr) (n : Nat), vs = [.ref b] ∧ Bx H b n ∧ n ≤ 900000 ∧ ∀ (i : Int) (H' : Hp), 1 ≤ i → i < 10 ^ 16 → Bx H' b (n + 3) → Kp b H H' → Q (.int i) H'
def spSizePair : Sp := fun vs H Q _ => ∃ (b : Addr) (n : Nat) (pg : Int), vs = [.ref b, .int pg] ∧ Bx H b n ∧ n ≤ 900000 ∧ 1 ≤ pg ∧ pg < 10 ^ 17 ∧
  ∀ (p : Addr) (x y : Int) (H' : Hp), 0 ≤ x → x < 10 ^ 50 → 0 ≤ y → y < 10 ^ 50 → Bx H' b (n + 12) → Kp b H H' → H p = none → H' p = some (.lst [.int x, .int y]) → Q (.ref p) H'
section
variable {P : Program} {w : World} {K : PySem.W.Frag} {mg : Str → Option Value} {base : Heap}
theorem scMuch : FnScope ["_law_box_here"] ["_law_box_here"] (defScope sMuch) := ⟨rfl, rfl, rfl, by decide +kernel, rfl, by decide +kernel, by decide +kernel⟩
theorem ok_much {f f1 : Addr} {fd fd1 : FuncData} (F : Fun K "_law_much" "_law_much" sMuch f fd) (T : Tk P w K mg base f1 fd1) : FnOk P w K mg base CX0 2 f fd ["_law_box_here"] spMuch := by
  refine F.ok scMuch (fun vs H Q E h => ?_) (fun cdv A outer s H vs Q E hr h => ?_)
  · obtain ⟨b, n, rfl, _⟩ := h
    rfl
  · obtain ⟨b, n, rfl, hB, hn, q⟩ := h
    have nd := scMuch.nd
    have hr1 : Room 1 _ := hr.mono (by decide)
    refine ⟨_, (pss_one (ps_ret (pe_ix ix_list (pe_lst (pa_cons pe_int (pa_cons (pe_op op_add pe_int (pe_call T.ok hr1 (by rfl) T.m T.k T.b .nil pass0 (pa_cons (pv 0) (pa_cons pe_int pa_nil)))) (pa_cons pe_int (pa_cons (pe_op op_add (pe_op op_pow pe_int pe_int) (pe_call T.ok hr1 (by rfl) T.m T.k T.b .nil pass0 (pa_cons (pv 0) (pa_cons (pe_op op_pow pe_int pe_int) pa_nil)))) pa_nil))))) (pe_call T.ok hr1 (by rfl) T.m T.k T.b .nil pass0 (pa_cons (pv 0) (pa_cons pe_int pa_nil))) (fun _ _ => rfl)))), ?_⟩
    have e6 : (10 : Int) ^ (6 : Int).toNat = 1000000 := by decide
    have e15 : (10 : Int) ^ (15 : Int).toNat = 1000000000000000 := by decide
    have e16 : (10 : Int) ^ 16 = 10000000000000000 := by decide
    refine ⟨_, rfl, b, n, 90, rfl, hB, by omega, by decide, by decide, fun r0 H1 a0 c0 B1 K1 => ⟨_, _, rfl, rfl, ?_⟩⟩
    refine ⟨_, _, rfl, rfl, ⟨by decide, by decide, by decide⟩, _, rfl, _, _, rfl, rfl, ⟨by decide, by decide, by decide⟩, b, n + 1, _, rfl, B1, by omega, by decide, by decide, fun r1 H2 a1 c1 B2 K2 => ⟨_, _, rfl, rfl, ?_⟩⟩
    refine ⟨(by show 4 ≤ sizeLine; decide), fun p np => ?_⟩
    have t3 : upd H2 p (.lst [.int 32, .int (33 + r0), .int 4096, .int (10 ^ (15 : Int).toNat + r1)]) p = some (.lst [.int 32, .int (33 + r0), .int 4096, .int (10 ^ (15 : Int).toNat + r1)]) := upd_same
    have s3 : Same H2 (upd H2 p (.lst [.int 32, .int (33 + r0), .int 4096, .int (10 ^ (15 : Int).toNat + r1)])) := same_nw np
    generalize upd H2 p (.lst [.int 32, .int (33 + r0), .int 4096, .int (10 ^ (15 : Int).toNat + r1)]) = H3 at t3 s3
    refine ⟨_, rfl, b, n + 2, 4, rfl, B2.same s3, by omega, by decide, by decide, fun r2 H4 a2 c2 B4 K4 => ?_⟩
    obtain ⟨c, hc, hm⟩ := atI_in (l := [V.int 32, V.int (33 + r0), V.int 4096, V.int (10 ^ (15 : Int).toNat + r1)]) (i := r2) a2 c2
    refine ⟨p, _, _, _, rfl, rfl, SqL.of (K4 _ _ (B2.new np) t3), hc, ?_⟩
    have kp : Kp b H H4 := K1.trans (K2.trans ((Kp.same s3).trans K4))
    simp only [List.mem_cons, List.not_mem_nil, or_false] at hm
    rw [e6] at c1
    rcases hm with rfl | rfl | rfl | rfl
    · exact q _ _ (by decide) (by decide) B4 kp
    · exact q _ _ (by omega) (by rw [e16]; omega) B4 kp
    · exact q _ _ (by decide) (by decide) B4 kp
    · exact q _ _ (by rw [e15]; omega) (by rw [e15, e16]; omega) B4 kp
theorem scSizePair : FnScope ["_law_box_here", "_law_much_here", "_law_near", "_law_size", "_law_far", "_law_some"] ["_law_box_here", "_law_much_here"] (defScope sSizePair) := ⟨rfl, rfl, rfl, by decide +kernel, rfl, by decide +kernel, by decide +kernel⟩
theorem ok_sizePair {f f1 : Addr} {fd fd1 : FuncData} (F : Fun K "_law_size_pair" "_law_size_pair" sSizePair f fd) (T : Tk P w K mg base f1 fd1) (B : Blt mg) : FnOk P w K mg base CX0 2 f fd ["_law_box_here", "_law_much_here"] spSizePair := by
  refine F.ok scSizePair (fun vs H Q E h => ?_) (fun cdv A outer s H vs Q E hr h => ?_)
  · obtain ⟨b, n, pg, rfl, _⟩ := h
    rfl
  · obtain ⟨b, n, pg, rfl, hB, hn, g1, g2, q⟩ := h
    have nd := scSizePair.nd
    have hr1 : Room 1 _ := hr.mono (by decide)
    refine ⟨_, (pss_cons (ps_set (i := 2) nd rfl (Or.inl rfl) (pe_ix ix_list (pe_lst (pa_cons (pe_call T.ok hr1 (by rfl) T.m T.k T.b .nil pass0 (pa_cons (pv 0) (pa_cons pe_int pa_nil))) (pa_cons (pe_op op_sub (pe_op op_sub (pv 1) pe_int) (pe_call T.ok hr1 (by rfl) T.m T.k T.b .nil pass0 (pa_cons (pv 0) (pa_cons pe_int pa_nil)))) (pa_cons (pe_op op_add (pe_op op_fdivW (pv 1) pe_int) (pe_call T.ok hr1 (by rfl) T.m T.k T.b .nil pass0 (pa_cons (pv 0) (pa_cons pe_int pa_nil)))) pa_nil)))) (pe_call T.ok hr1 (by rfl) T.m T.k T.b .nil pass0 (pa_cons (pv 0) (pa_cons pe_int pa_nil))) (fun _ _ => rfl)))
      (pss_cons (ps_set (i := 3) nd rfl (Or.inl rfl) (pe_op op_add (pe_op op_mul (pv 1) (pe_ix ix_list (pe_lst (pa_cons (pe_call T.ok hr1 (by rfl) T.m T.k T.b .nil pass0 (pa_cons (pv 0) (pa_cons pe_int pa_nil))) (pa_cons (pe_call T.ok hr1 (by rfl) T.m T.k T.b .nil pass0 (pa_cons (pv 0) (pa_cons (pe_op op_pow pe_int pe_int) pa_nil))) pa_nil))) (pe_call T.ok hr1 (by rfl) T.m T.k T.b .nil pass0 (pa_cons (pv 0) (pa_cons pe_int pa_nil))) (fun _ _ => rfl))) (pe_callB (call_max2 rfl) (by rfl) B.max (by decide +kernel) (pa_cons pe_int (pa_cons (pv 2) pa_nil)))))
      (pss_cons (ps_set (i := 4) nd rfl (Or.inl rfl) (pe_op op_mul (pv 1) (pe_call T.ok hr1 (by rfl) T.m T.k T.b .nil pass0 (pa_cons (pv 0) (pa_cons pe_int pa_nil)))))
      (pss_cons (ps_set (i := 5) nd rfl (Or.inl rfl) (pe_lst (pa_cons (pe_op op_sub (pe_op op_add (pv 3) (pe_call T.ok hr1 (by rfl) T.m T.k T.b .nil pass0 (pa_cons (pv 0) (pa_cons pe_int pa_nil)))) pe_int) (pa_cons (pe_op op_add (pv 4) (pe_call T.ok hr1 (by rfl) T.m T.k T.b .nil pass0 (pa_cons (pv 0) (pa_cons pe_int pa_nil)))) (pa_cons (pe_op op_sub (pe_op op_sub (pe_op op_add (pv 4) (pv 1)) pe_int) (pe_call T.ok hr1 (by rfl) T.m T.k T.b .nil pass0 (pa_cons (pv 0) (pa_cons pe_int pa_nil)))) pa_nil)))))
      (pss_one (ps_ret (pe_lst (pa_cons (pv 3) (pa_cons (pe_callB (call_max2 rfl) (by rfl) B.max (by decide +kernel) (pa_cons pe_int (pa_cons (pe_ix ix_list (pv 5) (pe_call T.ok hr1 (by rfl) T.m T.k T.b .nil pass0 (pa_cons (pv 0) (pa_cons pe_int pa_nil))) (fun _ _ => rfl)) pa_nil))) pa_nil))))))))), ?_⟩
    have e12 : (10 : Int) ^ (12 : Int).toNat = 1000000000000 := by decide
    have e17 : (10 : Int) ^ 17 = 100000000000000000 := by decide
    have e50 : (10 : Int) ^ 50 = 100000000000000000000000000000000000000000000000000 := by decide
    have m64 : (2 : Int) ^ 64 = 18446744073709551616 := by decide
    rw [e17] at g2
    refine ⟨_, rfl, b, n, 10, rfl, hB, by omega, by decide, by decide, fun r0 H1 a0 c0 B1 K1 => ?_⟩
    refine ⟨_, rfl, _, _, rfl, rfl, _, rfl, b, n + 1, 6, rfl, B1, by omega, by decide, by decide, fun r1 H2 a1 c1 B2 K2 => ⟨_, _, rfl, rfl, ?_⟩⟩
    refine ⟨_, rfl, _, _, rfl, rfl, ⟨by decide, by decide⟩, _, rfl, b, n + 2, 5, rfl, B2, by omega, by decide, by decide, fun r2 H3 a2 c2 B3 K3 => ⟨_, _, rfl, rfl, ?_⟩⟩
    refine ⟨(by show 3 ≤ sizeLine; decide), fun p np => ?_⟩
    have s4 : Same H3 (upd H3 p (.lst [.int r0, .int (pg - 1 - r1), .int (pg / 2 + r2)])) := same_nw np
    have t4 : upd H3 p (.lst [.int r0, .int (pg - 1 - r1), .int (pg / 2 + r2)]) p = some (.lst [.int r0, .int (pg - 1 - r1), .int (pg / 2 + r2)]) := upd_same
    generalize upd H3 p (.lst [.int r0, .int (pg - 1 - r1), .int (pg / 2 + r2)]) = H4 at s4 t4
    refine ⟨_, rfl, b, n + 3, 3, rfl, B3.same s4, by omega, by decide, by decide, fun r3 H5 a3 c3 B5 K5 => ?_⟩
    obtain ⟨c, hc, hm⟩ := atI_in (l := [V.int r0, V.int (pg - 1 - r1), V.int (pg / 2 + r2)]) (i := r3) a3 c3
    refine ⟨p, _, _, _, rfl, rfl, SqL.of (K5 _ _ (B3.new np) t4), hc, ?_⟩
    have hw : ∃ w : Int, c = .int w ∧ w < 1000000000000000000 := by
      simp only [List.mem_cons, List.not_mem_nil, or_false] at hm
      rcases hm with rfl | rfl | rfl
      · exact ⟨_, rfl, by omega⟩
      · exact ⟨_, rfl, by omega⟩
      · exact ⟨_, rfl, by omega⟩
    obtain ⟨w, rfl, hw⟩ := hw
    have k5 : Kp b H H5 := K1.trans (K2.trans (K3.trans ((Kp.same s4).trans K5)))
    -- the first size
    refine ⟨_, rfl, _, rfl, b, n + 4, 4, rfl, B5, by omega, by decide, by decide, fun r4 H6 a4 c4 B6 K6 => ?_⟩
    refine ⟨_, rfl, _, _, rfl, rfl, ⟨by decide, by decide, by decide⟩, b, n + 5, _, rfl, B6, by omega, by decide, by decide, fun r5 H7 a5 c5 B7 K7 => ?_⟩
    rw [e12] at c5
    refine ⟨(by show 2 ≤ sizeLine; decide), fun p2 np2 => ?_⟩
    have s8 : Same H7 (upd H7 p2 (.lst [.int r4, .int r5])) := same_nw np2
    have t8 : upd H7 p2 (.lst [.int r4, .int r5]) p2 = some (.lst [.int r4, .int r5]) := upd_same
    generalize upd H7 p2 (.lst [.int r4, .int r5]) = H8 at s8 t8
    refine ⟨_, rfl, b, n + 6, 2, rfl, B7.same s8, by omega, by decide, by decide, fun r6 H9 a6 c6 B9 K9 => ?_⟩
    obtain ⟨c2, hc2, hm2⟩ := atI_in (l := [V.int r4, V.int r5]) (i := r6) a6 c6
    refine ⟨p2, _, _, _, rfl, rfl, SqL.of (K9 _ _ (B7.new np2) t8), hc2, ?_⟩
    have hw2 : ∃ u : Int, c2 = .int u ∧ 0 ≤ u ∧ u < 1000000000000 := by
      simp only [List.mem_cons, List.not_mem_nil, or_false] at hm2
      rcases hm2 with rfl | rfl
      · exact ⟨_, rfl, by omega, by omega⟩
      · exact ⟨_, rfl, by omega, by omega⟩
    obtain ⟨u, rfl, u0, u1⟩ := hw2
    have k9 : Kp b H H9 := k5.trans (K6.trans (K7.trans ((Kp.same s8).trans K9)))
    refine ⟨_, _, rfl, rfl, .inl ⟨by omega, by omega⟩, ?_⟩
    have b1 : 0 ≤ pg * u := Int.mul_nonneg (by omega) u0
    have b2 : pg * u ≤ 100000000000000000 * 1000000000000 := Int.mul_le_mul (by omega) (by omega) u0 (by decide)
    refine ⟨_, rfl, _, _, rfl, _, _, rfl, rfl, ?_⟩
    have hX : 0 ≤ pg * u + (if w > 0 then w else 0) ∧ pg * u + (if w > 0 then w else 0) ≤ 100000000000000000000000000001000000000000000000 := by
      split <;> omega
    -- another one
    refine ⟨_, rfl, _, rfl, b, n + 7, 5, rfl, B9, by omega, by decide, by decide, fun r7 H10 a7 c7 B10 K10 => ⟨_, _, rfl, rfl, .inl ⟨by omega, by omega⟩, ?_⟩⟩
    have b3 : 0 ≤ pg * r7 := Int.mul_nonneg (by omega) a7
    have b4 : pg * r7 ≤ 100000000000000000 * 5 := Int.mul_le_mul (by omega) (by omega) a7 (by decide)
    refine ⟨_, rfl, _, rfl, b, n + 8, 19, rfl, B10, by omega, by decide, by decide, fun r8 H11 a8 c8 B11 K11 => ⟨_, _, rfl, rfl, _, _, rfl, rfl, ?_⟩⟩
    refine ⟨_, rfl, _, rfl, b, n + 9, 12, rfl, B11, by omega, by decide, by decide, fun r9 H12 a9 c9 B12 K12 => ⟨_, _, rfl, rfl, ?_⟩⟩
    refine ⟨_, rfl, _, rfl, _, _, rfl, rfl, _, _, rfl, rfl, _, rfl, b, n + 10, 6, rfl, B12, by omega, by decide, by decide, fun r10 H13 a10 c10 B13 K13 => ⟨_, _, rfl, rfl, ?_⟩⟩
    refine ⟨(by show 3 ≤ sizeLine; decide), fun p3 np3 => ?_⟩
    have s14 : Same H13 (upd H13 p3 (.lst [.int ((pg * u + (if w > 0 then w else 0)) + r8 - 9), .int ((pg * r7) + r9), .int ((pg * r7) + pg - 1 - r10)])) := same_nw np3
    have t14 : upd H13 p3 (.lst [.int ((pg * u + (if w > 0 then w else 0)) + r8 - 9), .int ((pg * r7) + r9), .int ((pg * r7) + pg - 1 - r10)]) p3 = some (.lst [.int ((pg * u + (if w > 0 then w else 0)) + r8 - 9), .int ((pg * r7) + r9), .int ((pg * r7) + pg - 1 - r10)]) := upd_same
    generalize upd H13 p3 (.lst [.int ((pg * u + (if w > 0 then w else 0)) + r8 - 9), .int ((pg * r7) + r9), .int ((pg * r7) + pg - 1 - r10)]) = H14 at s14 t14
    refine ⟨_, rfl, _, rfl, _, rfl, b, n + 11, 3, rfl, B13.same s14, by omega, by decide, by decide, fun r11 H15 a11 c11 B15 K15 => ?_⟩
    obtain ⟨c3, hc3, hm3⟩ := atI_in (l := [V.int ((pg * u + (if w > 0 then w else 0)) + r8 - 9), V.int ((pg * r7) + r9), V.int ((pg * r7) + pg - 1 - r10)]) (i := r11) a11 c11
    refine ⟨p3, _, _, _, rfl, rfl, SqL.of (K15 _ _ (B13.new np3) t14), hc3, ?_⟩
    have hw3 : ∃ v : Int, c3 = .int v ∧ v < 200000000000000000000000000001000000000000000000 := by
      simp only [List.mem_cons, List.not_mem_nil, or_false] at hm3
      rcases hm3 with rfl | rfl | rfl
      · exact ⟨_, rfl, by omega⟩
      · exact ⟨_, rfl, by omega⟩
      · exact ⟨_, rfl, by omega⟩
    obtain ⟨v, rfl, hv⟩ := hw3
    refine ⟨_, _, rfl, (by show 2 ≤ sizeLine; decide), fun pr npr => ?_⟩
    have k15 : Kp b H H15 := k9.trans (K10.trans (K11.trans (K12.trans (K13.trans ((Kp.same s14).trans K15)))))
    have s16 : Same H15 (upd H15 pr (.lst [.int (pg * u + (if w > 0 then w else 0)), .int (if v > 0 then v else 0)])) := same_nw npr
    refine q pr (pg * u + (if w > 0 then w else 0)) (if v > 0 then v else 0) _ hX.1 (by rw [e50]; omega) (by split <;> omega) (by rw [e50]; split <;> omega) (B15.same s16) (k15.trans (Kp.same s16)) (k15.free (B15.new npr) npr) upd_same

end
end Mz
set_option Elab.async false
set_option linter.all false
set_option maxRecDepth 100000
set_option maxHeartbeats 4000000
/-! what the law compares -/
namespace Mz
open PySem PySem.Spec PyProof.Rows L2
theorem ix_tupK {X : Cx} (K : PySem.W.Frag) (hK : X.K = K := by rfl) : IxR X (rIxT K) := by
  subst hK
  exact ix_tup
def PrD (H : Hp) (q : Addr) (p : Str × Int) : Prop := H q = some (.tup [.str p.1, .int p.2])
/-- what is said of two values at a page size -/
def enT (m : Int) (x : Int × Int) : List Bool := [decide (x.1 < x.2), decide (x.1 / m = x.2 / m), decide ((x.1 - 1) / m = x.2 / m)]
def EnR (m : Int) (fl : Addr) (H : Hp) (T : Addr) (x : Int × Int) : Prop := T ≠ fl ∧ H T = some (.tup ((enT m x).map V.bl))
def allP (l : List Int) : List (Int × Int) := l.flatMap fun u => l.map fun v => (u, v)
def lkD (m : Int) (l : List Int) : PyData := .list ((allP l).map fun x => .tuple ((enT m x).map PyData.bool))
theorem dp_en {K : PySem.W.Frag} {H : Hp} {m : Int} {fl : Addr} {Ts : List Addr} {l : List (Int × Int)} (h : Lk (EnR m fl H) Ts l) : DpAll K H (Ts.map V.ref) (l.map fun x => PyData.tuple ((enT m x).map PyData.bool)) := by
  induction h with
  | nil => exact .nil
  | cons h _ ih => exact .cons (.tup (SqT.of h.2) (.cons (.bl _) (.cons (.bl _) (.cons (.bl _) .nil)))) ih
def valD (kvs : List (Key × V)) (p : Str × Int) : Int := (wtD kvs p.1 p.2).getD 0
def spLKind (K : PySem.W.Frag) : Sp := fun vs H Q _ => ∃ (d pl : Addr) (kvs : List (Key × V)) (m : Int) (qs : List Addr) (ps : List (Str × Int)), vs = [.ref d, .int m, .ref pl] ∧ H d = some (.dK kvs) ∧ 0 < m ∧ m.natAbs.log2 < 9000 ∧ SqL K H pl (qs.map V.ref) ∧ Lk (PrD H) qs ps ∧ ps.length ≤ 14 ∧
  (∀ p ∈ ps, ∃ n, wtD kvs p.1 p.2 = some n) ∧ ∀ (p : Addr) (H' : Hp), Same H H' → H p = none → Dp K H' (.ref p) (lkD m (0 :: ps.map (valD kvs))) → Q (.ref p) H'
section
variable {P : Program} {w : World} {K : PySem.W.Frag} {mg : Str → Option Value} {base : Heap}
theorem scLKind : FnScope ["_law_sizes", "_law_much_here", "_law_pairs", "_law_values", "_law_found", "_law_one", "_law_other_here", "_law_same", "_law_pair_here"] ["_law_sizes", "_law_much_here", "_law_pairs"] (defScope sLKind) := ⟨rfl, rfl, rfl, by decide +kernel, rfl, by decide +kernel, by decide +kernel⟩
theorem ok_lkind {f : Addr} {fd : FuncData} (F : Fun K "_law_kind" "_law_kind" sLKind f fd) : FnOk P w K mg base CX0 2 f fd ["_law_sizes", "_law_much_here", "_law_pairs"] (spLKind K) := by
  refine F.ok scLKind (fun vs H Q E h => ?_) (fun cdv A outer s H vs Q E hr h => ?_)
  · obtain ⟨d, pl, kvs, m, qs, ps, rfl, _⟩ := h
    rfl
  · obtain ⟨d, pl, kvs, m, qs, ps, rfl, hd, m0, m9, hL, hq, hn, hw, q⟩ := h
    have nd := scLKind.nd
    have hu := hu_of hr
    refine ⟨_, (pss_cons (ps_set (i := 3) nd rfl (Or.inl rfl) (pe_op op_cat (pe_lst (pa_cons pe_int pa_nil)) (pe_lc (own := [("_law_pair_here", 8)]) (g := gName 8) (tt := tYes) rfl nd (pi_list (pv 2)) (blkOk_by (N := ["_law_sizes", "_law_much_here", "_law_pairs", "_law_values", "_law_found", "_law_one", "_law_other_here", "_law_same", "_law_pair_here"]) (sc := defScope sLKind) (by decide +kernel)) (fun _ _ _ _ _ => (pg_name (i := 8) nd rfl (Or.inl rfl))) (fun _ _ _ _ _ => pts_nil) (fun _ _ _ _ _ => (pe_op op_add (pe_dget2 hu (pv 0) (pe_ix (ix_tupK K) (pv 8) pe_int (fun _ _ => rfl)) pe_int ⟨by rfl, by rfl, by rfl, by rfl⟩) (pe_ix (ix_tupK K) (pv 8) pe_int (fun _ _ => rfl)))))))
      (pss_cons (ps_set (i := 4) nd rfl (Or.inl rfl) (pe_lst pa_nil))
      (pss_cons (ps_for PassesOwn.never rfl (pi_list (pv 3)) (pg_name (i := 5) nd rfl (Or.inl rfl)) (pss_one (ps_for PassesOwn.never rfl (pi_list (pv 3)) (pg_name (i := 6) nd rfl (Or.inl rfl)) (pss_cons (ps_set (i := 7) nd rfl (Or.inl rfl) (pe_cmpR op_eq (pe_op op_fdivW (pv 5) (pv 1)) (pe_op op_fdivW (pv 6) (pv 1)) (nomark _)))
      (pss_one (ps_expr (pe_bm PySem.F.plainAttrs_list PySem.F.slot_list_append PySem.F.type_list_append mt_append (pv 4) (pa_cons (pe_tup (pa_cons (pe_cmpR op_lt (pv 5) (pv 6) (nomark _)) (pa_cons (pv 7) (pa_cons (pe_cmpR op_eq (pe_op op_fdivW (pe_op op_sub (pv 5) pe_int) (pv 1)) (pe_op op_fdivW (pv 6) (pv 1)) (nomark _)) pa_nil)))) pa_nil))))))))
      (pss_one (ps_ret (pv 4)))))), ?_⟩
    have sb : 1000 ≤ sizeLine := by decide
    have lq := hq.length
    refine ⟨(by show 1 ≤ sizeLine; decide), fun p1 n1 => ?_⟩
    have s1 : Same H (upd H p1 (.lst [.int 0])) := same_nw n1
    have t1 : upd H p1 (.lst [.int 0]) p1 = some (.lst [.int 0]) := upd_same
    generalize upd H p1 (.lst [.int 0]) = H1 at s1 t1
    refine ⟨_, rfl, pl, rfl, ⟨_, sqL_keep hL s1⟩, fun D nD => ?_⟩
    refine lc_it (walk_list (xs := qs.map V.ref)) (fun i H' => (∀ p o, p ≠ D → H1 p = some o → H' p = some o) ∧ H' D = some (.lst (((ps.take i).map (valD kvs)).map V.int)))
      ⟨fun p o n e => by rw [upd_ne n]; exact e, by rw [upd_same, List.take_zero]; rfl⟩ (fun i H' _ h => sqL_keep hL fun p o e => h.1 _ _ (ne_of_none (s1 _ _ e) nD) (s1 _ _ e)) ?_ ?_
    · rintro i x G2 G3 hi ⟨keep, hD⟩ ⟨rfl, hx⟩
      rw [List.getElem?_map] at hx
      obtain ⟨r, hr0, rfl⟩ := Option.map_eq_some_iff.mp hx
      obtain ⟨p, hp, pr⟩ := hq.get hr0
      rw [List.length_map] at hi
      have sG : Same H G3 := s1.trans fun p o e => keep p o (ne_of_none e nD) e
      have hp3 : G3 r = some (.tup [.str p.1, .int p.2]) := sG _ _ pr
      obtain ⟨n, hn2⟩ := hw p (List.mem_of_getElem? hp)
      have ev : valD kvs p = n := by
        unfold valD
        rw [hn2]
        rfl
      have hdG := sG _ _ hd
      have fin : ∃ acc, G3 D = some (.lst acc) ∧ acc.length < sizeLine ∧ (∀ p o, p ≠ D → H1 p = some o → upd G3 D (.lst (acc ++ [V.int n])) p = some o) ∧ upd G3 D (.lst (acc ++ [V.int n])) D = some (.lst (((ps.take (i + 1)).map (valD kvs)).map V.int)) := by
        refine ⟨_, hD, ?_, fun p o n e => by rw [upd_ne n]; exact keep p o n e, ?_⟩
        · rw [List.length_map, List.length_map, List.length_take]
          omega
        · rw [upd_same, List.take_succ, hp, List.map_append, List.map_append, ← ev]
          rfl
      refine ⟨rfl, yesT ?_⟩
      refine ⟨_, rfl, d, rfl, .inl ⟨_, .inl hdG⟩, _, rfl, r, _, _, _, rfl, rfl, SqT.of hp3, rfl, _, DGet.k (k := .inr p.1) hdG, ?_⟩
      unfold wtD at hn2
      cases e : valV kvs (.inr p.1) with
      | none =>
        rw [e] at hn2
        cases hn2
        refine ⟨_, rfl, r, _, _, _, rfl, rfl, SqT.of hp3, rfl, _, _, rfl, rfl, ?_⟩
        show ∃ acc, G3 D = some (.lst acc) ∧ acc.length < sizeLine ∧ (∀ p_1 o, p_1 ≠ D → H1 p_1 = some o → upd G3 D (.lst (acc ++ [V.int (0 + p.2)])) p_1 = some o) ∧ upd G3 D (.lst (acc ++ [V.int (0 + p.2)])) D = some (.lst (((ps.take (i + 1)).map (valD kvs)).map V.int))
        rw [Int.zero_add]
        exact fin
      | some v =>
        rw [e] at hn2
        cases v with
        | int i2 =>
          cases hn2
          exact ⟨_, rfl, r, _, _, _, rfl, rfl, SqT.of hp3, rfl, _, _, rfl, rfl, fin⟩
        | _ => cases hn2
    rintro G ⟨keep, hD⟩
    rw [List.length_map, lq, List.take_length] at hD
    have s2 : Same H1 G := fun p o e => keep p o (ne_of_none e nD) e
    refine ⟨p1, D, _, _, rfl, rfl, s2 _ _ t1, hD, ?_, fun pc nc => ?_⟩
    · rw [List.length_map, List.length_map]
      show 1 + ps.length ≤ sizeLine
      omega
    have s3 : Same G (upd G pc (.lst ([.int 0] ++ (ps.map (valD kvs)).map V.int))) := same_nw nc
    have t3 : upd G pc (.lst ([.int 0] ++ (ps.map (valD kvs)).map V.int)) pc = some (.lst ((0 :: ps.map (valD kvs)).map V.int)) := upd_same
    generalize upd G pc (.lst ([.int 0] ++ (ps.map (valD kvs)).map V.int)) = G1 at s3 t3
    have lv : (0 :: ps.map (valD kvs)).length ≤ 15 := by
      rw [List.length_cons, List.length_map]
      omega
    generalize (0 :: ps.map (valD kvs)) = vals at t3 lv q
    refine ⟨(by show 0 ≤ sizeLine; decide), fun fl nfl => ?_⟩
    have t4 : upd G1 fl (.lst []) fl = some (.lst []) := upd_same
    have k4 : ∀ p o, p ≠ fl → G1 p = some o → upd G1 fl (.lst []) p = some o := fun p o n e => by rw [upd_ne n]; exact e
    generalize upd G1 fl (.lst []) = G2 at t4 k4
    have pcfl : pc ≠ fl := ne_of_none t3 nfl
    refine ⟨_, rfl, pc, rfl, ⟨_, SqL.of (k4 _ _ pcfl t3)⟩, for_list (K := K) (a := pc) (xs := vals.map V.int) (fun i σ H' => ∃ v5 v6 v7 v8 : Option V, σ = [some (.ref d), some (.int m), some (.ref pl), some (.ref pc), some (.ref fl), v5, v6, v7, v8] ∧ (∀ p o, p ≠ fl → G1 p = some o → H' p = some o) ∧ ∃ Ts : List Addr, H' fl = some (.lst (Ts.map V.ref)) ∧ Ts.length ≤ 15 * i ∧ Lk (EnR m fl H') Ts ((vals.take i).flatMap fun u => vals.map fun v => (u, v)))
      ⟨_, _, _, _, rfl, k4, [], t4, Nat.zero_le _, by rw [List.take_zero]; exact .nil⟩ (fun i σ H' _ h => by obtain ⟨_, _, _, _, _, k, _⟩ := h; exact SqL.of (k _ _ pcfl t3)) ?_ ?_⟩
    · rintro i x σ G3 hx ⟨v5, v6, v7, v8, rfl, k3, Ts, hT, lT, hk⟩
      rw [List.getElem?_map] at hx
      obtain ⟨u, hux, rfl⟩ := Option.map_eq_some_iff.mp hx
      have li : i < vals.length := (List.getElem?_eq_some_iff.mp hux).1
      have tki : vals.take (i + 1) = vals.take i ++ [u] := by rw [List.take_succ, hux]; rfl
      generalize hDE : ({ nx := _, rt := _, bk := _, ct := _ } : Ends) = DE
      have enx : ∀ σ' H', (∃ v5 v6 v7 v8 : Option V, σ' = [some (.ref d), some (.int m), some (.ref pl), some (.ref pc), some (.ref fl), v5, v6, v7, v8] ∧ (∀ p o, p ≠ fl → G1 p = some o → H' p = some o) ∧ ∃ Ts : List Addr, H' fl = some (.lst (Ts.map V.ref)) ∧ Ts.length ≤ 15 * (i + 1) ∧ Lk (EnR m fl H') Ts ((vals.take (i + 1)).flatMap fun u => vals.map fun v => (u, v))) → DE.nx σ' H' := fun σ' H' h => by
        rw [← hDE]
        exact h
      clear hDE
      refine ⟨_, rfl, pc, rfl, ⟨_, SqL.of (k3 _ _ pcfl t3)⟩, for_list (K := K) (a := pc) (xs := vals.map V.int) (fun j σ H' => ∃ v6 v7 v8 : Option V, σ = [some (.ref d), some (.int m), some (.ref pl), some (.ref pc), some (.ref fl), some (.int u), v6, v7, v8] ∧ (∀ p o, p ≠ fl → G1 p = some o → H' p = some o) ∧ ∃ Ts : List Addr, H' fl = some (.lst (Ts.map V.ref)) ∧ Ts.length ≤ 15 * i + j ∧ Lk (EnR m fl H') Ts (((vals.take i).flatMap fun u => vals.map fun v => (u, v)) ++ (vals.take j).map fun v => (u, v)))
        ⟨_, _, _, rfl, k3, Ts, hT, lT, by rw [List.take_zero, List.map_nil, List.append_nil]; exact hk⟩ (fun i σ H' _ h => by obtain ⟨_, _, _, _, k, _⟩ := h; exact SqL.of (k _ _ pcfl t3)) ?_ ?_⟩
      · rintro j y σ G4 hy ⟨w6, w7, w8, rfl, k5, Us, hU, lU, hk2⟩
        rw [List.getElem?_map] at hy
        obtain ⟨v, hvx, rfl⟩ := Option.map_eq_some_iff.mp hy
        have lj : j < vals.length := (List.getElem?_eq_some_iff.mp hvx).1
        have tkj : vals.take (j + 1) = vals.take j ++ [v] := by rw [List.take_succ, hvx]; rfl
        generalize hDF : ({ nx := _, rt := _, bk := _, ct := _ } : Ends) = DF
        have fnx : ∀ σ' H', (∃ v6 v7 v8 : Option V, σ' = [some (.ref d), some (.int m), some (.ref pl), some (.ref pc), some (.ref fl), some (.int u), v6, v7, v8] ∧ (∀ p o, p ≠ fl → G1 p = some o → H' p = some o) ∧ ∃ Ts : List Addr, H' fl = some (.lst (Ts.map V.ref)) ∧ Ts.length ≤ 15 * i + (j + 1) ∧ Lk (EnR m fl H') Ts (((vals.take i).flatMap fun u => vals.map fun v => (u, v)) ++ (vals.take (j + 1)).map fun v => (u, v))) → DF.nx σ' H' := fun σ' H' h => by
          rw [← hDF]
          exact h
        clear hDF
        have dec : ∀ a b : Int, decide (V.int a = V.int b) = decide (a = b) := fun a b => decide_eq_decide.mpr ⟨fun x => V.int.inj x, fun x => by rw [x]⟩
        refine ⟨_, rfl, _, rfl, _, _, rfl, rfl, ⟨m0, m9⟩, _, rfl, _, rfl, _, _, rfl, rfl, ⟨m0, m9⟩, rfl, ?_⟩
        refine ⟨_, rfl, .inl ⟨rfl, _, SqL.of hU⟩, _, rfl, _, rfl, _, _, rfl, rfl, _, rfl, _, rfl, _, _, rfl, rfl, _, rfl, _, _, rfl, rfl, ⟨m0, m9⟩, _, rfl, _, rfl, _, _, rfl, rfl, ⟨m0, m9⟩, rfl, (by show 3 ≤ sizeLine; decide), fun T nT => ?_⟩
        generalize hG5 : upd G4 T _ = G5
        have s5 : Same G4 G5 := by
          rw [← hG5]
          exact same_nw nT
        have t5 : G5 T = some (.tup ((enT m (u, v)).map V.bl)) := by
          rw [← hG5, upd_same]
          show some (HO.tup [V.bl (decide (u < v)), V.bl (decide (V.int (u / m) = V.int (v / m))), V.bl (decide (V.int ((u - 1) / m) = V.int (v / m)))]) = _
          rw [dec, dec]
          rfl
        clear hG5
        have Tfl : T ≠ fl := (ne_of_none hU nT).symm
        have hU5 := s5 _ _ hU
        refine ⟨fl, _, _, rfl, rfl, hU5, ?_, ?_⟩
        · rw [List.length_map]
          omega
        refine fnx _ _ ⟨_, _, _, rfl, fun p o n e => by rw [upd_ne n]; exact s5 _ _ (k5 p o n e), Us ++ [T], by rw [upd_same, List.map_append]; rfl, by rw [List.length_append]; show Us.length + 1 ≤ _; omega, ?_⟩
        rw [tkj, List.map_append, ← List.append_assoc]
        exact (hk2.imp fun _ _ x => ⟨x.1, by rw [upd_ne x.1]; exact s5 _ _ x.2⟩).append (Lk.one ⟨Tfl, by rw [upd_ne Tfl]; exact t5⟩)
      rintro σ G4 ⟨w6, w7, w8, rfl, k5, Us, hU, lU, hk2⟩
      rw [List.length_map] at lU hk2
      rw [List.take_length] at hk2
      refine enx _ _ ⟨_, _, _, _, rfl, k5, Us, hU, by omega, ?_⟩
      rw [tki, List.flatMap_append]
      show Lk _ _ (_ ++ ([u].flatMap fun u => vals.map fun v => (u, v)))
      rw [List.flatMap_cons, List.flatMap_nil, List.append_nil]
      exact hk2
    rintro σ G3 ⟨v5, v6, v7, v8, rfl, k3, Ts, hT, lT, hk⟩
    rw [List.length_map, List.take_length] at hk
    have s03 := s1.trans (s2.trans s3)
    exact ⟨_, rfl, q fl G3 (fun p o e => k3 p o (ne_of_none (s03 _ _ e) nfl) (s03 _ _ e)) (s03.free nfl) (.lst (SqL.of hT) (dp_en hk))⟩

end
end Mz
set_option Elab.async false
set_option linter.all false
set_option maxRecDepth 100000
set_option maxHeartbeats 4000000
/-! what the law compares is equal just where all pairs are alike -/
namespace Mz
open PySem PySem.Spec PyProof.Rows L2
theorem eqvAll_map2 {α : Type} (f g : α → PyData) : ∀ L : List α, PyData.eqvAll (L.map f) (L.map g) = L.all fun x => PyData.eqv (f x) (g x)
  | [] => rfl
  | x :: L => by
    show (PyData.eqv (f x) (g x) && PyData.eqvAll (L.map f) (L.map g)) = _
    rw [eqvAll_map2 f g L]
    rfl
def enL (m : Int) (x : Int × Int) : PyData := .tuple ((enT m x).map PyData.bool)
theorem eqv_en (p q : Int) (x y : Int × Int) : PyData.eqv (enL p x) (enL q y) = decide ((x.1 < x.2 ↔ y.1 < y.2) ∧ (x.1 / p = x.2 / p ↔ y.1 / q = y.2 / q) ∧ ((x.1 - 1) / p = x.2 / p ↔ (y.1 - 1) / q = y.2 / q)) := by
  have h : ∀ (a b : Prop) [Decidable a] [Decidable b], (PyData.eqv (.bool (decide a)) (.bool (decide b))) = decide (a ↔ b) := fun a b _ _ => by
    by_cases ha : a <;> by_cases hb : b <;> simp [ha, hb] <;> decide +kernel
  show (PyData.eqv (.bool (decide (x.1 < x.2))) (.bool (decide (y.1 < y.2))) && (PyData.eqv (.bool (decide (x.1 / p = x.2 / p))) (.bool (decide (y.1 / q = y.2 / q))) && (PyData.eqv (.bool (decide ((x.1 - 1) / p = x.2 / p))) (.bool (decide ((y.1 - 1) / q = y.2 / q))) && true))) = _
  rw [h, h, h, Bool.and_true, Bool.eq_iff_iff, Bool.and_eq_true, Bool.and_eq_true, decide_eq_true_eq, decide_eq_true_eq, decide_eq_true_eq, decide_eq_true_eq]
def allQ (l : List (Int × Int)) : List ((Int × Int) × (Int × Int)) := l.flatMap fun u => l.map fun v => (u, v)
theorem mem_allQ {l : List (Int × Int)} {x : (Int × Int) × (Int × Int)} : x ∈ allQ l ↔ x.1 ∈ l ∧ x.2 ∈ l := by
  unfold allQ
  rw [List.mem_flatMap]
  constructor
  · rintro ⟨u, hu, h⟩
    obtain ⟨v, hv, rfl⟩ := List.mem_map.mp h
    exact ⟨hu, hv⟩
  · rintro ⟨h1, h2⟩
    exact ⟨x.1, h1, List.mem_map.mpr ⟨x.2, h2, rfl⟩⟩
theorem allP_map (f : Int × Int → Int) (l : List (Int × Int)) : allP (l.map f) = (allQ l).map fun x => (f x.1, f x.2) := by
  unfold allP allQ
  have h : ∀ (k m : List (Int × Int)), ((k.map f).flatMap fun u => (m.map f).map fun v => (u, v)) = (k.flatMap fun u => m.map fun v => (u, v)).map fun x => (f x.1, f x.2) := fun k m => by
    induction k with
    | nil => rfl
    | cons a k ih =>
      rw [List.map_cons, List.flatMap_cons, List.flatMap_cons, List.map_append, ih, List.map_map, List.map_map]
      rfl
  exact h l l
theorem eqv_lk (l : List (Int × Int)) (p q : Int) : PyData.eqv (lkD p (l.map Prod.fst)) (lkD q (l.map Prod.snd)) = decide (LikeP l p q) := by
  show PyData.eqvAll ((allP (l.map Prod.fst)).map (enL p)) ((allP (l.map Prod.snd)).map (enL q)) = _
  rw [allP_map, allP_map, List.map_map, List.map_map, eqvAll_map2, Bool.eq_iff_iff, List.all_eq_true, decide_eq_true_eq]
  constructor
  · intro h u hu v hv
    have := h (u, v) (mem_allQ.mpr ⟨hu, hv⟩)
    rw [show PyData.eqv ((enL p ∘ fun x : (Int × Int) × (Int × Int) => (x.1.1, x.2.1)) (u, v)) ((enL q ∘ fun x : (Int × Int) × (Int × Int) => (x.1.2, x.2.2)) (u, v)) = PyData.eqv (enL p (u.1, v.1)) (enL q (u.2, v.2)) from rfl, eqv_en, decide_eq_true_eq] at this
    exact this
  · rintro h ⟨u, v⟩ hx
    obtain ⟨hu, hv⟩ := mem_allQ.mp hx
    rw [show PyData.eqv ((enL p ∘ fun x : (Int × Int) × (Int × Int) => (x.1.1, x.2.1)) (u, v)) ((enL q ∘ fun x : (Int × Int) × (Int × Int) => (x.1.2, x.2.2)) (u, v)) = PyData.eqv (enL p (u.1, v.1)) (enL q (u.2, v.2)) from rfl, eqv_en, decide_eq_true_eq]
    exact h u hu v hv
theorem ens_lay (m : Int) : ∀ l : List (Int × Int), PyData.canLayAll0 (l.map (enL m)) = true ∧ PyData.depthAll (l.map (enL m)) ≤ 2
  | [] => ⟨rfl, Nat.zero_le _⟩
  | x :: l => by
    obtain ⟨h1, h2⟩ := ens_lay m l
    rw [List.map_cons]
    refine ⟨?_, ?_⟩
    · simp [PyData.canLayAll0, PyData.canLay0, enL, enT, h1]
    · simp [PyData.depthAll, PyData.depth, enL, enT]
      omega
theorem shaped_lk (m : Int) (l : List Int) : SeqAt.shaped (lkD m l) = true := by
  obtain ⟨h1, h2⟩ := ens_lay m (allP l)
  unfold SeqAt.shaped
  rw [Bool.and_eq_true, decide_eq_true_eq]
  refine ⟨?_, ?_⟩
  · show PyData.canLay0 (.list ((allP l).map (enL m))) = true
    simp only [PyData.canLay0]
    exact h1
  · show PyData.depth (.list ((allP l).map (enL m))) ≤ 64
    simp only [PyData.depth]
    omega
theorem like_mem {l m : List (Int × Int)} {p q : Int} (h : ∀ x, x ∈ l ↔ x ∈ m) : LikeP l p q ↔ LikeP m p q :=
  ⟨fun k u hu v hv => k u ((h u).mpr hu) v ((h v).mpr hv), fun k u hu v hv => k u ((h u).mp hu) v ((h v).mp hv)⟩
theorem like_self {l : List (Int × Int)} {p : Int} (h : ∀ x ∈ l, x.1 = x.2) : LikeP l p p := fun u hu v hv => by
  rw [h u hu, h v hv]
  exact ⟨Iff.rfl, Iff.rfl, Iff.rfl⟩
theorem like_swap {l m : List (Int × Int)} {p q : Int} (h : ∀ x, x ∈ m ↔ (x.2, x.1) ∈ l) : LikeP l p q ↔ LikeP m q p := by
  constructor
  · intro k u hu v hv
    obtain ⟨a, b, c⟩ := k _ ((h u).mp hu) _ ((h v).mp hv)
    exact ⟨a.symm, b.symm, c.symm⟩
  · intro k u hu v hv
    obtain ⟨a, b, c⟩ := k (u.2, u.1) ((h _).mpr hu) (v.2, v.1) ((h _).mpr hv)
    exact ⟨a.symm, b.symm, c.symm⟩
end Mz
set_option Elab.async false
set_option linter.all false
set_option maxRecDepth 100000
set_option maxHeartbeats 4000000
/-! sizes of two names -/
namespace Mz
open PySem PySem.Spec PyProof.Rows L2
theorem ix_listK {X : Cx} (K : PySem.W.Frag) (hK : X.K = K := by rfl) : IxR X (rIxL K) := by
  subst hK
  exact ix_list
theorem put_mem {kvs : List (Key × V)} {k : Key} {v : V} {kv : Key × V} (h : kv ∈ putK kvs k v) : kv ∈ kvs ∨ kv = (k, v) := by
  unfold putK at h
  split at h
  · obtain ⟨y, hy, e⟩ := List.mem_map.mp h
    split at e
    · rename_i c
      right
      rw [← e, c]
    · left
      rw [← e]
      exact hy
  · rcases List.mem_append.mp h with h | h
    · exact .inl h
    · exact .inr (List.mem_singleton.mp h)
theorem merge_mem : ∀ {l acc : List (Key × V)} {kv : Key × V}, kv ∈ mergeK acc l → kv ∈ acc ∨ kv ∈ l
  | [], _, _, h => .inl h
  | x :: l, acc, kv, h => by
    rcases merge_mem (l := l) (acc := putK acc x.1 x.2) h with h | h
    · rcases put_mem h with h | h
      · exact .inl h
      · exact .inr (by rw [h]; exact List.mem_cons_self)
    · exact .inr (List.mem_cons_of_mem _ h)
theorem merge_len : ∀ {l acc : List (Key × V)}, (mergeK acc l).length ≤ acc.length + l.length
  | [], _ => Nat.le_refl _
  | x :: l, acc => by
    have h1 := merge_len (l := l) (acc := putK acc x.1 x.2)
    have h2 := length_putK acc x.1 x.2
    show (mergeK (putK acc x.1 x.2) l).length ≤ _
    rw [List.length_cons]
    omega
theorem merge_has : ∀ {l acc : List (Key × V)} {k : Key}, ((valV acc k).isSome = true ∨ k ∈ l.map Prod.fst) → (valV (mergeK acc l) k).isSome = true
  | [], _, _, h => by
    rcases h with h | h
    · exact h
    · cases h
  | x :: l, acc, k, h => by
    refine merge_has (l := l) (acc := putK acc x.1 x.2) ?_
    rw [valV_put]
    by_cases e : k = x.1
    · rw [if_pos e]
      exact .inl rfl
    · rw [if_neg e]
      rcases h with h | h
      · exact .inl h
      · rw [List.map_cons] at h
        rcases List.mem_cons.mp h with h | h
        · exact absurd h e
        · exact .inr h
theorem lk_paired {α β : Type} {R : α → β → Prop} {xs : List α} {ys : List β} (h : Lk R xs ys) : Paired R xs ys := by
  induction h with
  | nil => exact .nil
  | cons h _ ih => exact .cons h ih
theorem nd_put {kvs : List (Key × V)} {k : Key} {v : V} (h : (kvs.map (·.1)).Nodup) : ((putK kvs k v).map (·.1)).Nodup := by
  by_cases e : valV kvs k = none
  · exact nd_putK v h e
  · have a : (kvs.any fun kv => decide (kv.1 = k)) = true := by
      rw [valV_any]
      cases q : valV kvs k with
      | none => exact (e q).elim
      | some x => rfl
    unfold putK
    rw [if_pos a, List.map_map]
    have f : ((fun x : Key × V => x.1) ∘ fun kv : Key × V => if kv.1 = k then (kv.1, v) else kv) = fun x => x.1 := funext fun kv => by
      show (if kv.1 = k then (kv.1, v) else kv).1 = kv.1
      split <;> rfl
    rw [f]
    exact h
theorem nd_merge : ∀ {l acc : List (Key × V)}, (acc.map (·.1)).Nodup → ((mergeK acc l).map (·.1)).Nodup
  | [], _, h => h
  | x :: l, acc, h => nd_merge (l := l) (acc := putK acc x.1 x.2) (nd_put h)
theorem merge_nd : ∀ {l acc : List (Key × V)}, ((acc ++ l).map (·.1)).Nodup → mergeK acc l = acc ++ l
  | [], acc, _ => (List.append_nil acc).symm
  | x :: l, acc, h => by
    have hn : valV acc x.1 = none := by
      cases q : valV acc x.1 with
      | none => rfl
      | some v =>
        rw [List.map_append, List.nodup_append] at h
        exact (h.2.2 _ (valV_in q) x.1 (by rw [List.map_cons]; exact List.mem_cons_self) rfl).elim
    show mergeK (putK acc x.1 x.2) l = _
    rw [putK_new _ hn]
    have e : acc ++ x :: l = (acc ++ [(x.1, x.2)]) ++ l := by
      rw [List.append_assoc]
      rfl
    rw [e] at h ⊢
    exact merge_nd h
/-- sizes of all the names, and of no others -/
def GrN (lo hi : Int) (roots : List Str) (kvs : List (Key × V)) : Prop := kvs.length ≤ 2 ∧ (∀ kv ∈ kvs, ∃ (z : Str) (n : Int), kv = (.inr z, .int n) ∧ z ∈ roots ∧ lo ≤ n ∧ n < hi) ∧ (∀ z ∈ roots, (valV kvs (.inr z)).isSome = true) ∧ (kvs.map (·.1)).Nodup
abbrev GrT (roots : List Str) (kvs : List (Key × V)) : Prop := GrN 0 (10 ^ 50) roots kvs
theorem GrN.mono {lo hi lo' hi' : Int} {roots : List Str} {kvs : List (Key × V)} (h : GrN lo hi roots kvs) (l : lo' ≤ lo) (u : hi ≤ hi') : GrN lo' hi' roots kvs := by
  refine ⟨h.1, fun kv hk => ?_, h.2.2⟩
  obtain ⟨z, n, e, hz, n0, n1⟩ := h.2.1 kv hk
  exact ⟨z, n, e, hz, by omega, by omega⟩
theorem GrN.at {lo hi : Int} {roots : List Str} {kvs : List (Key × V)} (h : GrN lo hi roots kvs) {z : Str} (hz : z ∈ roots) : ∃ n, valV kvs (.inr z) = some (.int n) ∧ lo ≤ n ∧ n < hi := by
  obtain ⟨v, hv⟩ := Option.isSome_iff_exists.mp (h.2.2.1 z hz)
  obtain ⟨p, hp, e1, e2⟩ := valV_mem hv
  obtain ⟨y, n, e, _, n0, n1⟩ := h.2.1 p hp
  rw [e] at e2
  exact ⟨n, by rw [hv, ← e2], n0, n1⟩
theorem GrN.of {lo hi : Int} {roots : List Str} {ps : List (Key × V)} (h1 : ps.length ≤ 2) (h2 : ∀ kv ∈ ps, ∃ (z : Str) (n : Int), kv = (.inr z, .int n) ∧ z ∈ roots ∧ lo ≤ n ∧ n < hi) (h3 : ∀ z ∈ roots, (Sum.inr z : Key) ∈ ps.map Prod.fst) : GrN lo hi roots (mergeK [] ps) := by
  refine ⟨?_, fun kv h => ?_, fun z hz => merge_has (.inr (h3 z hz)), nd_merge List.nodup_nil⟩
  · have := length_mergeK ps []
    rw [List.length_nil] at this
    omega
  · rcases merge_mem h with h | h
    · cases h
    · exact h2 kv h
def spGreat : Sp := fun vs H Q _ => ∃ (b rl : Addr) (n : Nat) (roots : List Str) (pg : Int), vs = [.ref b, .ref rl, .int pg] ∧ Bx H b n ∧ n ≤ 800000 ∧ H rl = some (.lst (roots.map V.str)) ∧ roots.length ≤ 2 ∧ 1 ≤ pg ∧ pg < 10 ^ 17 ∧
  ∀ (p : Addr) (kvs : List (Key × V)) (H' : Hp), GrT roots kvs → Bx H' b (n + 13) → Kp b H H' → H p = none → H' p = some (.dK kvs) → Q (.ref p) H'
section
variable {P : Program} {w : World} {K : PySem.W.Frag} {mg : Str → Option Value} {base : Heap}
theorem scGreat : FnScope ["_law_box_here", "_law_roots_here", "_law_much_here", "_law_pair_here", "_law_at", "_law_root"] ["_law_box_here", "_law_roots_here", "_law_much_here"] (defScope sGreat) := ⟨rfl, rfl, rfl, by decide +kernel, rfl, by decide +kernel, by decide +kernel⟩
theorem ok_great {f f1 fS : Addr} {fd fd1 fdS : FuncData} (F : Fun K "_law_great" "_law_great" sGreat f fd) (T : Tk P w K mg base f1 fd1) (mDct : mg "dict" = none) (mEn : mg "enumerate" = none) (GS : D1 P w K mg base "_law_size_pair" 2 ["_law_box_here", "_law_much_here"] spSizePair fS fdS) :
    FnOk P w K mg base CX0 3 f fd ["_law_box_here", "_law_roots_here", "_law_much_here"] spGreat := by
  refine F.ok scGreat (fun vs H Q E h => ?_) (fun cdv A outer s H vs Q E hr h => ?_)
  · obtain ⟨b, rl, n, roots, pg, rfl, _⟩ := h
    rfl
  · obtain ⟨b, rl, n, roots, pg, rfl, hB, hn, hR, lR, g1, g2, q⟩ := h
    have nd := scGreat.nd
    have hr1 : Room 1 _ := hr.mono (by decide)
    have hr2 : Room 2 _ := hr.mono (by decide)
    refine ⟨_, (pss_cons (ps_set (i := 3) nd rfl (Or.inr rfl) (pe_call GS.ok hr2 (by rfl) GS.m GS.k GS.b .nil pass0 (pa_cons (pv 0) (pa_cons (pv 2) pa_nil))))
      (pss_cons (ps_set (i := 3) nd rfl (Or.inr rfl) (pe_ifExp (pt_cmpR op_eq (pe_call T.ok hr1 (by rfl) T.m T.k T.b .nil pass0 (pa_cons (pv 0) (pa_cons pe_int pa_nil))) pe_int (nomark _)) (pv 3) (pe_revL (pv 3))))
      (pss_one (ps_ret (pe_callTy (call_dictP rfl) (by rfl) mDct (by decide +kernel) (pa_cons (pe_lc (own := [("_law_at", 4), ("_law_root", 5)]) (g := gTup K 2 (gCons (gName 4) (gCons (gName 5) (gNil)))) (tt := tYes) rfl nd (pi_enum rfl mEn (pa_cons (pv 1) pa_nil)) (blkOk_by (N := ["_law_box_here", "_law_roots_here", "_law_much_here", "_law_pair_here", "_law_at", "_law_root"]) (sc := defScope sGreat) (by decide +kernel)) (fun _ _ _ _ _ => pg_tup (by rfl) (pgs_cons (pg_name (i := 4) nd rfl (Or.inl rfl)) (pgs_cons (pg_name (i := 5) nd rfl (Or.inl rfl)) (pgs_nil)))) (fun _ _ _ _ _ => pts_nil) (fun _ _ _ _ _ => (pe_tup (pa_cons (pv 5) (pa_cons (pe_ix (ix_listK K) (pv 3) (pv 4) (fun _ _ => rfl)) pa_nil))))) pa_nil)))))), ?_⟩
    have sb : 1000 ≤ sizeLine := by decide
    have rlb : rl ≠ b := hB.off hR fun x y z e => by
      have e : roots.map V.str = [V.int x, V.int y, V.int z] := HO.lst.inj e
      cases roots with
      | nil => cases e
      | cons a r => cases e
    generalize hT : tRet _ = TR
    refine ⟨_, rfl, _, rfl, b, n, pg, rfl, hB, by omega, g1, g2, fun p1 x y H1 x0 x1 y0 y1 B1 K1 n1 t1 => ?_⟩
    have p1b : p1 ≠ b := hB.new n1
    have rest : ∀ (pq : Addr) (u v : Int) (G : Hp), 0 ≤ u → u < 10 ^ 50 → 0 ≤ v → v < 10 ^ 50 → G pq = some (.lst [.int u, .int v]) → Kp b H G → Bx G b (n + 13) →
        TR { nx := fun x H' => Q V.non H', rt := Q } [some (.ref b), some (.ref rl), some (.int pg), some (.ref pq), none, none] G := by
      intro pq u v G u0 u1 v0 v1 hpq KG BG
      rw [← hT]
      clear hT
      have hRG := KG _ _ rlb hR
      refine ⟨_, rfl, rl, _, rfl, SqL.of hRG, fun D nD => ?_⟩
      have Db : D ≠ b := BG.new nD
      refine lc_it (walk_enum (xs := roots.map V.str)) (fun i H' => (∀ p o, p ≠ D → G p = some o → H' p = some o) ∧ ∃ (ps : List Addr) (kvs : List (Key × V)), H' D = some (.lst (ps.map V.ref)) ∧ ps.length = i ∧ Lk (fun (p : Addr) (kv : Key × V) => p ≠ D ∧ H' p = some (.tup [kV kv.1, kv.2])) ps kvs ∧
          kvs.map Prod.fst = (roots.take i).map Sum.inr ∧ ∀ kv ∈ kvs, ∃ m : Int, kv.2 = .int m ∧ 0 ≤ m ∧ m < 10 ^ 50)
        ⟨fun p o n e => by rw [upd_ne n]; exact e, [], [], upd_same, rfl, .nil, by rw [List.take_zero]; rfl, fun kv h => nomatch h⟩ (fun i H' _ h => SqL.of (h.1 _ _ (ne_of_none hRG nD) hRG)) ?_ ?_
      · rintro i x G1 G2 hi ⟨keep, ps, kvs, hD, lp, lk, hk1, hk2⟩ ⟨T, x1, y1, rfl, nT, rfl, e1, e2⟩
        have e1 : some (V.int (i : Nat)) = some x1 := e1
        have e2 : (roots.map V.str)[i]? = some y1 := e2
        cases e1
        rw [List.getElem?_map] at e2
        obtain ⟨z, hz, rfl⟩ := Option.map_eq_some_iff.mp e2
        rw [List.length_map] at hi
        have TD : T ≠ D := (ne_of_none hD nT).symm
        have sT : Same G1 (upd G1 T (.tup [.int (i : Nat), .str z])) := same_nw nT
        have tT : upd G1 T (.tup [.int (i : Nat), .str z]) T = some (.tup [.int (i : Nat), .str z]) := upd_same
        generalize upd G1 T (.tup [.int (i : Nat), .str z]) = G2 at sT tT
        have hpq2 : G2 pq = some (.lst [.int u, .int v]) := sT _ _ (keep _ _ (ne_of_none hpq nD) hpq)
        have hval : ∃ m : Int, atI [V.int u, V.int v] ((i : Nat) : Int) = some (.int m) ∧ 0 ≤ m ∧ m < 10 ^ 50 := by
          have : i = 0 ∨ i = 1 := by omega
          rcases this with rfl | rfl
          · exact ⟨u, rfl, u0, u1⟩
          · exact ⟨v, rfl, v0, v1⟩
        obtain ⟨m, hm, m0, m1⟩ := hval
        refine ⟨T, _, rfl, SqT.of tT, rfl, _, _, rfl, _, _, rfl, rfl, ?_⟩
        refine ⟨rfl, yesT ?_⟩
        refine ⟨_, rfl, _, rfl, _, rfl, pq, _, _, _, rfl, rfl, SqL.of hpq2, hm, (by show 2 ≤ sizeLine; decide), fun W nW => ?_⟩
        have sW : Same G2 (upd G2 W (.tup [.str z, .int m])) := same_nw nW
        have tW : upd G2 W (.tup [.str z, .int m]) W = some (.tup [.str z, .int m]) := upd_same
        generalize upd G2 W (.tup [.str z, .int m]) = G3 at sW tW
        have hD3 := sW _ _ (sT _ _ hD)
        have WD : W ≠ D := (ne_of_none (sT _ _ hD) nW).symm
        refine ⟨_, hD3, ?_, fun p o n e => by rw [upd_ne n]; exact sW _ _ (sT _ _ (keep p o n e)), ps ++ [W], kvs ++ [(.inr z, .int m)], by rw [upd_same, List.map_append]; rfl, by rw [List.length_append, lp]; rfl, ?_, ?_, ?_⟩
        · rw [List.length_map]
          omega
        · exact (lk.imp fun _ _ x => ⟨x.1, by rw [upd_ne x.1]; exact sW _ _ (sT _ _ x.2)⟩).append (Lk.one ⟨WD, by rw [upd_ne WD]; exact tW⟩)
        · rw [List.map_append, hk1, List.take_succ, hz, List.map_append]
          rfl
        · intro kv h
          rcases List.mem_append.mp h with h | h
          · exact hk2 kv h
          · rw [List.mem_singleton.mp h]
            exact ⟨m, rfl, m0, m1⟩
      rintro G1 ⟨keep, ps, kvs, hD, lp, lk, hk1, hk2⟩
      rw [List.length_map, List.take_length] at hk1
      have sG : Same G G1 := fun p o e => keep p o (ne_of_none e nD) e
      have lk2 := lk.length
      have lk3 : kvs.length = roots.length := by
        have := congrArg List.length hk1
        rw [List.length_map, List.length_map] at this
        exact this
      refine ⟨D, ps, kvs, rfl, SqL.of hD, lk_paired (lk.imp fun _ _ x => SqT.of x.2), fun p np => q p (mergeK [] kvs) _ (GrN.of (by omega) (fun kv h => ?_) (fun z hz => ?_)) ((BG.same sG).same (same_nw np)) (KG.trans ((Kp.same sG).trans (Kp.same (same_nw np)))) ?_ upd_same⟩
      · obtain ⟨m, e, m0, m1⟩ := hk2 kv h
        have hm : kv.1 ∈ roots.map (Sum.inr : Str → Key) := by
          rw [← hk1]
          exact List.mem_map.mpr ⟨kv, h, rfl⟩
        obtain ⟨z, hz, ez⟩ := List.mem_map.mp hm
        exact ⟨z, m, Prod.ext ez.symm e, hz, m0, m1⟩
      · rw [hk1]
        exact List.mem_map.mpr ⟨z, hz, rfl⟩
      · exact KG.free ((BG.same sG).new np) (sG.free np)
    refine ⟨_, rfl, b, n + 12, 2, rfl, B1, by omega, by decide, by decide, fun r0 H2 a0 c0 B2 K2 => ⟨rfl, _, rfl, ?_⟩⟩
    have t2 := K2 _ _ p1b t1
    by_cases e : V.int r0 = V.int 0
    · rw [decide_eq_true e]
      exact iteT ⟨_, rfl, rest p1 x y H2 x0 x1 y0 y1 t2 (K1.trans K2) B2⟩
    · rw [decide_eq_false e]
      refine iteF ⟨_, rfl, p1, _, rfl, SqL.of t2, fun p np => ?_⟩
      exact rest p y x _ y0 y1 x0 x1 upd_same (K1.trans (K2.trans (Kp.same (same_nw np)))) (B2.same (same_nw np))

end
end Mz
set_option Elab.async false
set_option linter.all false
set_option maxRecDepth 100000
set_option maxHeartbeats 4000000
/-! pairs of a name and a size, in a list that grows -/
namespace Mz
open PySem PySem.Spec PyProof.Rows L2
def Pd (b D : Addr) (G : Hp) (n : Nat) (lo hi : Int) (roots : List Str) (i : Nat) (H' : Hp) : Prop :=
  (∀ p o, p ≠ D → p ≠ b → G p = some o → H' p = some o) ∧ Bx H' b (n + i) ∧ ∃ (ps : List Addr) (kvs : List (Key × V)), H' D = some (.lst (ps.map V.ref)) ∧ ps.length = i ∧
    Lk (fun (p : Addr) (kv : Key × V) => p ≠ D ∧ p ≠ b ∧ H' p = some (.tup [kV kv.1, kv.2])) ps kvs ∧ kvs.map Prod.fst = (roots.take i).map Sum.inr ∧ ∀ kv ∈ kvs, ∃ m : Int, kv.2 = .int m ∧ lo ≤ m ∧ m < hi
section
variable {b D : Addr} {G H' : Hp} {n i : Nat} {lo hi : Int} {roots : List Str}
theorem Pd.start (hD : G D = none) (B : Bx G b n) : Pd b D G n lo hi roots 0 (upd G D (.lst [])) :=
  ⟨fun p o e _ h => by rw [upd_ne e]; exact h, B.upd hD, [], [], upd_same, rfl, .nil, by rw [List.take_zero]; rfl, fun kv h => nomatch h⟩
theorem Pd.keep (hD : G D = none) (h : Pd b D G n lo hi roots i H') : Kp b G H' := fun p o e h2 => h.1 p o (ne_of_none h2 hD) e h2
theorem Bx.noRefs {H : Hp} {b D : Addr} {n : Nat} {ps : List Addr} (B : Bx H b n) (h : H D = some (.lst (ps.map V.ref))) : D ≠ b := B.off h fun x y z e => by
  have e : ps.map V.ref = [V.int x, V.int y, V.int z] := HO.lst.inj e
  cases ps with
  | nil => cases e
  | cons a r => cases e
theorem Pd.put {G3 : Hp} {W : Addr} {z : Str} {m : Int} (h : Pd b D G n lo hi roots i H') (k : Kp b H' G3) (B3 : Bx G3 b (n + i + 1)) (hz : roots[i]? = some z) (l2 : roots.length ≤ 2) (m0 : lo ≤ m) (m1 : m < hi) (nW : G3 W = none) :
    ∃ acc, upd G3 W (.tup [.str z, .int m]) D = some (.lst acc) ∧ acc.length < sizeLine ∧ Pd b D G n lo hi roots (i + 1) (upd (upd G3 W (.tup [.str z, .int m])) D (.lst (acc ++ [V.ref W]))) := by
  obtain ⟨keep, B, ps, kvs, hD, lp, lk, hk1, hk2⟩ := h
  have Db := B.noRefs hD
  have hD3 := k _ _ Db hD
  have WD : W ≠ D := (ne_of_none hD3 nW).symm
  have Wb : W ≠ b := B3.new nW
  have li : i < roots.length := (List.getElem?_eq_some_iff.mp hz).1
  have sb : 1000 ≤ sizeLine := by decide
  refine ⟨_, by rw [upd_ne WD.symm]; exact hD3, ?_, fun p o e1 e2 h => ?_, ?_, ps ++ [W], kvs ++ [(.inr z, .int m)], by rw [upd_same, List.map_append]; rfl, by rw [List.length_append, lp]; rfl, ?_, ?_, ?_⟩
  · rw [List.length_map]
    omega
  · have h3 := k _ _ e2 (keep p o e1 e2 h)
    rw [upd_ne e1, upd_ne (ne_of_none h3 nW)]
    exact h3
  · obtain ⟨x, y, z, e, r⟩ := B3
    exact ⟨x, y, z, by rw [upd_ne Db.symm, upd_ne Wb.symm]; exact e, r⟩
  · exact (lk.imp fun p _ x => ⟨x.1, x.2.1, by
      have h3 := k _ _ x.2.1 x.2.2
      rw [upd_ne x.1, upd_ne (ne_of_none h3 nW)]
      exact h3⟩).append (Lk.one ⟨WD, Wb, by rw [upd_ne WD, upd_same]; rfl⟩)
  · rw [List.map_append, hk1, List.take_succ, hz, List.map_append]
    rfl
  · intro kv h
    rcases List.mem_append.mp h with h | h
    · exact hk2 kv h
    · rw [List.mem_singleton.mp h]
      exact ⟨m, rfl, m0, m1⟩
theorem Pd.done {K : PySem.W.Frag} (h : Pd b D G n lo hi roots roots.length H') (l2 : roots.length ≤ 2) : ∃ (ps : List Addr) (kvs : List (Key × V)), SqL K H' D (ps.map V.ref) ∧ Paired (fun p kv => SqT K H' p [kV kv.1, kv.2]) ps kvs ∧ GrN lo hi roots (mergeK [] kvs) := by
  obtain ⟨keep, B, ps, kvs, hD, lp, lk, hk1, hk2⟩ := h
  rw [List.take_length] at hk1
  have lk2 := lk.length
  refine ⟨ps, kvs, SqL.of hD, lk_paired (lk.imp fun _ _ x => SqT.of x.2.2), GrN.of (by omega) (fun kv h => ?_) (fun z hz => ?_)⟩
  · obtain ⟨m, e, m0, m1⟩ := hk2 kv h
    have hm : kv.1 ∈ roots.map (Sum.inr : Str → Key) := by
      rw [← hk1]
      exact List.mem_map.mpr ⟨kv, h, rfl⟩
    obtain ⟨z, hz, ez⟩ := List.mem_map.mp hm
    exact ⟨z, m, Prod.ext ez.symm e, hz, m0, m1⟩
  · rw [hk1]
    exact List.mem_map.mpr ⟨z, hz, rfl⟩
end
theorem inV_strs {z : Str} {l : List Str} : inV (.str z) (l.map V.str) = decide (z ∈ l) := by
  rw [Bool.eq_iff_iff, decide_eq_true_eq]
  unfold inV
  rw [List.any_eq_true]
  constructor
  · rintro ⟨v, hv, e⟩
    obtain ⟨y, hy, rfl⟩ := List.mem_map.mp hv
    have e : (y == z) = true := e
    rw [← eq_of_beq e]
    exact hy
  · intro h
    exact ⟨.str z, List.mem_map.mpr ⟨z, h, rfl⟩, by show (z == z) = true; exact beq_self_eq_true z⟩
theorem flat_strs {l : List Str} : (l.map V.str).all flatV = true := by
  rw [List.all_eq_true]
  intro v hv
  obtain ⟨y, _, rfl⟩ := List.mem_map.mp hv
  rfl
end Mz
set_option Elab.async false
set_option linter.all false
set_option maxRecDepth 100000
set_option maxHeartbeats 4000000
/-! sizes without those that are not asked, or with one more -/
namespace Mz
open PySem PySem.Spec PyProof.Rows L2
theorem op_inK {X : Cx} (K : PySem.W.Frag) (hK : X.K = K := by rfl) : OpR X (compareOp .In) (rIn K false) := by
  subst hK
  exact op_in_seq
theorem op_notInK {X : Cx} (K : PySem.W.Frag) (hK : X.K = K := by rfl) : OpR X (compareOp .NotIn) (rIn K true) := by
  subst hK
  exact op_notIn_seq
def spStrange : Sp := fun vs H Q _ => ∃ (b d rl kl : Addr) (n : Nat) (roots known : List Str) (kvs : List (Key × V)), vs = [.ref b, .ref d, .ref rl, .ref kl] ∧ Bx H b n ∧ n ≤ 800000 ∧ H d = some (.dK kvs) ∧ GrN 0 (10 ^ 60) roots kvs ∧ (∀ z ∈ roots, Rt z) ∧ roots.length ≤ 2 ∧
  H rl = some (.lst (roots.map V.str)) ∧ H kl = some (.lst (known.map V.str)) ∧
  ∀ (p : Addr) (ls : List (Key × V)) (H' : Hp), ls.length ≤ 2 → (∀ kv ∈ ls, ∃ (z : Str) (n : Int), kv = (.inr z, .int n) ∧ Rt z ∧ 0 ≤ n) → (∀ z ∈ known, z ∈ roots → valV ls (.inr z) = valV kvs (.inr z)) → Bx H' b (n + 6) → Kp b H H' → H p = none → H' p = some (.dK ls) → Q (.ref p) H'
section
variable {P : Program} {w : World} {K : PySem.W.Frag} {mg : Str → Option Value} {base : Heap}
theorem scStrange : FnScope ["_law_box_here", "_law_sizes", "_law_roots_here", "_law_known", "_law_found", "_law_fresh", "_law_root", "_law_size", "_law_name"] ["_law_box_here", "_law_sizes", "_law_roots_here", "_law_known"] (defScope sStrange) := ⟨rfl, rfl, rfl, by decide +kernel, rfl, by decide +kernel, by decide +kernel⟩
theorem ok_strange {f f1 : Addr} {fd fd1 : FuncData} (F : Fun K "_law_strange" "_law_strange" sStrange f fd) (T : Tk P w K mg base f1 fd1) (B : Blt mg) (mDct : mg "dict" = none) :
    FnOk P w K mg base CX0 2 f fd ["_law_box_here", "_law_sizes", "_law_roots_here", "_law_known"] spStrange := by
  refine F.ok scStrange (fun vs H Q E h => ?_) (fun cdv A outer s H vs Q E hr h => ?_)
  · obtain ⟨b, d, rl, kl, n, roots, known, kvs, rfl, _⟩ := h
    rfl
  · obtain ⟨b, d, rl, kl, n, roots, known, kvs, rfl, hB, hn, hd, hg, hr0, l2, hrl, hkl, q⟩ := h
    have nd := scStrange.nd
    have hu := hu_of hr
    have hr1 : Room 1 _ := hr.mono (by decide)
    refine ⟨_, (pss_cons (ps_set (i := 4) nd rfl (Or.inl rfl) (pe_callTy (call_dictP rfl) (by rfl) mDct (by decide +kernel) (pa_cons (pe_lock (pe_lc (own := [("_law_root", 6), ("_law_size", 7)]) (g := gTup K 2 (gCons (gName 6) (gCons (gName 7) (gNil)))) rfl nd (pi_items (pv 1)) (blkOk_by (N := ["_law_box_here", "_law_sizes", "_law_roots_here", "_law_known", "_law_found", "_law_fresh", "_law_root", "_law_size", "_law_name"]) (sc := defScope sStrange) (by decide +kernel)) (fun _ _ _ _ _ => pg_tup (by rfl) (pgs_cons (pg_name (i := 6) nd rfl (Or.inl rfl)) (pgs_cons (pg_name (i := 7) nd rfl (Or.inl rfl)) (pgs_nil)))) (fun _ _ _ _ _ => pts_one (PW.pt (pw_or (pt_cmpR (op_inK K) (pv 6) (pv 3) (by rfl)) (pw_or1 (pt_cmpR op_eq (pe_call T.ok hr1 (by rfl) T.m T.k T.b .nil pass0 (pa_cons (pv 0) (pa_cons pe_int pa_nil))) pe_int (nomark _)))))) (fun _ _ _ _ _ => (pe_tup (pa_cons (pv 6) (pa_cons (pe_callB (call_max2 rfl) (by rfl) B.max (by decide +kernel) (pa_cons pe_int (pa_cons (pv 7) pa_nil))) pa_nil)))))) pa_nil)))
      (pss_cons (ps_if (PW.pt (pw_and (pt_cmpR op_lt (pe_callB call_lenD (by rfl) B.len PySem.boot_len (pa_cons (pv 4) pa_nil)) pe_int (nomark _)) (pw_and1 (pt_cmpR op_eq (pe_call T.ok hr1 (by rfl) T.m T.k T.b .nil pass0 (pa_cons (pv 0) (pa_cons pe_int pa_nil))) pe_int (nomark _))))) (pss_cons (ps_setLc (i := 5) (own := [("_law_name", 8)]) (g := gName 8) rfl nd rfl rfl (sw_true rfl rfl rfl (by decide +kernel)) (pi_list (pe_lst (pa_cons pe_str (pa_cons pe_str (pa_cons pe_str pa_nil))))) (blkOk_by (N := ["_law_box_here", "_law_sizes", "_law_roots_here", "_law_known", "_law_found", "_law_fresh", "_law_root", "_law_size", "_law_name"]) (sc := defScope sStrange) (by decide +kernel)) (fun _ _ _ _ _ => (pg_name (i := 8) nd rfl (Or.inl rfl))) (fun _ _ _ _ _ => pts_one (pt_cmpR (op_notInK K) (pv 8) (pv 2) (by rfl))) (fun _ _ _ _ _ => (pv 8)))
      (pss_one (ps_dput hu (pv 4) (pe_ix ix_list (pv 5) pe_int (fun _ _ => rfl)) (pe_call T.ok hr1 (by rfl) T.m T.k T.b .nil pass0 (pa_cons (pv 0) (pa_cons pe_int pa_nil))) rfl))) pss_nil)
      (pss_one (ps_ret (pv 4))))), ?_⟩
    have rlb : rl ≠ b := hB.off hrl fun x y z e => by
      have e : roots.map V.str = [V.int x, V.int y, V.int z] := HO.lst.inj e
      cases roots with
      | nil => cases e
      | cons a r => cases e
    have klb : kl ≠ b := hB.off hkl fun x y z e => by
      have e : known.map V.str = [V.int x, V.int y, V.int z] := HO.lst.inj e
      cases known with
      | nil => cases e
      | cons a r => cases e
    have db : d ≠ b := hB.off hd fun x y z e => nomatch e
    have sb : 1000 ≤ sizeLine := by decide
    refine ⟨d, .dK kvs, hd, trivial, fun od => ⟨_, rfl, d, od, kvs, rfl, upd_same, fun D nD => ?_⟩⟩
    have la : upd H d (.frz od (.dK kvs)) d = some (.frz od (.dK kvs)) := upd_same
    have lo : ∀ r o, r ≠ d → H r = some o → upd H d (.frz od (.dK kvs)) r = some o := fun r o n e => by
      rw [upd_ne n]
      exact e
    have Bl : Bx (upd H d (.frz od (.dK kvs))) b n := by
      obtain ⟨x, y, z, e, r⟩ := hB
      exact ⟨x, y, z, lo _ _ db.symm e, r⟩
    have dD : d ≠ D := fun x => by
      rw [← x, la] at nD
      cases nD
    have nDH : H D = none := by
      cases e : H D with
      | none => rfl
      | some o =>
        rw [lo D o dD.symm e] at nD
        cases nD
    generalize upd H d (.frz od (.dK kvs)) = Hl at la lo nD Bl
    have Db : D ≠ b := Bl.new nD
    refine lc_it (walk_items (kvs := kvs)) (fun i H' => (∀ p o, p ≠ D → p ≠ b → Hl p = some o → H' p = some o) ∧ Bx H' b (n + i) ∧ ∃ (ps : List Addr) (cs : List (Key × V)), H' D = some (.lst (ps.map V.ref)) ∧
        Lk (fun (p : Addr) (kv : Key × V) => p ≠ D ∧ p ≠ b ∧ p ≠ d ∧ H' p = some (.tup [kV kv.1, kv.2])) ps cs ∧ cs.Sublist (kvs.take i) ∧ ∀ kv ∈ kvs.take i, (∃ z ∈ known, kv.1 = .inr z) → kv ∈ cs)
      ⟨fun p o e _ h => by rw [upd_ne e]; exact h, Bl.upd nD, [], [], upd_same, .nil, by rw [List.take_zero]; exact List.Sublist.refl _, by rw [List.take_zero]; exact fun kv h => nomatch h⟩ (fun i H' _ h => h.1 _ _ dD db la) ?_ ?_
    · rintro i x H0 H' hi ⟨keep, B0, ps, cs, hD, lk, sub, has⟩ ⟨T, x1, y1, rfl, nT, rfl, e1, e2⟩
      have hkv : kvs[i]? = some kvs[i] := List.getElem?_eq_getElem hi
      have e1 : (kvs[i]?).map (fun kv => kV kv.1) = some x1 := e1
      have e2 : (kvs[i]?).map Prod.snd = some y1 := e2
      rw [hkv] at e1 e2
      cases e1
      cases e2
      obtain ⟨z, m, ez, hz, m0, m1⟩ := hg.2.1 _ (List.getElem_mem hi)
      rw [ez] at hkv ⊢
      have tk : kvs.take (i + 1) = kvs.take i ++ [(.inr z, .int m)] := by rw [List.take_succ, hkv]; rfl
      have TD : T ≠ D := (ne_of_none hD nT).symm
      have Tb : T ≠ b := B0.new nT
      have sT : Same H0 (upd H0 T (.tup [.str z, .int m])) := same_nw nT
      have tT : upd H0 T (.tup [.str z, .int m]) T = some (.tup [.str z, .int m]) := upd_same
      show gTup K 2 _ _ _ (upd H0 T (.tup [.str z, .int m])) _
      generalize upd H0 T (.tup [.str z, .int m]) = H1 at sT tT
      refine ⟨T, _, rfl, SqT.of tT, rfl, _, _, rfl, _, _, rfl, rfl, rfl, ?_⟩
      have kld : kl ≠ d := fun x => by
        rw [x, hd] at hkl
        cases hkl
      have klD : kl ≠ D := ne_of_none hkl nDH
      have hk1 := sT _ _ (keep _ _ klD klb (lo _ _ kld hkl))
      have B1 := B0.same sT
      have sub2 : ∀ {H3 : Hp}, Kp b H1 H3 → Bx H3 b (n + (i + 1)) → ∀ T2, H3 T2 = none → ∃ acc, upd H3 T2 (.tup [.str z, .int (if m > 0 then m else 0)]) D = some (.lst acc) ∧ acc.length < sizeLine ∧ (∀ p o, p ≠ D → p ≠ b → Hl p = some o → upd (upd H3 T2 (.tup [.str z, .int (if m > 0 then m else 0)])) D (.lst (acc ++ [V.ref T2])) p = some o) ∧ Bx (upd (upd H3 T2 (.tup [.str z, .int (if m > 0 then m else 0)])) D (.lst (acc ++ [V.ref T2]))) b (n + (i + 1)) ∧ ∃ (ps : List Addr) (cs : List (Key × V)), upd (upd H3 T2 (.tup [.str z, .int (if m > 0 then m else 0)])) D (.lst (acc ++ [V.ref T2])) D = some (.lst (ps.map V.ref)) ∧
        Lk (fun (p : Addr) (kv : Key × V) => p ≠ D ∧ p ≠ b ∧ p ≠ d ∧ upd (upd H3 T2 (.tup [.str z, .int (if m > 0 then m else 0)])) D (.lst (acc ++ [V.ref T2])) p = some (.tup [kV kv.1, kv.2])) ps cs ∧ cs.Sublist (kvs.take (i + 1)) ∧ ∀ kv ∈ kvs.take (i + 1), (∃ z ∈ known, kv.1 = .inr z) → kv ∈ cs := by
        intro H3 K3 B3 T2 nT2
        have em : (if m > 0 then m else 0) = m := by split <;> omega
        rw [em]
        have hD3 := K3 _ _ Db (sT _ _ hD)
        have T2D : T2 ≠ D := (ne_of_none hD3 nT2).symm
        have T2b : T2 ≠ b := B3.new nT2
        have hd3 := K3 _ _ db (sT _ _ (keep _ _ dD db la))
        have T2d : T2 ≠ d := (ne_of_none hd3 nT2).symm
        have ll := lk.length
        have sl := sub.length_le
        rw [List.length_take] at sl
        have l2' := hg.1
        have mv : ∀ p o, p ≠ D → p ≠ b → H0 p = some o → upd (upd H3 T2 (.tup [.str z, .int m])) D (.lst (ps.map V.ref ++ [V.ref T2])) p = some o := fun p o e1 e2 h => by
          have h3 := K3 _ _ e2 (sT _ _ h)
          rw [upd_ne e1, upd_ne (ne_of_none h3 nT2)]
          exact h3
        refine ⟨_, by rw [upd_ne T2D.symm]; exact hD3, by rw [List.length_map]; omega, fun p o e1 e2 h => mv p o e1 e2 (keep p o e1 e2 h), ?_, ps ++ [T2], cs ++ [(.inr z, .int m)], by rw [upd_same, List.map_append]; rfl, ?_, ?_, ?_⟩
        · obtain ⟨x, y, z, e, r⟩ := B3
          exact ⟨x, y, z, by rw [upd_ne Db.symm, upd_ne T2b.symm]; exact e, r⟩
        · exact (lk.imp fun p _ x => ⟨x.1, x.2.1, x.2.2.1, mv _ _ x.1 x.2.1 x.2.2.2⟩).append (Lk.one ⟨T2D, T2b, T2d, by rw [upd_ne T2D, upd_same]; rfl⟩)
        · rw [tk]
          exact sub.append (List.Sublist.refl _)
        · intro kv h hh
          rw [tk] at h
          rcases List.mem_append.mp h with h | h
          · exact List.mem_append_left _ (has kv h hh)
          · exact List.mem_append_right _ h
      refine ⟨_, rfl, _, rfl, kl, _, rfl, .inl (SqL.of hk1), rfl, flat_strs, _, rfl, ?_⟩
      show if inV (.str z) (known.map V.str) = true then _ else _
      rw [inV_strs]
      refine ite2 (fun _ => ?_) (fun hno => ?_)
      · show if true = true then _ else _
        rw [if_pos rfl]
        refine ⟨_, rfl, _, rfl, _, _, rfl, (by show 2 ≤ sizeLine; omega), fun T2 nT2 => ?_⟩
        exact sub2 Kp.refl (B1.more (by omega)) T2 nT2
      · refine ⟨_, rfl, b, n + i, 2, rfl, B1, by have := hg.1; omega, by decide, by decide, fun r H3 r0 r1 B3 K3 => ⟨rfl, _, rfl, ite2 (fun _ => ?_) (fun _ => ?_)⟩⟩
        · refine ⟨_, rfl, _, rfl, _, _, rfl, (by show 2 ≤ sizeLine; omega), fun T2 nT2 => ?_⟩
          exact sub2 K3 B3 T2 nT2
        · have mv : ∀ p o, p ≠ b → H0 p = some o → H3 p = some o := fun p o e2 h => K3 _ _ e2 (sT _ _ h)
          refine ⟨fun p o e1 e2 h => mv p o e2 (keep p o e1 e2 h), B3, ps, cs, mv _ _ Db hD, lk.imp fun p _ x => ⟨x.1, x.2.1, x.2.2.1, mv _ _ x.2.1 x.2.2.2⟩, ?_, ?_⟩
          · rw [tk]
            exact sub.trans (List.sublist_append_left _ _)
          · intro kv h hh
            rw [tk] at h
            rcases List.mem_append.mp h with h | h
            · exact has kv h hh
            · rw [List.mem_singleton.mp h] at hh
              obtain ⟨y, hy, e⟩ := hh
              have e : (Sum.inr z : Key) = .inr y := e
              cases e
              exact (hno (decide_eq_true hy)).elim
    rintro G ⟨keep, BG, ps, cs, hD, lk, sub, has⟩
    rw [List.take_length] at sub has
    have hdG := keep _ _ dD db la
    have K1 : Kp b H (upd G d (.dK kvs)) := fun q o nq h => by
      by_cases e : q = d
      · rw [e, upd_same]
        rw [e, hd] at h
        exact h
      · rw [upd_ne e]
        exact keep _ _ (ne_of_none h nDH) nq (lo _ _ e h)
    have B1 : Bx (upd G d (.dK kvs)) b (n + kvs.length) := by
      obtain ⟨x, y, z, e, r⟩ := BG
      exact ⟨x, y, z, by rw [upd_ne db.symm]; exact e, r⟩
    have B1 := B1.more (show n + kvs.length ≤ n + 2 by have := hg.1; omega)
    have hD1 : upd G d (.dK kvs) D = some (.lst (ps.map V.ref)) := by
      rw [upd_ne dD.symm]
      exact hD
    have lk1 : Lk (fun (p : Addr) (kv : Key × V) => upd G d (.dK kvs) p = some (.tup [kV kv.1, kv.2])) ps cs := lk.imp fun p _ x => by
      rw [upd_ne x.2.2.1]
      exact x.2.2.2
    refine ⟨hdG, ?_⟩
    generalize upd G d (.dK kvs) = G1 at K1 B1 hD1 lk1
    dsimp only [tNil]
    refine ⟨D, ps, cs, rfl, SqL.of hD1, lk_paired (lk1.imp fun _ _ x => SqT.of x), fun p np => ?_⟩
    have nd2 : (cs.map (·.1)).Nodup := (sub.map _).nodup hg.2.2.2
    have em : mergeK [] cs = cs := merge_nd nd2
    rw [em]
    have pb : p ≠ b := B1.new np
    have nHp : H p = none := K1.free pb np
    have s2 : Same G1 (upd G1 p (.dK cs)) := same_nw np
    have t2 : upd G1 p (.dK cs) p = some (.dK cs) := upd_same
    generalize upd G1 p (.dK cs) = G2 at s2 t2
    have B2 := B1.same s2
    have K2 := K1.trans (Kp.same s2)
    have cl : cs.length ≤ 2 := Nat.le_trans sub.length_le hg.1
    have ce : ∀ kv ∈ cs, ∃ (z : Str) (n : Int), kv = (.inr z, .int n) ∧ z ∈ roots ∧ Rt z ∧ 0 ≤ n := fun kv h => by
      obtain ⟨z, m, e, hz, m0, _⟩ := hg.2.1 kv (sub.subset h)
      exact ⟨z, m, e, hz, hr0 z hz, m0⟩
    have cv : ∀ z ∈ known, z ∈ roots → valV cs (.inr z) = valV kvs (.inr z) := fun z h1 h2 => by
      obtain ⟨m, hm, _⟩ := hg.at h2
      obtain ⟨q, hq, e1, e2⟩ := valV_mem hm
      have h3 := valV_self nd2 q (has q hq ⟨z, h1, e1⟩)
      rw [e1, e2] at h3
      rw [h3, hm]
    have fin : ∀ (ls : List (Key × V)) (G : Hp), ls.length ≤ 2 → (∀ kv ∈ ls, ∃ (z : Str) (n : Int), kv = (.inr z, .int n) ∧ Rt z ∧ 0 ≤ n) → (∀ z ∈ known, z ∈ roots → valV ls (.inr z) = valV kvs (.inr z)) → Bx G b (n + 6) → Kp b H G → G p = some (.dK ls) → Q (.ref p) G := fun ls G h1 h2 h3 h4 h5 h6 => q p ls G h1 h2 h3 h4 h5 nHp h6
    have ce2 : ∀ kv ∈ cs, ∃ (z : Str) (n : Int), kv = (.inr z, .int n) ∧ Rt z ∧ 0 ≤ n := fun kv h => by
      obtain ⟨z, m, e, _, h1, h2⟩ := ce kv h
      exact ⟨z, m, e, h1, h2⟩
    have hrl2 := K2 _ _ rlb hrl
    refine ⟨_, rfl, p, cs, rfl, t2, _, _, rfl, rfl, _, rfl, ite2 (fun hlt => ?_) (fun _ => ?_)⟩
    · refine ⟨_, rfl, b, n + 2, 2, rfl, B2, by omega, by decide, by decide, fun r H3 r0 r1 B3 K3 => ⟨rfl, _, rfl, ite2 (fun _ => ?_) (fun _ => ?_)⟩⟩
      · refine ⟨(by show 3 ≤ sizeLine; omega), fun pl npl => ?_⟩
        have s4 : Same H3 (upd H3 pl (.lst ((["q", "qq", "qqq"] : List Str).map V.str))) := same_nw npl
        have t4 : upd H3 pl (.lst ((["q", "qq", "qqq"] : List Str).map V.str)) pl = some (.lst ((["q", "qq", "qqq"] : List Str).map V.str)) := upd_same
        generalize hH4 : upd H3 pl _ = H4
        rw [show upd H3 pl (.lst ((["q", "qq", "qqq"] : List Str).map V.str)) = H4 from hH4] at s4 t4
        clear hH4
        have K4 := K2.trans (K3.trans (Kp.same s4))
        have B4 := B3.same s4
        have hrl4 := s4 _ _ (K3 _ _ rlb hrl2)
        have hp4 := s4 _ _ (K3 _ _ pb t2)
        refine ⟨pl, rfl, ⟨_, SqL.of t4⟩, fun D2 nD2 => ?_⟩
        have D2b : D2 ≠ b := B4.new nD2
        refine lc_it (walk_list (xs := (["q", "qq", "qqq"] : List Str).map V.str)) (fun i H' => (∀ p o, p ≠ D2 → H4 p = some o → H' p = some o) ∧ H' D2 = some (.lst ((((["q", "qq", "qqq"] : List Str).take i).filter fun z => !decide (z ∈ roots)).map V.str)))
          ⟨fun p o n e => by rw [upd_ne n]; exact e, upd_same⟩ (fun i H' _ h => SqL.of (h.1 _ _ (ne_of_none t4 nD2) t4)) ?_ ?_
        · rintro i x G3 G4 hi ⟨keep2, hD2⟩ ⟨rfl, hx⟩
          rw [List.getElem?_map] at hx
          obtain ⟨z, hz, rfl⟩ := Option.map_eq_some_iff.mp hx
          have tk : (["q", "qq", "qqq"] : List Str).take (i + 1) = (["q", "qq", "qqq"] : List Str).take i ++ [z] := by rw [List.take_succ, hz]; rfl
          refine ⟨rfl, _, rfl, _, rfl, rl, _, rfl, .inl (SqL.of (keep2 _ _ (ne_of_none hrl4 nD2) hrl4)), rfl, flat_strs, _, rfl, ?_⟩
          show if (!inV (.str z) (roots.map V.str)) = true then _ else _
          rw [inV_strs, tk]
          refine ite2 (fun hy => ?_) (fun hy => ?_)
          · refine ⟨_, rfl, _, hD2, ?_, fun p o n e => by rw [upd_ne n]; exact keep2 p o n e, ?_⟩
            · have l1 := List.length_filter_le (fun z => !decide (z ∈ roots)) ((["q", "qq", "qqq"] : List Str).take i)
              rw [List.length_take] at l1
              rw [List.length_map]
              have : (["q", "qq", "qqq"] : List Str).length = 3 := rfl
              omega
            · rw [upd_same, List.filter_append, List.map_append, show ([z] : List Str).filter (fun z => !decide (z ∈ roots)) = [z] by rw [List.filter_cons, if_pos hy]; rfl]
              rfl
          · refine ⟨keep2, ?_⟩
            rw [hD2, List.filter_append, show ([z] : List Str).filter (fun z => !decide (z ∈ roots)) = [] by rw [List.filter_cons, if_neg hy]; rfl, List.append_nil]
        rintro G5 ⟨keep2, hD2⟩
        have s5 : Same H4 G5 := fun p o e => keep2 p o (ne_of_none e nD2) e
        have e3 : (["q", "qq", "qqq"] : List Str).take ((["q", "qq", "qqq"] : List Str).map V.str).length = (["q", "qq", "qqq"] : List Str) := rfl
        rw [e3] at hD2
        generalize hF : (["q", "qq", "qqq"] : List Str).filter (fun z => !decide (z ∈ roots)) = F at hD2
        have hF1 : ∀ y ∈ F, y ∈ (["q", "qq", "qqq"] : List Str) ∧ y ∉ roots := fun y hy => by
          rw [← hF] at hy
          obtain ⟨h1, h2⟩ := List.mem_filter.mp hy
          refine ⟨h1, fun h3 => ?_⟩
          rw [decide_eq_true h3] at h2
          cases h2
        have hF2 : F ≠ [] := fun e => by
          have h3 : ∀ x ∈ (["q", "qq", "qqq"] : List Str), x ∈ roots := fun x hx => by
            by_cases hh : x ∈ roots
            · exact hh
            · have : x ∈ F := by
                rw [← hF]
                exact List.mem_filter.mpr ⟨hx, by rw [decide_eq_false hh]; rfl⟩
              rw [e] at this
              cases this
          have := K11.nodup_le (["q", "qq", "qqq"] : List Str) roots (by decide +kernel) h3
          have : (["q", "qq", "qqq"] : List Str).length = 3 := rfl
          omega
        obtain ⟨y, F', rfl⟩ := List.exists_cons_of_ne_nil hF2
        obtain ⟨hy1, hy2⟩ := hF1 y List.mem_cons_self
        have ry : Rt y := by
          have : ∀ y ∈ (["q", "qq", "qqq"] : List Str), Rt y := by
            unfold Rt Sm
            decide +kernel
          exact this y hy1
        have B5 := B4.same s5
        have K5 := K4.trans (Kp.same s5)
        refine ⟨_, rfl, b, n + 3, 99, rfl, B5, by omega, by decide, by decide, fun v H6 v0 v1 B6 K6 => ?_⟩
        have hp6 := K6 _ _ pb (s5 _ _ hp4)
        refine ⟨_, rfl, _, rfl, D2, _, _, _, rfl, rfl, SqL.of (K6 _ _ D2b hD2), (show atI ((y :: F').map V.str) ((0 : Nat) : Int) = some (.str y) from atI_nat rfl), p, _, rfl, DPut.k (k := .inr y) hp6 (by omega), ?_⟩
        refine ⟨_, rfl, fin _ _ ?_ ?_ ?_ ?_ ?_ upd_same⟩
        · have h1 := length_putK cs (.inr y) (.int v)
          have h2 : (cs.length : Int) < 2 := of_decide_eq_true hlt
          omega
        · intro kv h
          rcases put_mem h with h | h
          · exact ce2 kv h
          · exact ⟨y, v, h, ry, v0⟩
        · intro z h1 h2
          rw [valV_put, if_neg (fun e => hy2 (by have e := Sum.inr.inj e; rw [← e]; exact h2))]
          exact cv z h1 h2
        · obtain ⟨x1, y1, z1, e, r⟩ := B6.more (show n + 3 + 1 ≤ n + 6 by omega)
          exact ⟨x1, y1, z1, by rw [upd_ne pb.symm]; exact e, r⟩
        · intro q o nq h
          rw [upd_ne (ne_of_none h nHp)]
          exact K6 _ _ nq (K5 _ _ nq h)
      · exact ⟨_, rfl, fin cs H3 cl ce2 cv (B3.more (by omega)) (K2.trans K3) (K3 _ _ pb t2)⟩
    · exact ⟨_, rfl, fin cs G2 cl ce2 cv (B2.more (by omega)) K2 t2⟩

end
end Mz
set_option Elab.async false
set_option linter.all false
set_option maxRecDepth 100000
set_option maxHeartbeats 4000000
/-! another setting's sizes and page -/
namespace Mz
open PySem PySem.Spec PyProof.Rows L2
theorem cr_intB {X : Cx} : CallR X (.type "int") (fun xs H Q => ∃ b : Bool, xs = [.bl b] ∧ Q (.int (if b then 1 else 0)) H) := by
  intro pins s σ H xs us Q I rs h
  obtain ⟨b, rfl, h⟩ := h
  cases rs with
  | cons r1 rs =>
    cases rs
    cases r1
    exact call_int_bool ⟨.int (if b then 1 else 0), H, I.tok _, ⟨_, rfl⟩, h⟩
def spOther : Sp := fun vs H Q _ => ∃ (b d rl : Addr) (n : Nat) (roots : List Str) (kvs : List (Key × V)) (m : Int), vs = [.ref b, .ref d, .int m, .ref rl] ∧ Bx H b n ∧ n ≤ 700000 ∧ H d = some (.dK kvs) ∧ GrN 0 (10 ^ 50) roots kvs ∧ roots.length ≤ 2 ∧
  H rl = some (.lst (roots.map V.str)) ∧ 1 ≤ m ∧ m < 10 ^ 16 ∧
  ∀ (t p : Addr) (ls : List (Key × V)) (pg : Int) (H' : Hp), GrN (-1) (10 ^ 60) roots ls → 1 ≤ pg → pg < 10 ^ 17 → Bx H' b (n + 20) → Kp b H H' → H p = none → H' p = some (.dK ls) → H t = none → H' t = some (.tup [.ref p, .int pg]) → Q (.ref t) H'
section
variable {P : Program} {w : World} {K : PySem.W.Frag} {mg : Str → Option Value} {base : Heap}
theorem scOther : FnScope ["_law_box_here", "_law_sizes", "_law_much_here", "_law_roots_here", "_law_way", "_law_more", "_law_some", "_law_wide", "_law_root", "_law_at"] ["_law_box_here", "_law_sizes", "_law_much_here", "_law_roots_here"] (defScope sOther) := ⟨rfl, rfl, rfl, by decide +kernel, rfl, by decide +kernel, by decide +kernel⟩
theorem ok_other {f f1 fG : Addr} {fd fd1 fdG : FuncData} (F : Fun K "_law_other" "_law_other" sOther f fd) (T : Tk P w K mg base f1 fd1) (B : Blt mg) (mDct : mg "dict" = none) (mEn : mg "enumerate" = none) (GGr : D1 P w K mg base "_law_great" 3 ["_law_box_here", "_law_roots_here", "_law_much_here"] spGreat fG fdG) :
    FnOk P w K mg base CX0 4 f fd ["_law_box_here", "_law_sizes", "_law_much_here", "_law_roots_here"] spOther := by
  refine F.ok scOther (fun vs H Q E h => ?_) (fun cdv A outer s H vs Q E hr h => ?_)
  · obtain ⟨b, d, rl, n, roots, kvs, m, rfl, _⟩ := h
    rfl
  · obtain ⟨b, d, rl, n, roots, kvs, m, rfl, hB, hn, hd, hg, l2, hrl, m1, m2, q⟩ := h
    have nd := scOther.nd
    have hu := hu_of hr
    have hr1 : Room 1 _ := hr.mono (by decide)
    have hr3 : Room 3 _ := hr.mono (by decide)
    refine ⟨_, (pss_cons (ps_set (i := 4) nd rfl (Or.inl rfl) (pe_call T.ok hr1 (by rfl) T.m T.k T.b .nil pass0 (pa_cons (pv 0) (pa_cons pe_int pa_nil))))
      (pss_cons (ps_if (pt_cmpR op_eq (pv 4) pe_int (nomark _)) (pss_one (ps_ret (pe_tup (pa_cons (pe_call GGr.ok hr3 (by rfl) GGr.m GGr.k GGr.b .nil pass0 (pa_cons (pv 0) (pa_cons (pv 3) (pa_cons (pv 2) pa_nil)))) (pa_cons (pv 2) pa_nil))))) pss_nil)
      (pss_cons (ps_if (pt_cmpR op_eq (pv 4) pe_int (nomark _)) (pss_one (ps_ret (pe_tup (pa_cons (pe_callTy (call_dictP rfl) (by rfl) mDct (by decide +kernel) (pa_cons (pe_lc (own := [("_law_root", 8)]) (g := gName 8) (tt := tYes) rfl nd (pi_list (pv 3)) (blkOk_by (N := ["_law_box_here", "_law_sizes", "_law_much_here", "_law_roots_here", "_law_way", "_law_more", "_law_some", "_law_wide", "_law_root", "_law_at"]) (sc := defScope sOther) (by decide +kernel)) (fun _ _ _ _ _ => (pg_name (i := 8) nd rfl (Or.inl rfl))) (fun _ _ _ _ _ => pts_nil) (fun _ _ _ _ _ => (pe_tup (pa_cons (pv 8) (pa_cons (pe_op op_sub (pe_op op_add (pe_dget hu (pv 1) (pv 8) (fun _ _ => rfl)) (pe_call T.ok hr1 (by rfl) T.m T.k T.b .nil pass0 (pa_cons (pv 0) (pa_cons pe_int pa_nil)))) pe_int) pa_nil))))) pa_nil)) (pa_cons (pv 2) pa_nil))))) pss_nil)
      (pss_cons (ps_if (pt_cmpR op_eq (pv 4) pe_int (nomark _)) (pss_cons (ps_set (i := 5) nd rfl (Or.inr rfl) (pe_op op_mul (pv 2) (pe_call T.ok hr1 (by rfl) T.m T.k T.b .nil pass0 (pa_cons (pv 0) (pa_cons pe_int pa_nil)))))
      (pss_one (ps_ret (pe_tup (pa_cons (pe_callTy (call_dictP rfl) (by rfl) mDct (by decide +kernel) (pa_cons (pe_lc (own := [("_law_root", 8)]) (g := gName 8) (tt := tYes) rfl nd (pi_list (pv 3)) (blkOk_by (N := ["_law_box_here", "_law_sizes", "_law_much_here", "_law_roots_here", "_law_way", "_law_more", "_law_some", "_law_wide", "_law_root", "_law_at"]) (sc := defScope sOther) (by decide +kernel)) (fun _ _ _ _ _ => (pg_name (i := 8) nd rfl (Or.inl rfl))) (fun _ _ _ _ _ => pts_nil) (fun _ _ _ _ _ => (pe_tup (pa_cons (pv 8) (pa_cons (pe_op op_add (pe_dget hu (pv 1) (pv 8) (fun _ _ => rfl)) (pv 5)) pa_nil))))) pa_nil)) (pa_cons (pv 2) pa_nil)))))) pss_nil)
      (pss_cons (ps_if (pt_cmpR op_eq (pv 4) pe_int (nomark _)) (pss_cons (ps_setLc (i := 6) (own := [("_law_at", 9), ("_law_root", 8)]) (g := gTup K 2 (gCons (gName 9) (gCons (gName 8) (gNil)))) (tt := tYes) rfl nd rfl rfl (sw_true rfl rfl rfl (by decide +kernel)) (pi_enum rfl mEn (pa_cons (pv 3) pa_nil)) (blkOk_by (N := ["_law_box_here", "_law_sizes", "_law_much_here", "_law_roots_here", "_law_way", "_law_more", "_law_some", "_law_wide", "_law_root", "_law_at"]) (sc := defScope sOther) (by decide +kernel)) (fun _ _ _ _ _ => pg_tup (by rfl) (pgs_cons (pg_name (i := 9) nd rfl (Or.inl rfl)) (pgs_cons (pg_name (i := 8) nd rfl (Or.inl rfl)) (pgs_nil)))) (fun _ _ _ _ _ => pts_nil) (fun _ _ _ _ _ => (pe_tup (pa_cons (pv 8) (pa_cons (pe_op op_add (pe_dget hu (pv 1) (pv 8) (fun _ _ => rfl)) (pe_op op_mul (pv 2) (pe_callTy cr_intB (by rfl) B.int (by decide +kernel) (pa_cons (pe_cmpR op_eq (pv 9) pe_int (nomark _)) pa_nil)))) pa_nil)))))
      (pss_one (ps_ret (pe_tup (pa_cons (pe_callTy (call_dictP rfl) (by rfl) mDct (by decide +kernel) (pa_cons (pv 6) pa_nil)) (pa_cons (pv 2) pa_nil)))))) pss_nil)
      (pss_cons (ps_set (i := 7) nd rfl (Or.inr rfl) (pe_op op_add (pv 2) (pe_ix ix_list (pe_lst (pa_cons pe_int (pa_cons pe_int (pa_cons (pe_op op_pow pe_int pe_int) pa_nil)))) (pe_call T.ok hr1 (by rfl) T.m T.k T.b .nil pass0 (pa_cons (pv 0) (pa_cons pe_int pa_nil))) (fun _ _ => rfl))))
      (pss_cons (ps_setLc (i := 6) (own := [("_law_root", 8)]) (g := gName 8) (tt := tYes) rfl nd rfl rfl (sw_true rfl rfl rfl (by decide +kernel)) (pi_list (pv 3)) (blkOk_by (N := ["_law_box_here", "_law_sizes", "_law_much_here", "_law_roots_here", "_law_way", "_law_more", "_law_some", "_law_wide", "_law_root", "_law_at"]) (sc := defScope sOther) (by decide +kernel)) (fun _ _ _ _ _ => (pg_name (i := 8) nd rfl (Or.inl rfl))) (fun _ _ _ _ _ => pts_nil) (fun _ _ _ _ _ => (pe_tup (pa_cons (pv 8) (pa_cons (pe_op op_add (pe_op op_mulW (pv 7) (pe_op op_fdivW (pe_dget hu (pv 1) (pv 8) (fun _ _ => rfl)) (pv 2))) (pe_op op_mod (pe_callTy call_int1 (by rfl) B.int (by decide +kernel) (pa_cons (pe_dget hu (pv 1) (pv 8) (fun _ _ => rfl)) pa_nil)) (pv 2))) pa_nil)))))
      (pss_one (ps_ret (pe_tup (pa_cons (pe_callTy (call_dictP rfl) (by rfl) mDct (by decide +kernel) (pa_cons (pv 6) pa_nil)) (pa_cons (pe_ifExp (pt_cmpR op_eq (pv 4) pe_int (nomark _)) (pv 7) (pv 2)) pa_nil)))))))))))), ?_⟩
    have rlb : rl ≠ b := hB.off hrl fun x y z e => by
      have e : roots.map V.str = [V.int x, V.int y, V.int z] := HO.lst.inj e
      cases roots with
      | nil => cases e
      | cons a r => cases e
    have db : d ≠ b := hB.off hd fun x y z e => nomatch e
    have e50 : (10 : Int) ^ 50 = 100000000000000000000000000000000000000000000000000 := by decide
    have e60 : (10 : Int) ^ 60 = 1000000000000000000000000000000000000000000000000000000000000 := by decide
    have e16 : (10 : Int) ^ 16 = 10000000000000000 := by decide
    have e17 : (10 : Int) ^ 17 = 100000000000000000 := by decide
    rw [e16] at m2
    have sb : 1000 ≤ sizeLine := by decide
    refine ⟨_, rfl, b, n, 6, rfl, hB, by omega, by decide, by decide, fun way H1 w0 w1 B1 K1 => ?_⟩
    have hd1 := K1 _ _ db hd
    have hrl1 := K1 _ _ rlb hrl
    -- the end
    have fin : ∀ (p : Addr) (ls : List (Key × V)) (pg : Int) (G : Hp), GrN (-1) (10 ^ 60) roots ls → 1 ≤ pg → pg < 10 ^ 17 → Bx G b (n + 20) → Kp b H G → H p = none → G p = some (.dK ls) → 2 ≤ sizeLine ∧ ∀ t, G t = none → Q (.ref t) (upd G t (.tup [.ref p, .int pg])) := fun p ls pg G g p1 p2 BG KG np hp => ⟨by omega, fun t nt => q t p ls pg _ g p1 p2 (BG.same (same_nw nt)) (KG.trans (Kp.same (same_nw nt))) np (by rw [upd_ne (ne_of_none hp nt)]; exact hp) (KG.free (BG.new nt) nt) upd_same⟩
    refine ⟨_, rfl, rfl, _, rfl, ite2 (fun _ => ?_) (fun _ => ?_)⟩
    · refine ⟨_, rfl, _, rfl, _, rfl, b, rl, n + 1, roots, m, rfl, B1, by omega, hrl1, l2, m1, by rw [e17]; omega, fun p ls H2 g B2 K2 np hp => ?_⟩
      refine ⟨_, rfl, fin p ls m H2 (g.mono (by omega) (by omega)) m1 (by rw [e17]; omega) (B2.more (by omega)) (K1.trans K2) (K1.free ?_ np) hp⟩
      exact B2.off hp fun x y z e => nomatch e
    have fin2 : ∀ (G0 : Hp) (c : Nat) (D : Addr) (G : Hp), c ≤ 10 → Kp b H G0 → G0 D = none → Pd b D G0 (n + c) (-1) (10 ^ 60) roots roots.length G →
        ∃ (ps : List Addr) (ks : List (Key × V)), SqL K G D (ps.map V.ref) ∧ Paired (fun p kv => SqT K G p [kV kv.1, kv.2]) ps ks ∧ ∀ p, G p = none → ∀ pg : Int, 1 ≤ pg → pg < 10 ^ 17 → (2 ≤ sizeLine ∧ ∀ t, upd G p (.dK (mergeK [] ks)) t = none → Q (.ref t) (upd (upd G p (.dK (mergeK [] ks))) t (.tup [.ref p, .int pg]))) := by
      intro G0 c D G hc KG0 nD h
      obtain ⟨ps, ks, h1, h2, h3⟩ := h.done (K := K) l2
      have KG := KG0.trans (h.keep nD)
      refine ⟨ps, ks, h1, h2, fun p np pg p1 p2 => fin p _ pg _ h3 p1 p2 ((h.2.1.upd np).more (by omega)) (KG.trans (Kp.same (same_nw np))) (KG.free (h.2.1.new np) np) upd_same⟩
    have dz : ∀ z ∈ roots, ∃ u : Int, valV kvs (.inr z) = some (.int u) ∧ 0 ≤ u ∧ u < 100000000000000000000000000000000000000000000000000 := fun z hz => by
      obtain ⟨u, h1, h2, h3⟩ := hg.at hz
      rw [e50] at h3
      exact ⟨u, h1, h2, h3⟩
    have at_ : ∀ {i : Nat} {x : V}, (roots.map V.str)[i]? = some x → ∃ z, x = .str z ∧ roots[i]? = some z ∧ z ∈ roots := fun {i x} h => by
      rw [List.getElem?_map] at h
      obtain ⟨z, hz, rfl⟩ := Option.map_eq_some_iff.mp h
      exact ⟨z, rfl, hz, List.mem_of_getElem? hz⟩
    refine ⟨_, rfl, rfl, _, rfl, ite2 (fun _ => ?_) (fun _ => ?_)⟩
    · refine ⟨_, rfl, rl, rfl, ⟨_, SqL.of hrl1⟩, fun D nD => ?_⟩
      refine lc_it (walk_list (xs := roots.map V.str)) (Pd b D H1 (n + 1) (-1) (10 ^ 60) roots) (Pd.start nD B1) (fun i H' _ h => SqL.of (h.keep nD _ _ rlb hrl1)) ?_ ?_
      · rintro i x G1 G2 hi h ⟨rfl, hx⟩
        obtain ⟨z, rfl, hz, hm⟩ := at_ hx
        obtain ⟨u, hu, u0, u1⟩ := dz z hm
        rw [List.length_map] at hi
        refine ⟨rfl, yesT ?_⟩
        refine ⟨_, rfl, _, rfl, _, rfl, d, _, rfl, (by rw [← hu]; exact DGet.k (k := Sum.inr z) (h.keep nD _ _ db hd1)), ?_⟩
        refine ⟨_, rfl, b, n + 1 + i, 3, rfl, h.2.1, by omega, by decide, by decide, fun r G3 r0 r1 B3 K3 => ⟨_, _, rfl, rfl, _, _, rfl, rfl, (by show 2 ≤ sizeLine; omega), fun W nW => ?_⟩⟩
        exact h.put K3 B3 hz l2 (by omega) (by rw [e60]; omega) nW
      rintro G h
      rw [List.length_map] at h
      obtain ⟨ps, ks, h1, h2, h3⟩ := fin2 H1 1 D G (by omega) K1 nD h
      exact ⟨D, ps, ks, rfl, h1, h2, fun p np => ⟨_, rfl, h3 p np m m1 (by rw [e17]; omega)⟩⟩
    refine ⟨_, rfl, rfl, _, rfl, ite2 (fun _ => ?_) (fun _ => ?_)⟩
    · refine ⟨_, rfl, _, rfl, b, n + 1, 5, rfl, B1, by omega, by decide, by decide, fun r H2 r0 r1 B2 K2 => ⟨_, _, rfl, rfl, .inl ⟨by omega, by omega⟩, ?_⟩⟩
      have b1 : 0 ≤ m * r := Int.mul_nonneg (by omega) r0
      have b2 : m * r ≤ 10000000000000000 * 5 := Int.mul_le_mul (by omega) (by omega) r0 (by decide)
      have hd2 := K2 _ _ db hd1
      have hrl2 := K2 _ _ rlb hrl1
      refine ⟨_, rfl, rl, rfl, ⟨_, SqL.of hrl2⟩, fun D nD => ?_⟩
      refine lc_it (walk_list (xs := roots.map V.str)) (Pd b D H2 (n + 2) (-1) (10 ^ 60) roots) (Pd.start nD B2) (fun i H' _ h => SqL.of (h.keep nD _ _ rlb hrl2)) ?_ ?_
      · rintro i x G1 G2 hi h ⟨rfl, hx⟩
        obtain ⟨z, rfl, hz, hm⟩ := at_ hx
        obtain ⟨u, hu, u0, u1⟩ := dz z hm
        refine ⟨rfl, yesT ?_⟩
        refine ⟨_, rfl, _, rfl, _, rfl, d, _, rfl, (by rw [← hu]; exact DGet.k (k := Sum.inr z) (h.keep nD _ _ db hd2)), ?_⟩
        refine ⟨_, rfl, _, _, rfl, rfl, (by show 2 ≤ sizeLine; omega), fun W nW => ?_⟩
        exact h.put Kp.refl (h.2.1.more (by omega)) hz l2 (by omega) (by rw [e60]; omega) nW
      rintro G h
      rw [List.length_map] at h
      obtain ⟨ps, ks, h1, h2, h3⟩ := fin2 H2 2 D G (by omega) (K1.trans K2) nD h
      exact ⟨D, ps, ks, rfl, h1, h2, fun p np => ⟨_, rfl, h3 p np m m1 (by rw [e17]; omega)⟩⟩
    refine ⟨_, rfl, rfl, _, rfl, ite2 (fun _ => ?_) (fun _ => ?_)⟩
    · refine ⟨_, rfl, rl, _, rfl, SqL.of hrl1, fun D nD => ?_⟩
      refine lc_it (walk_enum (xs := roots.map V.str)) (Pd b D H1 (n + 1) (-1) (10 ^ 60) roots) (Pd.start nD B1) (fun i H' _ h => SqL.of (h.keep nD _ _ rlb hrl1)) ?_ ?_
      · rintro i x G1 G2 hi h ⟨T, x1, y1, rfl, nT, rfl, e1, e2⟩
        have e1 : some (V.int (i : Nat)) = some x1 := e1
        have e2 : (roots.map V.str)[i]? = some y1 := e2
        cases e1
        obtain ⟨z, rfl, hz, hm⟩ := at_ e2
        obtain ⟨u, hu, u0, u1⟩ := dz z hm
        have sT : Same G1 (upd G1 T (.tup [.int (i : Nat), .str z])) := same_nw nT
        have tT : upd G1 T (.tup [.int (i : Nat), .str z]) T = some (.tup [.int (i : Nat), .str z]) := upd_same
        generalize upd G1 T (.tup [.int (i : Nat), .str z]) = G2 at sT tT
        refine ⟨T, _, rfl, SqT.of tT, rfl, _, _, rfl, _, _, rfl, rfl, ?_⟩
        refine ⟨rfl, yesT ?_⟩
        refine ⟨_, rfl, _, rfl, _, rfl, d, _, rfl, (by rw [← hu]; exact DGet.k (k := Sum.inr z) (sT _ _ (h.keep nD _ _ db hd1))), ?_⟩
        refine ⟨_, rfl, _, rfl, rfl, _, rfl, ?_⟩
        generalize decide (V.int (i : Nat) = V.int 0) = bb
        refine ⟨_, _, rfl, rfl, .inl ⟨by cases bb <;> simp <;> omega, by cases bb <;> simp <;> omega⟩, _, _, rfl, rfl, (by show 2 ≤ sizeLine; omega), fun W nW => ?_⟩
        have hv : 0 ≤ m * (if bb = true then 1 else 0) ∧ m * (if bb = true then 1 else 0) ≤ m := by
          cases bb
          · rw [if_neg Bool.false_ne_true, Int.mul_zero]
            omega
          · rw [if_pos rfl, Int.mul_one]
            omega
        exact h.put (Kp.same sT) ((h.2.1.same sT).more (by omega)) hz l2 (by omega) (by rw [e60]; omega) nW
      rintro G h
      rw [List.length_map] at h
      obtain ⟨ps, ks, h1, h2, h3⟩ := fin2 H1 1 D G (by omega) K1 nD h
      exact ⟨_, rfl, D, ps, ks, rfl, h1, h2, fun p np => ⟨_, rfl, h3 p np m m1 (by rw [e17]; omega)⟩⟩
    refine ⟨_, rfl, _, _, rfl, rfl, ⟨by decide, by decide, by decide⟩, (by show 3 ≤ sizeLine; omega), fun lp nlp => ?_⟩
    have e6 : (10 : Int) ^ (6 : Int).toNat = 1000000 := by decide
    have s2 : Same H1 (upd H1 lp (.lst [.int 1, .int 7, .int (10 ^ (6 : Int).toNat)])) := same_nw nlp
    have t2 : upd H1 lp (.lst [.int 1, .int 7, .int (10 ^ (6 : Int).toNat)]) lp = some (.lst [.int 1, .int 7, .int (10 ^ (6 : Int).toNat)]) := upd_same
    generalize upd H1 lp (.lst [.int 1, .int 7, .int (10 ^ (6 : Int).toNat)]) = H2 at s2 t2
    refine ⟨_, rfl, b, n + 1, 3, rfl, B1.same s2, by omega, by decide, by decide, fun r H3 r0 r1 B3 K3 => ?_⟩
    obtain ⟨c, hc, hm⟩ := atI_in (l := [V.int 1, V.int 7, V.int (10 ^ (6 : Int).toNat)]) (i := r) r0 r1
    refine ⟨lp, _, _, _, rfl, rfl, SqL.of (K3 _ _ (B1.new nlp) t2), hc, ?_⟩
    obtain ⟨c, rfl, c0, c1⟩ : ∃ i : Int, c = .int i ∧ 1 ≤ i ∧ i ≤ 1000000 := by
      simp only [List.mem_cons, List.not_mem_nil, or_false] at hm
      rcases hm with rfl | rfl | rfl
      · exact ⟨_, rfl, by omega, by omega⟩
      · exact ⟨_, rfl, by omega, by omega⟩
      · exact ⟨_, rfl, by rw [e6]; omega, by rw [e6]; omega⟩
    have KG3 := K1.trans ((Kp.same s2).trans K3)
    have hd3 := KG3 _ _ db hd
    have hrl3 := KG3 _ _ rlb hrl
    refine ⟨_, _, rfl, rfl, ?_⟩
    refine ⟨_, rfl, rl, rfl, ⟨_, SqL.of hrl3⟩, fun D nD => ?_⟩
    refine lc_it (walk_list (xs := roots.map V.str)) (Pd b D H3 (n + 2) (-1) (10 ^ 60) roots) (Pd.start nD B3) (fun i H' _ h => SqL.of (h.keep nD _ _ rlb hrl3)) ?_ ?_
    · rintro i x G1 G2 hi h ⟨rfl, hx⟩
      obtain ⟨z, rfl, hz, hm⟩ := at_ hx
      obtain ⟨u, hu, u0, u1⟩ := dz z hm
      refine ⟨rfl, yesT ?_⟩
      have hg : DGet G2 d (.str z) (some (.int u)) := by
        rw [← hu]
        exact DGet.k (k := Sum.inr z) (h.keep nD _ _ db hd3)
      have d0 : 0 ≤ u / m := Int.ediv_nonneg u0 (by omega)
      have d1 : u / m ≤ u := Int.ediv_le_self m u0
      have mm : m * (u / m) ≤ u := Int.mul_ediv_self_le (by omega)
      have cm : c * (u / m) ≤ 1000000 * u := Int.mul_le_mul c1 d1 d0 (by decide)
      have cn : 0 ≤ c * (u / m) := Int.mul_nonneg (by omega) d0
      have mn : 0 ≤ m * (u / m) := Int.mul_nonneg (by omega) d0
      have ed : (m + c) * (u / m) = m * (u / m) + c * (u / m) := Int.add_mul _ _ _
      have r0 := Int.emod_nonneg u (b := m) (by omega)
      have r1 := Int.emod_lt_of_pos u (b := m) (by omega)
      refine ⟨_, rfl, _, rfl, _, rfl, _, rfl, d, _, rfl, hg, _, rfl, _, _, rfl, rfl, ⟨by omega, small_log (by omega) (by omega)⟩, _, _, rfl, rfl, wide_mul (a := 60) (b := 200) (by omega) (by omega) (by decide) (by decide) (by decide), ?_⟩
      refine ⟨_, rfl, _, rfl, d, _, rfl, hg, .inl ⟨_, rfl, _, rfl, _, _, rfl, rfl, (by show 0 < m; omega), _, _, rfl, rfl, (by show 2 ≤ sizeLine; omega), fun W nW => ?_⟩⟩
      exact h.put Kp.refl (h.2.1.more (by omega)) hz l2 (by omega) (by rw [e60]; omega) nW
    rintro G h
    rw [List.length_map] at h
    obtain ⟨ps, ks, h1, h2, h3⟩ := fin2 H3 2 D G (by omega) KG3 nD h
    refine ⟨_, rfl, D, ps, ks, rfl, h1, h2, fun p np => ⟨_, rfl, rfl, _, rfl, ite2 (fun _ => ?_) (fun _ => ?_)⟩⟩
    · exact ⟨_, rfl, h3 p np (m + c) (by omega) (by rw [e17]; omega)⟩
    · exact ⟨_, rfl, h3 p np m m1 (by rw [e17]; omega)⟩

end
end Mz
set_option Elab.async false
set_option linter.all false
set_option maxRecDepth 100000
set_option maxHeartbeats 4000000
/-! str of what stands for a place -/
namespace Mz
open PySem PySem.Spec PyProof.Rows L2
theorem ix_m2 (n : Nat) : HT.sIx n n (some (-2)) = n - 2 ∧ HT.sIx n 0 (some (-2)) = n - 2 := by
  constructor
  · show (if (-2 : Int) < 0 then ((-2 : Int) + (n : Int)).toNat else min (-2 : Int).toNat n) = n - 2
    rw [if_pos (by decide)]
    omega
  · show (if (-2 : Int) < 0 then ((-2 : Int) + (n : Int)).toNat else min (-2 : Int).toNat n) = n - 2
    rw [if_pos (by decide)]
    omega
theorem head_list (w : Str) : (headS w).cps.toList = w.cps.toList.take (w.length - 2) := by
  show (((w.cps.toList.drop (HT.sIx w.length 0 none)).take (HT.sIx w.length w.length (some (-2)) - HT.sIx w.length 0 none)).toArray).toList = _
  rw [(ix_m2 w.length).1, HT.sIx_none]
  simp
theorem tail_list (w : Str) : (tailS w).cps.toList = w.cps.toList.drop (w.length - 2) := by
  show (((w.cps.toList.drop (HT.sIx w.length 0 (some (-2)))).take (HT.sIx w.length w.length none - HT.sIx w.length 0 (some (-2)))).toArray).toList = _
  rw [(ix_m2 w.length).2, HT.sIx_none]
  show (w.cps.toList.drop (w.length - 2)).take (w.length - (w.length - 2)) = _
  refine List.take_of_length_le ?_
  rw [List.length_drop]
  exact Nat.le_refl _
theorem head_tail (w : Str) : "" ++ headS w ++ tailS w = w := by
  refine str_ext ?_
  rw [app_list, app_list, nil_list, head_list, tail_list, List.nil_append, List.take_append_drop]
theorem sh_sign {y : Str} {k : Int} (h : shS y = some k) : y = signS k ∧ k ≠ 0 := by
  unfold shS at h
  repeat' split at h
  all_goals first
    | (rename_i e
       cases h
       subst e
       decide +kernel)
    | cases h
theorem name_ne {z : Str} (h : nameS z = true) : ¬ z = "" := fun e => by
  rw [e] at h
  exact absurd h (by decide +kernel)
/-- what is read is written back as it was -/
theorem text_back {t z : Str} {k : Int} (h : partsS t = some (z, k)) : strP z k = t := by
  unfold partsS at h
  cases e : numS t with
  | some n =>
    rw [e] at h
    cases h
    unfold numS at e
    repeat' split at e
    all_goals first
      | (rename_i e1
         cases e
         subst e1
         decide +kernel)
      | cases e
  | none =>
    rw [e] at h
    dsimp only at h
    by_cases hn : nameS t = true
    · rw [if_pos hn] at h
      cases h
      unfold strP
      rw [if_neg (name_ne hn), if_pos rfl]
    · rw [if_neg hn] at h
      by_cases hh : nameS (headS t) = true
      · rw [if_pos hh] at h
        cases e2 : shS (tailS t) with
        | none =>
          rw [e2] at h
          cases h
        | some i =>
          rw [e2] at h
          cases h
          obtain ⟨e3, e4⟩ := sh_sign e2
          unfold strP
          rw [if_neg (name_ne hh), if_neg e4, ← e3]
          exact head_tail t
      · rw [if_neg hh] at h
        cases h
/-- what a place that is given reads as, as a text -/
theorem cut_to {t : Str} {n : Nat} : (cutS t none (some (n : Int))).cps.toList = t.cps.toList.take n := by
  show (((t.cps.toList.drop (HT.sIx t.length 0 none)).take (HT.sIx t.length t.length (some (n : Int)) - HT.sIx t.length 0 none)).toArray).toList = _
  have e1 : HT.sIx t.length 0 none = 0 := rfl
  have e2 : HT.sIx t.length t.length (some (n : Int)) = min n t.length := by
    show (if (n : Int) < 0 then ((n : Int) + (t.length : Int)).toNat else min (n : Int).toNat t.length) = _
    rw [if_neg (by omega)]
    simp
  rw [e1, e2]
  simp only [List.drop_zero, Nat.sub_zero]
  have l : t.cps.toList.length = t.length := len_cps t
  rw [← l]
  simp [List.take_take, Nat.min_comm]
theorem cut_from {t : Str} {n : Nat} : (cutS t (some (n : Int)) none).cps.toList = t.cps.toList.drop n := by
  show (((t.cps.toList.drop (HT.sIx t.length 0 (some (n : Int)))).take (HT.sIx t.length t.length none - HT.sIx t.length 0 (some (n : Int)))).toArray).toList = _
  have e2 : HT.sIx t.length t.length none = t.length := rfl
  have e1 : HT.sIx t.length 0 (some (n : Int)) = min n t.length := by
    show (if (n : Int) < 0 then ((n : Int) + (t.length : Int)).toNat else min (n : Int).toNat t.length) = _
    rw [if_neg (by omega)]
    simp
  rw [e1, e2]
  have l : t.cps.toList.length = t.length := len_cps t
  rcases Nat.le_total n t.length with h | h
  · rw [Nat.min_eq_left h]
    exact List.take_of_length_le (by rw [List.length_drop, l]; exact Nat.le_refl _)
  · rw [Nat.min_eq_right h, List.drop_of_length_le (by rw [l]; exact Nat.le_refl _), List.drop_of_length_le (by rw [l]; exact h)]
    simp
theorem abc_pm : ∀ c ∈ abc.cps.toList, c ∉ ("+-" : Str).cps.toList := by decide +kernel
theorem name_abc {z : Str} (h : nameS z = true) : ∀ c ∈ z.cps.toList, c ∈ abc.cps.toList := by
  have h2 : (z.cps.toList.all fun c => decide (c ∈ abc.cps.toList)) = true := (Bool.and_eq_true_iff.mp h).2
  exact fun c hc => of_decide_eq_true (List.all_eq_true.mp h2 c hc)
/-- the text of a place: its name and what is not of a name -/
theorem cr_or {X : Cx} {f : Value} {r1 r2 : List V → Hp → VK → Prop} (h1 : CallR X f r1) (h2 : CallR X f r2) : CallR X f (fun xs H Q => r1 xs H Q ∨ r2 xs H Q) := by
  intro pins s σ H xs us Q I r h
  rcases h with h | h
  · exact h1 pins s σ H xs us Q I r h
  · exact h2 pins s σ H xs us Q I r h
/-- str of a place, a number, a text -/
structure rStr3 (C : Addr) (xs : List V) (H : Hp) (Q : VK) : Prop where
  h : (∃ (a dx : Addr) (fs : List (Str × V)), xs = [.ref a] ∧ H a = some (.ins C dx fs) ∧ spStr C [.ref a] H (fun v H2 => ∃ z : Str, v = .str z ∧ Q (.str z) H2) E0) ∨
    (∃ i : Int, xs = [.int i] ∧ i.natAbs.log2 < 1920 ∧ Q (.str (Str.ofString (toString i))) H) ∨ ∃ a : Str, xs = [.str a] ∧ Q (.str a) H
theorem str3 {K : PySem.W.Frag} {C : Addr} {H : Hp} {v : V} {z : Str} {k : Int} {R : VK} (hv : Pv6 K C H v z k) (g : Good z k) (hq : R (.str (strP z k)) H) : rStr3 C [v] H R := by
  rcases hv with ⟨a2, rfl, pa⟩ | ⟨np, e⟩
  · obtain ⟨dx, e⟩ := id pa
    exact ⟨.inl ⟨a2, dx, _, rfl, e, a2, z, k, rfl, pa, g, _, rfl, hq⟩⟩
  · cases v with
    | int i =>
      have e : (if 0 ≤ i ∧ i ≤ 3 then some (("" : Str), i) else none) = some (z, k) := e
      by_cases h : 0 ≤ i ∧ i ≤ 3
      · rw [if_pos h] at e
        have e1 := Prod.mk.inj (Option.some.inj e)
        obtain ⟨ez, ek⟩ := e1
        subst ez
        subst ek
        refine ⟨.inr (.inl ⟨i, rfl, ?_, ?_⟩)⟩
        · have : i = 0 ∨ i = 1 ∨ i = 2 ∨ i = 3 := by omega
          rcases this with rfl | rfl | rfl | rfl <;> decide
        · have e2 : strP "" i = Str.ofString (toString i) := if_pos rfl
          rw [← e2]
          exact hq
      · rw [if_neg h] at e
        cases e
    | str t =>
      have e : partsS t = some (z, k) := e
      rw [text_back e] at hq
      exact ⟨.inr (.inr ⟨t, rfl, hq⟩)⟩
    | _ => cases e
theorem call_str3 {X : Cx} {C f : Addr} {fd : FuncData} (F : FnOk X.prog X.w X.K X.mg X.base CX0 1 f fd ["self"] (spStr C)) (hr : Room 3 X.A) (hb : Binds X.K fd ["self"] []) (hs : PySem.W.findIn X.K (.ref C) "__str__" = some (some (.ref f))) (hf : PySem.W.isFn X.K (.ref f) = true) : CallR X (.type "str") (rStr3 C) := by
  intro pins s σ H xs us Q I r h
  rcases h.h with h | h | h
  · exact call_strO F hr hb hs hf pins s σ H xs us Q I r h
  · exact call_str_int pins s σ H xs us Q I r h
  · exact SkE.call_str_str pins s σ H xs us Q I r h
theorem op_isnotB {X : Cx} : OpR X (compareOp .IsNot) (fun x y H Q => ∃ a b : Bool, x = .bl a ∧ y = .bl b ∧ Q (.bl (!(a == b))) H) := by
  intro pins s σ H x y v u Q I rx ry h
  obtain ⟨a, b, rfl, rfl, q⟩ := h
  cases rx
  cases ry
  exact wpAny_isNot_plain rfl (fin_bl I q (by cases a <;> cases b <;> rfl))
end Mz
set_option Elab.async false
set_option linter.all false
set_option maxRecDepth 100000
set_option maxHeartbeats 4000000
/-! what the law says of a pair of settings -/
namespace Mz
open PySem PySem.Spec PyProof.Rows L2
theorem ofV_flat {v : V} {x : Str × Int} (h : ofV v = some x) : ∀ a, v ≠ .ref a := by
  intro a e
  rw [e] at h
  cases h
theorem Pv6.kp {K : PySem.W.Frag} {C b : Addr} {H H' : Hp} {n : Nat} (B : Bx H b n) (k : Kp b H H') {v : V} {z : Str} {i : Int} (h : Pv6 K C H v z i) : Pv6 K C H' v z i := by
  rcases h with ⟨a, e, ⟨dx, p⟩⟩ | ⟨⟨h1, t, h2, h3⟩, e⟩
  · refine .inl ⟨a, e, dx, k _ _ (fun x => ?_) p⟩
    obtain ⟨_, _, _, hb, _⟩ := B
    rw [x, hb] at p
    cases p
  · have fl := ofV_flat e
    exact .inr ⟨⟨h1.at fun a ea => absurd ea (fl a), t, ty_at (fun a ea => absurd ea (fl a)) h2, h3⟩, e⟩
/-- entries that a setting may have -/
def Ent (ls : List (Key × V)) : Prop := ls.length ≤ 2 ∧ ∀ kv ∈ ls, ∃ (z : Str) (n : Int), kv = (.inr z, .int n) ∧ Rt z ∧ 0 ≤ n
theorem Ent.kint {ls : List (Key × V)} (h : Ent ls) : KInt ls := by
  intro u v e
  obtain ⟨p, hp, e1, e2⟩ := valV_mem e
  obtain ⟨_, n, e3, _⟩ := h.2 _ hp
  rw [e3] at e2
  exact ⟨n, e2.symm⟩
theorem Ent.good {ls : List (Key × V)} (h : Ent ls) : sizesB ls = true := by
  show (decide (ls.length ≤ 2) && ls.all kvB) = true
  rw [decide_eq_true h.1, Bool.true_and, List.all_eq_true]
  intro kv hkv
  obtain ⟨u, n, rfl, hu, hn⟩ := h.2 kv hkv
  show (nameV (.str u) && decide (0 ≤ n)) = true
  rw [show nameV (.str u) = true from hu.1, decide_eq_true hn]
  rfl
theorem Ent.gv {K : PySem.W.Frag} {H : Hp} {a : Addr} {ls : List (Key × V)} (h : Ent ls) (ha : H a = some (.dK ls)) : Gv K H (.ref a) (some (a, ls)) := by
  refine .inr ⟨a, ls, rfl, rfl, ha, fun kv hkv => ?_⟩
  obtain ⟨u, n, rfl, hu, hn⟩ := h.2 kv hkv
  exact ⟨⟨fun x e => by cases e; exact hu.2.mono (by decide), .int n⟩, fun e => nomatch e⟩
theorem mk_setting {K : PySem.W.Frag} {S cS cI gv : Addr} {H : Hp} {kvs : List (Key × V)} {pg : Int} {R : Addr → Hp → Prop} {E : XK} (h : Ent kvs) (hp : 1 ≤ pg) (hg : H gv = some (.dK kvs)) (q : ∀ st H', Same H H' → H st = none → Stg S H' st kvs pg → R st H') :
    ∀ x dx, H x = Option.none → H dx = Option.none → dx ≠ x → spInitS K S cS cI [V.ref x, .ref gv, .int pg] (L2.upd (L2.upd H dx (.own x)) x (.ins S dx [])) (fun v H2 => v = .non ∧ R x H2) E := by
  intro x dx nx ndx _
  have sm : Same H (L2.upd (L2.upd H dx (.own x)) x (.ins S dx [])) := fun b o e => by
    rw [upd_ne (ne_of_none e nx), upd_ne (ne_of_none e ndx)]
    exact e
  refine ⟨x, dx, .ref gv, .int pg, some (gv, kvs), rfl, upd_same, h.gv (sm _ _ hg), .int pg, .inl ⟨h.good, pg, rfl, hp, fun H2 k st => ⟨rfl, q x H2 (fun b o e => k b o (ne_of_none e nx) (sm _ _ e)) nx (st gv kvs rfl).stg⟩⟩⟩
/-- the law's values are the setting's -/
theorem val_like {lo hi : Int} {roots : List Str} {kvs A : List (Key × V)} (hg : GrN lo hi roots kvs) (hr : ∀ z ∈ roots, Rt z) {z : Str} {k : Int} (hp : Prt roots z k) (hv : z ∈ roots → valV A (.inr z) = valV kvs (.inr z)) :
    ∃ n, wtD kvs z k = some n ∧ wtK A z k = some n := by
  rcases hp with ⟨rfl, _⟩ | ⟨hz, _⟩
  · have no : valV kvs (.inr "") = none := by
      cases e : valV kvs (.inr "") with
      | none => rfl
      | some v =>
        obtain ⟨p, hp, e1, _⟩ := valV_mem e
        obtain ⟨y, n, e3, hy, _⟩ := hg.2.1 p hp
        rw [e3] at e1
        have e1 : (Sum.inr y : Key) = .inr "" := e1
        cases e1
        exact absurd (hr _ hy).1 (by decide +kernel)
    refine ⟨k, ?_, ?_⟩
    · unfold wtD
      rw [no]
    · unfold wtK
      rw [if_pos rfl]
  · obtain ⟨n, hn, _⟩ := hg.at hz
    refine ⟨n + k, ?_, ?_⟩
    · unfold wtD
      rw [hn]
    · unfold wtK
      rw [if_neg (name_ne (hr z hz).1), hv hz, hn]
theorem wt_eq {kvs A : List (Key × V)} {p : Str × Int} {n : Int} (h1 : wtD kvs p.1 p.2 = some n) (h2 : wtK A p.1 p.2 = some n) : wtP A p = valD kvs p := by
  unfold wtP valD
  rw [h1, h2]
/-- what the law compares, by pairs -/
def lawV (kvs ls : List (Key × V)) (ps : List (Str × Int)) : List (Int × Int) := (0, 0) :: ps.map fun p => (valD kvs p, valD ls p)
theorem lawV_fst {kvs ls : List (Key × V)} {ps : List (Str × Int)} : (lawV kvs ls ps).map Prod.fst = 0 :: ps.map (valD kvs) := by
  unfold lawV
  rw [List.map_cons, List.map_map]
  rfl
theorem lawV_snd {kvs ls : List (Key × V)} {ps : List (Str × Int)} : (lawV kvs ls ps).map Prod.snd = 0 :: ps.map (valD ls) := by
  unfold lawV
  rw [List.map_cons, List.map_map]
  rfl
/-- A is as kvs for the places -/
def AsP (kvs A : List (Key × V)) (ps : List (Str × Int)) : Prop := ∀ p ∈ ps, wtP A p = valD kvs p
theorem side_law {kvs ls A B : List (Key × V)} {ps : List (Str × Int)} {p q : Int} (ha : AsP kvs A ps) (hb : AsP ls B ps) : LikeP (sideV A B ps) p q ↔ LikeP (lawV kvs ls ps) p q := by
  refine like_mem fun x => ?_
  unfold sideV lawV
  rw [List.mem_append, List.mem_singleton, List.mem_cons, or_comm, show ps.map (fun p => (wtP A p, wtP B p)) = ps.map (fun p => (valD kvs p, valD ls p)) from List.map_congr_left fun p hp => by rw [ha p hp, hb p hp]]
theorem side_back {kvs ls A B : List (Key × V)} {ps : List (Str × Int)} {p q : Int} (ha : AsP kvs A ps) (hb : AsP ls B ps) : LikeP (sideV B A ps.reverse) q p ↔ LikeP (lawV kvs ls ps) p q := by
  refine (like_swap fun x => ?_).symm
  unfold sideV lawV
  rw [List.mem_append, List.mem_singleton, List.mem_cons, or_comm, List.mem_map, List.mem_map]
  have e : x = (0, 0) ↔ (x.2, x.1) = (0, 0) := by
    obtain ⟨x1, x2⟩ := x
    simp only [Prod.mk.injEq]
    exact and_comm
  rw [e]
  refine or_congr_right ?_
  constructor
  · rintro ⟨y, hy, rfl⟩
    have hy := List.mem_reverse.mp hy
    exact ⟨y, hy, by rw [ha y hy, hb y hy]⟩
  · rintro ⟨y, hy, e2⟩
    have e3 := (Prod.mk.inj e2)
    exact ⟨y, List.mem_reverse.mpr hy, by rw [ha y hy, hb y hy, e3.1, e3.2]⟩
theorem side_self {A : List (Key × V)} {ps : List (Str × Int)} {p : Int} : LikeP (sideV A A ps) p p := by
  refine like_self fun x hx => ?_
  unfold sideV at hx
  rcases List.mem_append.mp hx with h | h
  · obtain ⟨y, _, rfl⟩ := List.mem_map.mp h
    rfl
  · rw [List.mem_singleton.mp h]
theorem Lk.reverse {α β : Type} {R : α → β → Prop} {xs : List α} {ys : List β} (h : Lk R xs ys) : Lk R xs.reverse ys.reverse := by
  induction h with
  | nil => exact .nil
  | cons h _ ih =>
    rw [List.reverse_cons, List.reverse_cons]
    exact ih.append (Lk.one h)
theorem cutV_to (xs : List V) (i : Nat) : cutV xs none (some (i : Int)) = xs.take i := by
  unfold cutV
  rw [HT.sIx_nat, HT.sIx_none, List.drop_zero, Nat.sub_zero, Nat.min_comm]
  rcases Nat.le_total i xs.length with h | h
  · rw [Nat.min_eq_right h]
  · rw [Nat.min_eq_left h, List.take_of_length_le (Nat.le_refl _), List.take_of_length_le h]
/-- what stands while the law asks -/
structure LawC (K : PySem.W.Frag) (C b rl pl kl sl tl : Addr) (roots : List Str) (qs : List Addr) (ps : List (Str × Int)) (xs : List V) (H : Hp) : Prop where
  hrl : H rl = some (.lst (roots.map V.str))
  hpl : H pl = some (.lst (qs.map V.ref))
  hqs : Lk (PrD H) qs ps
  hkl : H kl = some (.lst ((ps.map Prod.fst).map V.str))
  hsl : H sl = some (.lst xs)
  hslb : sl ≠ b
  hxs : Lk (fun v (p : Str × Int) => Pv6 K C H v p.1 p.2) xs ps
  htl : H tl = some (.lst ((ps.map fun p => strP p.1 p.2).map V.str))
theorem strs_off {H : Hp} {b a : Addr} {n : Nat} {l : List Str} (B : Bx H b n) (h : H a = some (.lst (l.map V.str))) : a ≠ b := B.off h fun x y z e => by
  have e : l.map V.str = [V.int x, V.int y, V.int z] := HO.lst.inj e
  cases l with
  | nil => cases e
  | cons a r => cases e
theorem PrD.kp {H H' : Hp} {b q : Addr} {n : Nat} {p : Str × Int} (B : Bx H b n) (k : Kp b H H') (h : PrD H q p) : PrD H' q p := k _ _ (B.off h fun _ _ _ e => nomatch e) h
theorem LawC.kp {K : PySem.W.Frag} {C b rl pl kl sl tl : Addr} {roots : List Str} {qs : List Addr} {ps : List (Str × Int)} {xs : List V} {H H' : Hp} {n : Nat} (B : Bx H b n) (k : Kp b H H') (h : LawC K C b rl pl kl sl tl roots qs ps xs H) : LawC K C b rl pl kl sl tl roots qs ps xs H' :=
  ⟨k _ _ (strs_off B h.hrl) h.hrl, k _ _ (B.noRefs h.hpl) h.hpl, h.hqs.imp fun _ _ x => PrD.kp B k x, k _ _ (strs_off B h.hkl) h.hkl, k _ _ h.hslb h.hsl, h.hslb, h.hxs.imp fun _ _ x => x.kp B k, k _ _ (strs_off B h.htl) h.htl⟩
theorem prs_of {roots : List Str} {z : Str} {k : Int} (hr : ∀ z ∈ roots, Rt z) (h : Prt roots z k) : Prs z k := by
  rcases h with h | ⟨h1, h2⟩
  · exact .inl h
  · exact .inr ⟨(hr z h1).1, (hr z h1).2, h2⟩
theorem same_ofK {b : Addr} {H H' : Hp} (h : H b = none) (k : Kp b H H') : Same H H' := fun q o e => k q o (ne_of_none e h) e
theorem PrD.upd {H : Hp} {D q : Addr} {l l' : List V} {p : Str × Int} (hD : H D = some (.lst l)) (h : PrD H q p) : PrD (L2.upd H D (.lst l')) q p := by
  have h : H q = some (.tup [.str p.1, .int p.2]) := h
  show L2.upd H D (.lst l') q = _
  rw [upd_ne (fun x => by rw [x, hD] at h; cases h)]
  exact h
theorem Pv6.upd {K : PySem.W.Frag} {C D : Addr} {H : Hp} {l l' : List V} {v : V} {z : Str} {k : Int} (hD : H D = some (.lst l)) (h : Pv6 K C H v z k) : Pv6 K C (L2.upd H D (.lst l')) v z k := by
  rcases h with ⟨q, e, dx, pq⟩ | ⟨⟨k1, t, k2, k3⟩, e⟩
  · exact .inl ⟨q, e, dx, by rw [upd_ne (fun x => by rw [x, hD] at pq; cases pq)]; exact pq⟩
  · have fl := ofV_flat e
    exact .inr ⟨⟨k1.at fun a ea => absurd ea (fl a), t, ty_at (fun a ea => absurd ea (fl a)) k2, k3⟩, e⟩
/-- no size below 0 -/
def mx0 (kv : Key × V) : Key × V := match kv.2 with
  | .int n => (kv.1, .int (if n > 0 then n else 0))
  | v => (kv.1, v)
theorem mx0_fst {kv : Key × V} : (mx0 kv).1 = kv.1 := by
  unfold mx0
  split <;> rfl
theorem far_of {roots : List Str} {ls : List (Key × V)} (h : GrN (-1) (10 ^ 60) roots ls) : GrN 0 (10 ^ 60) roots (mergeK [] (ls.map mx0)) := by
  refine GrN.of (by rw [List.length_map]; exact h.1) (fun kv hk => ?_) (fun z hz => ?_)
  · obtain ⟨k2, hk2, rfl⟩ := List.mem_map.mp hk
    obtain ⟨z, n, rfl, hz, n0, n1⟩ := h.2.1 _ hk2
    refine ⟨z, if n > 0 then n else 0, rfl, hz, by split <;> omega, ?_⟩
    split
    · exact n1
    · decide
  · obtain ⟨n, hn, _⟩ := h.at hz
    rw [List.map_map, show Prod.fst ∘ mx0 = Prod.fst from funext fun kv => mx0_fst]
    exact valV_in hn
theorem sqT_keep2 {K : PySem.W.Frag} {H H' : Hp} {a : Addr} {xs : List V} (s : Same H H') (h : SqT K H a xs) : SqT K H' a xs :=
  h.elim (fun h => .inl (h.elim (fun h => .inl (s _ _ h)) fun ⟨o, h⟩ => .inr ⟨o, s _ _ h⟩)) fun h => .inr h
mutual
theorem dp_same {K : PySem.W.Frag} {H H' : Hp} (s : Same H H') : ∀ (d : PyData) (v : V), Dp K H v d → Dp K H' v d
  | .none, _, h => by cases h; exact .non
  | .bool b, _, h => by cases h; exact .bl _
  | .int i, _, h => by cases h; exact .int _
  | .str x, _, h => by cases h; exact .str _
  | .list ds, _, h => by
    cases h with
    | lst h1 h2 => exact .lst (sqL_keep h1 s) (dpAll_same s ds _ h2)
  | .tuple ds, _, h => by
    cases h with
    | tup h1 h2 => exact .tup (sqT_keep2 s h1) (dpAll_same s ds _ h2)
  | .dict _, _, h => by cases h
theorem dpAll_same {K : PySem.W.Frag} {H H' : Hp} (s : Same H H') : ∀ (ds : List PyData) (vs : List V), DpAll K H vs ds → DpAll K H' vs ds
  | [], _, h => by cases h; exact .nil
  | d :: ds, _, h => by
    cases h with
    | cons h1 h2 => exact .cons (dp_same s d _ h1) (dpAll_same s ds _ h2)
end
theorem Stg.kp {S b s : Addr} {H H' : Hp} {n : Nat} (B : Bx H b n) (k : Kp b H H') {kvs : List (Key × V)} {pg : Int} (h : Stg S H s kvs pg) : Stg S H' s kvs pg := by
  obtain ⟨dx, d, h1, h2⟩ := h
  exact ⟨dx, d, k _ _ (B.off h1 fun _ _ _ e => nomatch e) h1, k _ _ (B.off h2 fun _ _ _ e => nomatch e) h2⟩
theorem StQ.sub {S s : Addr} {H : Hp} {kvs : List (Key × V)} {pg : Int} {ps ps2 : List (Str × Int)} (m : ∀ p ∈ ps2, p ∈ ps) (h : StQ S H s kvs pg ps) : StQ S H s kvs pg ps2 := ⟨h.1, h.2.1, h.2.2.1, h.2.2.2.1, fun p hp => h.2.2.2.2 p (m p hp)⟩
theorem AsP.sub {kvs A : List (Key × V)} {ps ps2 : List (Str × Int)} (m : ∀ p ∈ ps2, p ∈ ps) (h : AsP kvs A ps) : AsP kvs A ps2 := fun p hp => h p (m p hp)
theorem prt_sm {roots : List Str} (hr : ∀ z ∈ roots, Rt z) {z : Str} {k : Int} (h : Prt roots z k) : Sm 1000 z := by
  rcases h with ⟨rfl, _⟩ | ⟨h1, _⟩
  · unfold Sm
    decide +kernel
  · exact (hr z h1).2.mono (by decide)
theorem dp_bl3 {K : PySem.W.Frag} {H : Hp} {p : Addr} {a b c : Bool} (h : H p = some (.lst [.bl a, .bl b, .bl c])) : Dp K H (.ref p) (.list [.bool a, .bool b, .bool c]) :=
  .lst (SqL.of h) (.cons (.bl a) (.cons (.bl b) (.cons (.bl c) .nil)))
theorem depth_bl3 {a b c : Bool} : PyData.depth (.list [.bool a, .bool b, .bool c]) < 60 := by
  cases a <;> cases b <;> cases c <;> decide +kernel
theorem shown_bl3 {a b c : Bool} : (PyData.shown (.list [.bool a, .bool b, .bool c])).length ≤ sizeLine := by
  cases a <;> cases b <;> cases c <;> decide +kernel
theorem dp_bl2 {K : PySem.W.Frag} {H : Hp} {p : Addr} {a b : Bool} (h : H p = some (.lst [.bl a, .bl b])) : Dp K H (.ref p) (.list [.bool a, .bool b]) :=
  .lst (SqL.of h) (.cons (.bl a) (.cons (.bl b) .nil))
theorem shaped_bl2 {a b : Bool} : SeqAt.shaped (.list [.bool a, .bool b]) = true := by
  cases a <;> cases b <;> decide +kernel
theorem eqv_bl2 {a b : Bool} : PyData.eqv (.list [.bool a, .bool b]) (.list [.bool a, .bool b]) = true := by
  cases a <;> cases b <;> decide +kernel
theorem eqv_strs2 : ∀ l : List Str, PyData.eqvAll (l.map PyData.str) (l.map PyData.str) = true
  | [] => rfl
  | x :: l => by
    show ((x == x) && PyData.eqvAll (l.map PyData.str) (l.map PyData.str)) = true
    rw [eqv_strs2 l, beq_self_eq_true]
    rfl
theorem strP_sm {z : Str} {k : Int} (g : Good z k) : (strP z k).length ≤ 1002 ∧ PyData.strOk (strP z k) = true := by
  by_cases hz : z = ""
  · subst hz
    have h0 : 0 ≤ k := g.2.2.2.1
    have h1 := g.2.2.2.2
    rcases (show k = 0 ∨ k = 1 ∨ k = 2 ∨ k = 3 by omega) with rfl | rfl | rfl | rfl
    all_goals decide +kernel
  · unfold strP
    rw [if_neg hz]
    by_cases hk : k = 0
    · rw [if_pos hk]
      exact ⟨Nat.le_trans g.1 (by decide), g.2.1⟩
    · rw [if_neg hk]
      have hs : Sm 2 (signS k) := by
        rcases small_six g.lo g.hi hk with rfl | rfl | rfl | rfl | rfl | rfl
        all_goals (unfold Sm; decide +kernel)
      have h0 : Sm 0 ("" : Str) := by
        unfold Sm
        decide +kernel
      exact Sm.mono ((h0.app (n := 0) (m := 1000) ⟨g.1, g.2.1⟩).app hs) (by decide)
end Mz
set_option Elab.async false
set_option linter.all false
set_option maxRecDepth 100000
set_option maxHeartbeats 4000000
namespace Mz
open PySem PySem.Spec PyProof.Rows L2
def spLaw (K : PySem.W.Frag) : Sp := fun vs H Q _ => ∃ (a : Addr) (ns : List Int), vs = [.ref a] ∧ SqL K H a (ns.map V.int) ∧ ns.length ≤ 63 ∧ ∀ H', Q (.bl true) H'
section
variable {P : Program} {w : World} {K : PySem.W.Frag} {mg : Str → Option Value} {base : Heap}
theorem scLaw : FnScope ["_law_script", "_law_k", "_law_box_here", "_law_roots_here", "_law_many", "_law_turn", "_law_pairs", "_law_known", "_law_spots", "_law_stay", "_law_much_here", "_law_sizes", "_law_far", "_law_wide", "_law_due", "_law_low", "_law_high", "_law_told_here", "_law_half", "_law_pair_here", "_law_spot", "_law_root", "_law_size"] ["_law_script"] (defScope sLaw) := ⟨rfl, rfl, rfl, by decide +kernel, rfl, by decide +kernel, by decide +kernel⟩
theorem ok_law {f fC fB fR fP fTo fM fGr fK fO fSt fSK fI fS ft S C cS cI : Addr} {fd fdC fdB fdR fdP fdTo fdM fdGr fdK fdO fdSt fdSK fdI fdS fdt : FuncData} {g2 g3 : List Value → List Value → List Value}
    (F0 : Fun K "law" "law" sLaw f fd) (B : Blt mg) (D : Blp mg) (mR : mg "repr" = none) (mDct : mg "dict" = none) (mTup : mg "tuple" = none)
    (T : Tk P w K mg base ft fdt) (GC : D1 P w K mg base "_law_cell" 1 ["_law_script", "_law_k"] (spCell K) fC fdC) (GB : D1 P w K mg base "_law_box" 1 ["_law_cell_here"] spBox fB fdB) (GR : D1 P w K mg base "_law_roots" 2 ["_law_box_here"] spRoots6 fR fdR)
    (GP : D1 P w K mg base "_law_pair" 2 ["_law_box_here", "_law_roots_here"] (spPair6 K) fP fdP) (GTo : D1 P w K mg base "_law_told" 6 ["_law_box_here", "_law_pair_here"] (spTold6 K C) fTo fdTo) (GM : D1 P w K mg base "_law_much" 2 ["_law_box_here"] spMuch fM fdM)
    (GGr : D1 P w K mg base "_law_great" 3 ["_law_box_here", "_law_roots_here", "_law_much_here"] spGreat fGr fdGr) (GK : D1 P w K mg base "_law_kind" 2 ["_law_sizes", "_law_much_here", "_law_pairs"] (spLKind K) fK fdK)
    (GO : D1 P w K mg base "_law_other" 4 ["_law_box_here", "_law_sizes", "_law_much_here", "_law_roots_here"] spOther fO fdO) (GSt : D1 P w K mg base "_law_strange" 2 ["_law_box_here", "_law_sizes", "_law_roots_here", "_law_known"] spStrange fSt fdSt)
    (GSK : D1 P w K mg base "same_kind" 9 ["one", "other", "places"] (spSame K S C) fSK fdSK) (kSK : KBn K fdSK ["one", "other", "places"] 2 ["places"] g3 (fun vs zs => vs ++ zs))
    (TT : Scl K mg S) (MS : Mk K S fI) (GIS : FnOk P w K mg base (L2.CX P w) 4 fI fdI ["self", "sizes", "page"] (spInitS K S cS cI)) (kS2 : KBn K fdI ["self", "sizes", "page"] 2 ["page"] g2 (fun vs zs => vs ++ zs))
    (GS : FnOk P w K mg base CX0 1 fS fdS ["self"] (spStr C)) (bS : Binds K fdS ["self"] []) (iS : PySem.W.findIn K (.ref C) "__str__" = some (some (.ref fS))) (jS : PySem.W.isFn K (.ref fS) = true) : FnG P w K mg base CX0 10 f fd ["_law_script"] (spLaw K) := by
  refine fun_okG F0 scLaw (fun vs H Q E h => ?_) (fun cdv A outer s H vs Q E hg hr9 h => ?_)
  · obtain ⟨a, ns, rfl, _⟩ := h
    rfl
  · obtain ⟨a, ns, rfl, hS, hlen, q⟩ := h
    have nd := scLaw.nd
    have hr := hr9
    have hr1 : Room 1 _ := hr.mono (by decide)
    have hr2 : Room 2 _ := hr.mono (by decide)
    have hr3 : Room 3 _ := hr.mono (by decide)
    have hr4 : Room 4 _ := hr.mono (by decide)
    have hr5 : Room 5 _ := hr.mono (by decide)
    have hr6 : Room 6 _ := hr.mono (by decide)
    refine ⟨_, (pss_cons (ps_for PassesOwn.never rfl (pi_range1 rfl B.range (pa_cons (pe_callB (call_max2 rfl) (by rfl) B.max (by decide +kernel) (pa_cons pe_int (pa_cons (pe_callB (call_min2 rfl) (by rfl) B.min (by decide +kernel) (pa_cons pe_int (pa_cons (pe_callB call_len_seq (by rfl) B.len PySem.boot_len (pa_cons (pv 0) pa_nil)) pa_nil))) pa_nil))) pa_nil)) (pg_name (i := 1) nd rfl (Or.inl rfl))
      (pss_cons (ps_set (i := 2) nd rfl (Or.inr rfl) (pe_call GB.ok hr1 (by rfl) GB.m GB.k GB.b .nil pass0 (pa_cons (pe_call GC.ok hr1 (by rfl) GC.m GC.k GC.b .nil pass0 (pa_cons (pv 0) (pa_cons (pv 1) pa_nil))) pa_nil)))
      (pss_cons (ps_set (i := 3) nd rfl (Or.inr rfl) (pe_slice sl_list (pe_call GR.ok hr2 (by rfl) GR.m GR.k GR.b .nil pass0 (pa_cons (pv 2) pa_nil)) po_none (po_some (pe_call T.ok hr1 (by rfl) T.m T.k T.b .nil pass0 (pa_cons (pv 2) (pa_cons pe_int pa_nil))))))
      (pss_cons (ps_set (i := 4) nd rfl (Or.inl rfl) (pe_ifExp (pt_cmpR op_eq (pe_call T.ok hr1 (by rfl) T.m T.k T.b .nil pass0 (pa_cons (pv 2) (pa_cons pe_int pa_nil))) pe_int (nomark _)) pe_int (pe_call T.ok hr1 (by rfl) T.m T.k T.b .nil pass0 (pa_cons (pv 2) (pa_cons pe_int pa_nil)))))
      (pss_cons (ps_setLc (i := 6) (own := [("_law_turn", 5)]) (g := gName 5) (tt := tYes) rfl nd rfl rfl (sw_true rfl rfl rfl (by decide +kernel)) (pi_range1 rfl B.range (pa_cons (pv 4) pa_nil)) (blkOk_by (N := ["_law_script", "_law_k", "_law_box_here", "_law_roots_here", "_law_many", "_law_turn", "_law_pairs", "_law_known", "_law_spots", "_law_stay", "_law_much_here", "_law_sizes", "_law_far", "_law_wide", "_law_due", "_law_low", "_law_high", "_law_told_here", "_law_half", "_law_pair_here", "_law_spot", "_law_root", "_law_size"]) (sc := defScope sLaw) (by decide +kernel)) (fun _ _ _ _ _ => (pg_name (i := 5) nd rfl (Or.inl rfl))) (fun _ _ _ _ _ => pts_nil) (fun _ _ _ _ _ => (pe_call GP.ok hr2 (by rfl) GP.m GP.k GP.b .nil pass0 (pa_cons (pv 2) (pa_cons (pv 3) pa_nil)))))
      (pss_cons (ps_setLc (i := 7) (own := [("_law_pair_here", 19)]) (g := gName 19) (tt := tYes) rfl nd rfl rfl (sw_true rfl rfl rfl (by decide +kernel)) (pi_list (pv 6)) (blkOk_by (N := ["_law_script", "_law_k", "_law_box_here", "_law_roots_here", "_law_many", "_law_turn", "_law_pairs", "_law_known", "_law_spots", "_law_stay", "_law_much_here", "_law_sizes", "_law_far", "_law_wide", "_law_due", "_law_low", "_law_high", "_law_told_here", "_law_half", "_law_pair_here", "_law_spot", "_law_root", "_law_size"]) (sc := defScope sLaw) (by decide +kernel)) (fun _ _ _ _ _ => (pg_name (i := 19) nd rfl (Or.inl rfl))) (fun _ _ _ _ _ => pts_nil) (fun _ _ _ _ _ => (pe_ix (ix_tupK K) (pv 19) pe_int (fun _ _ => rfl))))
      (pss_cons (ps_setLc (i := 8) (own := [("_law_pair_here", 19)]) (g := gName 19) (tt := tYes) rfl nd rfl rfl (sw_true rfl rfl rfl (by decide +kernel)) (pi_list (pv 6)) (blkOk_by (N := ["_law_script", "_law_k", "_law_box_here", "_law_roots_here", "_law_many", "_law_turn", "_law_pairs", "_law_known", "_law_spots", "_law_stay", "_law_much_here", "_law_sizes", "_law_far", "_law_wide", "_law_due", "_law_low", "_law_high", "_law_told_here", "_law_half", "_law_pair_here", "_law_spot", "_law_root", "_law_size"]) (sc := defScope sLaw) (by decide +kernel)) (fun _ _ _ _ _ => (pg_name (i := 19) nd rfl (Or.inl rfl))) (fun _ _ _ _ _ => pts_nil) (fun _ _ _ _ _ => (pe_call GTo.ok hr6 (by rfl) GTo.m GTo.k GTo.b .nil pass0 (pa_cons (pv 2) (pa_cons (pv 19) pa_nil)))))
      (pss_cons (ps_setLc (i := 9) (own := [("_law_spot", 20)]) (g := gName 20) (tt := tYes) rfl nd rfl rfl (sw_true rfl rfl rfl (by decide +kernel)) (pi_list (pv 8)) (blkOk_by (N := ["_law_script", "_law_k", "_law_box_here", "_law_roots_here", "_law_many", "_law_turn", "_law_pairs", "_law_known", "_law_spots", "_law_stay", "_law_much_here", "_law_sizes", "_law_far", "_law_wide", "_law_due", "_law_low", "_law_high", "_law_told_here", "_law_half", "_law_pair_here", "_law_spot", "_law_root", "_law_size"]) (sc := defScope sLaw) (by decide +kernel)) (fun _ _ _ _ _ => (pg_name (i := 20) nd rfl (Or.inl rfl))) (fun _ _ _ _ _ => pts_nil) (fun _ _ _ _ _ => (pe_callTy (call_str3 GS hr3 bS iS jS) (by rfl) D.str (by decide +kernel) (pa_cons (pv 20) pa_nil))))
      (pss_one (ps_for PassesOwn.never rfl (pi_range1 rfl B.range (pa_cons pe_int pa_nil)) (pg_name (i := 5) nd rfl (Or.inl rfl))
      (pss_cons (ps_set (i := 10) nd rfl (Or.inl rfl) (pe_ix ix_list (pe_lst (pa_cons (pe_op op_add pe_int (pe_call T.ok hr1 (by rfl) T.m T.k T.b .nil pass0 (pa_cons (pv 2) (pa_cons pe_int pa_nil)))) (pa_cons (pe_call GM.ok hr2 (by rfl) GM.m GM.k GM.b .nil pass0 (pa_cons (pv 2) pa_nil)) pa_nil))) (pe_call T.ok hr1 (by rfl) T.m T.k T.b .nil pass0 (pa_cons (pv 2) (pa_cons pe_int pa_nil))) (fun _ _ => rfl)))
      (pss_cons (ps_set (i := 11) nd rfl (Or.inl rfl) (pe_call GGr.ok hr3 (by rfl) GGr.m GGr.k GGr.b .nil pass0 (pa_cons (pv 2) (pa_cons (pv 3) (pa_cons (pv 10) pa_nil)))))
      (pss_cons (ps_asg (pe_call GO.ok hr4 (by rfl) GO.m GO.k GO.b .nil pass0 (pa_cons (pv 2) (pa_cons (pv 11) (pa_cons (pv 10) (pa_cons (pv 3) pa_nil))))) (pg_tup (by rfl) (pgs_cons (pg_name (i := 12) nd rfl (Or.inl rfl)) (pgs_cons (pg_name (i := 13) nd rfl (Or.inl rfl)) pgs_nil))))
      (pss_cons (ps_set (i := 12) nd rfl (Or.inl rfl) (pe_callTy (call_dictP rfl) (by rfl) mDct (by decide +kernel) (pa_cons (pe_lock (pe_lc (own := [("_law_root", 21), ("_law_size", 22)]) (g := gTup K 2 (gCons (gName 21) (gCons (gName 22) (gNil)))) (tt := tYes) rfl nd (pi_items (pv 12)) (blkOk_by (N := ["_law_script", "_law_k", "_law_box_here", "_law_roots_here", "_law_many", "_law_turn", "_law_pairs", "_law_known", "_law_spots", "_law_stay", "_law_much_here", "_law_sizes", "_law_far", "_law_wide", "_law_due", "_law_low", "_law_high", "_law_told_here", "_law_half", "_law_pair_here", "_law_spot", "_law_root", "_law_size"]) (sc := defScope sLaw) (by decide +kernel)) (fun _ _ _ _ _ => pg_tup (by rfl) (pgs_cons (pg_name (i := 21) nd rfl (Or.inl rfl)) (pgs_cons (pg_name (i := 22) nd rfl (Or.inl rfl)) (pgs_nil)))) (fun _ _ _ _ _ => pts_nil) (fun _ _ _ _ _ => (pe_tup (pa_cons (pv 21) (pa_cons (pe_callB (call_max2 rfl) (by rfl) B.max (by decide +kernel) (pa_cons pe_int (pa_cons (pv 22) pa_nil))) pa_nil)))))) pa_nil)))
      (pss_cons (ps_set (i := 14) nd rfl (Or.inl rfl) (pe_cmpR (op_eqD hr.units) (pe_call GK.ok hr2 (by rfl) GK.m GK.k GK.b .nil pass0 (pa_cons (pv 11) (pa_cons (pv 10) (pa_cons (pv 6) pa_nil)))) (pe_call GK.ok hr2 (by rfl) GK.m GK.k GK.b .nil pass0 (pa_cons (pv 12) (pa_cons (pv 13) (pa_cons (pv 6) pa_nil)))) (nomark _)))
      (pss_cons (ps_set (i := 15) nd rfl (Or.inl rfl) (pe_makeKS MS GIS hr5 (by rfl) TT.mgS kS2 (fun σ => pass_no) (pa_cons (pe_call GSt.ok hr2 (by rfl) GSt.m GSt.k GSt.b .nil pass0 (pa_cons (pv 2) (pa_cons (pv 11) (pa_cons (pv 3) (pa_cons (pv 7) pa_nil))))) pa_nil) (pk_cons (pv 10) pk_nil)))
      (pss_cons (ps_set (i := 16) nd rfl (Or.inl rfl) (pe_makeKS MS GIS hr5 (by rfl) TT.mgS kS2 (fun σ => pass_no) (pa_cons (pe_call GSt.ok hr2 (by rfl) GSt.m GSt.k GSt.b .nil pass0 (pa_cons (pv 2) (pa_cons (pv 12) (pa_cons (pv 3) (pa_cons (pv 7) pa_nil))))) pa_nil) (pk_cons (pv 13) pk_nil)))
      (pss_cons (ps_set (i := 17) nd rfl (Or.inl rfl) (pe_lst (pa_cons (pe_call GSK.ok hr9 (by rfl) GSK.m GSK.k GSK.b .nil pass0 (pa_cons (pv 15) (pa_cons (pv 16) (pa_cons (pv 8) pa_nil)))) (pa_cons (pe_call GSK.ok hr9 (by rfl) GSK.m GSK.k GSK.b .nil pass0 (pa_cons (pv 16) (pa_cons (pv 15) (pa_cons (pe_callTy call_tuple_of (by rfl) mTup (by decide +kernel) (pa_cons (pe_revL (pv 8)) pa_nil)) pa_nil)))) pa_nil))))
      (pss_cons (ps_expr (pe_bm PySem.F.plainAttrs_list PySem.F.slot_list_append PySem.F.type_list_append mt_append (pv 17) (pa_cons (pe_callN GSK.ok hr9 (by rfl) GSK.m GSK.k kSK pass0 (pa_cons (pv 15) (pa_cons (pv 16) pa_nil)) (pk_cons (pv 8) pk_nil)) pa_nil)))
      (pss_cons (ps_if (PW.pt (pw_or (pt_cmpR op_ne (pe_callB (call_reprD hg hr.units) (by rfl) mR (by decide +kernel) (pa_cons (pv 17) pa_nil)) (pe_callB (call_reprD hg hr.units) (by rfl) mR (by decide +kernel) (pa_cons (pe_lst (pa_cons (pv 14) (pa_cons (pv 14) (pa_cons (pv 14) pa_nil)))) pa_nil)) (nomark _)) (pw_or1 (pt_cmpR op_isnotB (pe_call GSK.ok hr9 (by rfl) GSK.m GSK.k GSK.b .nil pass0 (pa_cons (pv 15) (pa_cons (pv 15) (pa_cons (pv 8) pa_nil)))) pe_bl (by rfl))))) (pss_one (ps_ret pe_bl)) pss_nil)
      (pss_cons (ps_set (i := 18) nd rfl (Or.inl rfl) (pe_cmpR (op_eqD hr.units) (pe_call GK.ok hr2 (by rfl) GK.m GK.k GK.b .nil pass0 (pa_cons (pv 11) (pa_cons (pv 10) (pa_cons (pe_slice sl_list (pv 6) po_none (po_some pe_int)) pa_nil)))) (pe_call GK.ok hr2 (by rfl) GK.m GK.k GK.b .nil pass0 (pa_cons (pv 12) (pa_cons (pv 13) (pa_cons (pe_slice sl_list (pv 6) po_none (po_some pe_int)) pa_nil)))) (nomark _)))
      (pss_cons (ps_if (pt_cmpR (op_neD hr.units) (pe_lst (pa_cons (pe_call GSK.ok hr9 (by rfl) GSK.m GSK.k GSK.b .nil pass0 (pa_cons (pv 15) (pa_cons (pv 16) (pa_cons (pe_slice sl_list (pv 8) po_none (po_some pe_int)) pa_nil)))) (pa_cons (pe_call GSK.ok hr9 (by rfl) GSK.m GSK.k GSK.b .nil pass0 (pa_cons (pv 15) (pa_cons (pv 16) (pa_cons (pv 8) pa_nil)))) pa_nil))) (pe_lst (pa_cons (pv 18) (pa_cons (pv 14) pa_nil))) (nomark _)) (pss_one (ps_ret pe_bl)) pss_nil)
      (pss_one (ps_if (pt_cmpR (op_neD hr.units) (pe_lc (own := [("_law_spot", 20)]) (g := gName 20) (tt := tYes) rfl nd (pi_list (pv 8)) (blkOk_by (N := ["_law_script", "_law_k", "_law_box_here", "_law_roots_here", "_law_many", "_law_turn", "_law_pairs", "_law_known", "_law_spots", "_law_stay", "_law_much_here", "_law_sizes", "_law_far", "_law_wide", "_law_due", "_law_low", "_law_high", "_law_told_here", "_law_half", "_law_pair_here", "_law_spot", "_law_root", "_law_size"]) (sc := defScope sLaw) (by decide +kernel)) (fun _ _ _ _ _ => (pg_name (i := 20) nd rfl (Or.inl rfl))) (fun _ _ _ _ _ => pts_nil) (fun _ _ _ _ _ => (pe_callTy (call_str3 GS hr3 bS iS jS) (by rfl) D.str (by decide +kernel) (pa_cons (pv 20) pa_nil)))) (pv 9) (nomark _)) (pss_one (ps_ret pe_bl)) pss_nil))))))))))))))))))))))))
      (pss_one (ps_ret pe_bl))), ?_⟩
    have sb : 1000 ≤ sizeLine := by decide
    have one : ∀ {H1 : Hp} {p : Addr} (o : HO), H1 p = none → ∃ H2, H2 = upd H1 p o ∧ Same H1 H2 ∧ H2 p = some o := fun o n => ⟨_, rfl, same_nw n, upd_same⟩
    refine ⟨_, rfl, a, _, rfl, .inl hS, _, _, rfl, _, _, rfl, ?_⟩
    generalize hm : (if (if (((ns.map V.int).length : Nat) : Int) < 6 then (((ns.map V.int).length : Nat) : Int) else 6) > 2 then (if (((ns.map V.int).length : Nat) : Int) < 6 then (((ns.map V.int).length : Nat) : Int) else 6) else 2) = m
    have m0 : 2 ≤ m ∧ m ≤ 6 := by
      rw [← hm]
      split <;> split <;> omega
    refine ⟨m, rfl, by omega, by omega, for_range (lo := 0) (n := m.toNat) (fun _ σ H' => ∃ v1 v2 v3 v4 v5 v6 v7 v8 v9 v10 v11 v12 v13 v14 v15 v16 v17 v18 v19 v20 v21 v22 : Option V, σ = [some (.ref a), v1, v2, v3, v4, v5, v6, v7, v8, v9, v10, v11, v12, v13, v14, v15, v16, v17, v18, v19, v20, v21, v22] ∧ Same H H')
      ⟨_, _, _, _, _, _, _, _, _, _, _, _, _, _, _, _, _, _, _, _, _, _, rfl, Same.refl H⟩ ?_ fun σ H' _ => q H'⟩
    rintro i σ H0 hi ⟨v1, v2, v3, v4, v5, v6, v7, v8, v9, v10, v11, v12, v13, v14, v15, v16, v17, v18, v19, v20, v21, v22, rfl, s0⟩
    generalize hD : ({ nx := _, rt := _, bk := _, ct := _ } : Ends) = DD
    have dnx : ∀ σ' H', (∃ v1 v2 v3 v4 v5 v6 v7 v8 v9 v10 v11 v12 v13 v14 v15 v16 v17 v18 v19 v20 v21 v22 : Option V, σ' = [some (V.ref a), v1, v2, v3, v4, v5, v6, v7, v8, v9, v10, v11, v12, v13, v14, v15, v16, v17, v18, v19, v20, v21, v22] ∧ Same H H') → DD.nx σ' H' := fun σ' H' h => by
      rw [← hD]
      exact h
    clear hD
    have ei : (0 + (i : Int)) = ((i : Nat) : Int) := by omega
    rw [ei]
    refine ⟨_, rfl, _, rfl, a, ns, i, rfl, sqL_keep hS s0, by omega, fun c => ?_⟩
    refine ⟨c, rfl, fun b H3 nb B3 K3 => ?_⟩
    -- the names
    refine ⟨_, rfl, b, 0, rfl, B3, by omega, fun pe y z H4 ry rz h4 ne4 peb B4 K4 => ?_⟩
    refine ⟨_, rfl, b, 15, 3, rfl, B4, by omega, by decide, by decide, fun r H5 r0 r1 B5 K5 => ⟨_, rfl, pe, _, rfl, SqL.of (K5 _ _ peb h4), fun rl nrl => ?_⟩⟩
    obtain ⟨roots, eroots, l2, rr⟩ : ∃ roots : List Str, cutV [V.str y, V.str z] none (some r) = roots.map V.str ∧ roots.length ≤ 2 ∧ ∀ u ∈ roots, Rt u := by
      refine ⟨[y, z].take r.toNat, ?_, ?_, fun u hu => ?_⟩
      · have e := cutV_to [V.str y, V.str z] r.toNat
        rw [Int.toNat_of_nonneg r0] at e
        rw [e, List.map_take]
        rfl
      · exact Nat.le_trans (List.length_take_le' _ _) (Nat.le_refl 2)
      · have hu := List.mem_of_mem_take hu
        simp only [List.mem_cons, List.not_mem_nil, or_false] at hu
        rcases hu with rfl | rfl
        · exact ry
        · exact rz
    rw [eroots]
    clear eroots
    obtain ⟨H6, e, s6, hrl⟩ := one (.lst (roots.map V.str)) nrl
    rw [← e]
    clear e
    have B6 := B5.same s6
    have K36 : Kp b H3 H6 := K4.trans (K5.trans (Kp.same s6))
    -- how many places
    refine ⟨_, rfl, b, 16, 8, rfl, B6, by omega, by decide, by decide, fun r2 H7 a0 a1 B7 K7 => ⟨rfl, _, rfl, ?_⟩⟩
    generalize hT : tSeq _ _ = TR
    have rlb6 : rl ≠ b := strs_off B6 hrl
    have rest : ∀ (mn : Int) (G : Hp), 0 ≤ mn → mn ≤ 14 → Bx G b 18 → Kp b H3 G → G rl = some (.lst (roots.map V.str)) → TR DD [some (.ref a), some (.int ((i : Nat) : Int)), some (.ref b), some (.ref rl), some (.int mn), v5, v6, v7, v8, v9, v10, v11, v12, v13, v14, v15, v16, v17, v18, v19, v20, v21, v22] G := by
      intro mn G mn0 mn1 BG KG hrlG
      rw [← hT]
      clear hT
      -- the places, by parts
      refine ⟨_, rfl, mn, rfl, by omega, by omega, fun D nD => ?_⟩
      have Db : D ≠ b := BG.new nD
      refine lc_range (lo := 0) (n := mn.toNat) (fun i H' => Bx H' b (18 + 2 * i) ∧ Kp b G H' ∧ ∃ (qs : List Addr) (ps : List (Str × Int)), H' D = some (.lst (qs.map V.ref)) ∧ Lk (PrD H') qs ps ∧ ps.length = i ∧ ∀ p ∈ ps, Prt roots p.1 p.2)
        ⟨BG.upd nD, Kp.fresh nD, [], [], upd_same, .nil, rfl, fun _ h => nomatch h⟩ ?_ ?_
      · rintro i2 H8 hi2 ⟨B8, K8, qs, ps, hD, hq, lp, hin⟩
        have lq := hq.length
        refine ⟨rfl, yesT ?_⟩
        refine ⟨_, rfl, _, rfl, b, rl, 18 + 2 * i2, roots, rfl, B8, by omega, K8 _ _ rlb6 hrlG, l2, rlb6, fun qa z k H9 pr hqa nqa B9 K9 => ?_⟩
        have hD9 := K9 _ _ Db hD
        refine ⟨_, hD9, ?_, ?_, ?_, qs ++ [qa], ps ++ [(z, k)], by rw [upd_same, List.map_append]; rfl, ?_, ?_, ?_⟩
        · rw [List.length_map]
          omega
        · obtain ⟨w1, w2, w3, e, h⟩ := B9.more (show 18 + 2 * i2 + 2 ≤ 18 + 2 * (i2 + 1) by omega)
          exact ⟨w1, w2, w3, by rw [upd_ne Db.symm]; exact e, h⟩
        · intro p o np e
          rw [upd_ne (fun z => by rw [z, nD] at e; cases e)]
          exact K9 p o np (K8 p o np e)
        · exact (hq.imp fun _ _ x => (x.kp B8 K9).upd hD9).append (Lk.one (PrD.upd hD9 hqa))
        · rw [List.length_append, lp]
          rfl
        · intro u hu
          rcases List.mem_append.mp hu with hu | hu
          · exact hin u hu
          · rw [List.mem_singleton.mp hu]
            exact pr
      rintro G1 ⟨B1, K1, qs, ps, hpl, hqs, lp, hin⟩
      have l14 : ps.length ≤ 14 := by omega
      have lq := hqs.length
      have B1 := B1.more (show 18 + 2 * mn.toNat ≤ 46 by omega)
      have hrl1 := K1 _ _ rlb6 hrlG
      have KG1 := KG.trans K1
      clear hrlG BG nD K1
      -- their names
      refine ⟨_, rfl, D, rfl, ⟨_, SqL.of hpl⟩, fun kl nkl => ?_⟩
      refine lc_it (walk_list (xs := qs.map V.ref)) (fun i H' => (∀ p o, p ≠ kl → G1 p = some o → H' p = some o) ∧ H' kl = some (.lst (((ps.take i).map Prod.fst).map V.str)))
        ⟨fun p o n e => by rw [upd_ne n]; exact e, by rw [List.take_zero]; exact upd_same⟩ (fun i H' _ h => SqL.of (h.1 _ _ (ne_of_none hpl nkl) hpl)) ?_ ?_
      · rintro i2 x G2 G3 hi ⟨keep, hkl⟩ ⟨rfl, hx⟩
        rw [List.getElem?_map] at hx
        obtain ⟨q, hq, rfl⟩ := Option.map_eq_some_iff.mp hx
        obtain ⟨p, hp, pr⟩ := hqs.get hq
        have pr : G1 q = some (.tup [.str p.1, .int p.2]) := pr
        refine ⟨rfl, yesT ?_⟩
        refine ⟨_, rfl, q, _, _, _, rfl, rfl, SqT.of (keep _ _ (ne_of_none pr nkl) pr), rfl, _, hkl, ?_, fun p o n e => by rw [upd_ne n]; exact keep p o n e, ?_⟩
        · rw [List.length_map, List.length_map, List.length_take]
          omega
        · rw [upd_same, List.take_succ, hp, List.map_append, List.map_append]
          rfl
      rintro G2 ⟨keep, hkl⟩
      rw [List.length_map, lq, List.take_length] at hkl
      have s2 : Same G1 G2 := fun p o e => keep p o (ne_of_none e nkl) e
      have B2 := B1.same s2
      have hpl2 := s2 _ _ hpl
      have hqs2 : Lk (PrD G2) qs ps := hqs.imp fun _ _ x => s2 _ _ x
      have hrl2 := s2 _ _ hrl1
      have KG2 := KG1.trans (Kp.same s2)
      clear keep nkl hpl hqs hrl1 B1 KG1 s2
      -- what stands for them
      refine ⟨_, rfl, D, rfl, ⟨_, SqL.of hpl2⟩, fun sl nsl => ?_⟩
      have slb : sl ≠ b := B2.new nsl
      refine lc_it (walk_list (xs := qs.map V.ref)) (fun i H' => Bx H' b (46 + i) ∧ Kp b G2 H' ∧ ∃ xs : List V, H' sl = some (.lst xs) ∧ xs.length = i ∧ Lk (fun v (p : Str × Int) => Pv6 K C H' v p.1 p.2) xs (ps.take i))
        ⟨B2.upd nsl, Kp.fresh nsl, [], upd_same, rfl, by rw [List.take_zero]; exact .nil⟩ (fun i H' _ h => SqL.of (h.2.1 _ _ (B2.noRefs hpl2) hpl2)) ?_ ?_
      · rintro i2 x G3 G4 hi ⟨B3, K3, xs, hsl, lx, hxs⟩ ⟨rfl, hx⟩
        rw [List.getElem?_map] at hx
        obtain ⟨q, hq, rfl⟩ := Option.map_eq_some_iff.mp hx
        obtain ⟨p, hp, pr⟩ := hqs2.get hq
        have pr := pr.kp B2 K3
        have pr : G4 q = some (.tup [.str p.1, .int p.2]) := pr
        rw [List.length_map] at hi
        refine ⟨rfl, yesT ?_⟩
        refine ⟨_, rfl, _, rfl, b, q, 46 + i2, p.1, p.2, rfl, B3, by omega, pr, prs_of rr (hin p (List.mem_of_getElem? hp)), fun v H7 pv hv B7 K7 => ?_⟩
        have hsl7 := K7 _ _ slb hsl
        refine ⟨_, hsl7, by omega, ?_, ?_, xs ++ [v], upd_same, by rw [List.length_append, lx]; rfl, ?_⟩
        · obtain ⟨w1, w2, w3, e, h⟩ := B7
          exact ⟨w1, w2, w3, by rw [upd_ne slb.symm]; exact e, h⟩
        · intro p o np e
          rw [upd_ne (fun z => by rw [z, nsl] at e; cases e)]
          exact K7 p o np (K3 p o np e)
        · rw [List.take_succ, hp]
          exact (hxs.imp fun _ _ x => (x.kp B3 K7).upd hsl7).append (Lk.one (pv.upd hsl7))
      rintro G3 ⟨B3, K3, xs, hsl, lx, hxs⟩
      rw [List.length_map, lq, List.take_length] at hxs
      rw [List.length_map] at lx B3
      have B3 := B3.more (show 46 + qs.length ≤ 60 by omega)
      have hpl3 := K3 _ _ (B2.noRefs hpl2) hpl2
      have hqs3 : Lk (PrD G3) qs ps := hqs2.imp fun _ _ x => x.kp B2 K3
      have hrl3 := K3 _ _ rlb6 hrl2
      have hkl3 := K3 _ _ (strs_off B2 hkl) hkl
      have KG3 := KG2.trans K3
      clear hpl2 hqs2 hrl2 hkl B2 KG2 K3 nsl
      -- their texts
      refine ⟨_, rfl, sl, rfl, ⟨_, SqL.of hsl⟩, fun tl ntl => ?_⟩
      refine lc_it (walk_list (xs := xs)) (fun i H' => (∀ p o, p ≠ tl → G3 p = some o → H' p = some o) ∧ H' tl = some (.lst (((ps.take i).map fun p => strP p.1 p.2).map V.str)))
        ⟨fun p o n e => by rw [upd_ne n]; exact e, by rw [List.take_zero]; exact upd_same⟩ (fun i H' _ h => SqL.of (h.1 _ _ (ne_of_none hsl ntl) hsl)) ?_ ?_
      · rintro i2 x G4 G5 hi ⟨keep, htl⟩ ⟨rfl, hx⟩
        obtain ⟨p, hp, pv⟩ := hxs.get hx
        have pv5 : Pv6 K C G5 x p.1 p.2 := pv.same fun p o e => keep p o (ne_of_none e ntl) e
        refine ⟨rfl, yesT ?_⟩
        refine ⟨_, rfl, str3 pv5 (prs_of rr (hin p (List.mem_of_getElem? hp))).good ⟨_, htl, ?_, fun p o n e => by rw [upd_ne n]; exact keep p o n e, ?_⟩⟩
        · rw [List.length_map, List.length_map, List.length_take]
          omega
        · rw [upd_same, List.take_succ, hp, List.map_append, List.map_append]
          rfl
      rintro G4 ⟨keep, htl⟩
      have lxp := hxs.length
      rw [lxp, List.take_length] at htl
      have s4 : Same G3 G4 := fun p o e => keep p o (ne_of_none e ntl) e
      have B4' := B3.same s4
      have KG4 := KG3.trans (Kp.same s4)
      have ctx : LawC K C b rl D kl sl tl roots qs ps xs G4 := ⟨s4 _ _ hrl3, s4 _ _ hpl3, hqs3.imp fun _ _ x => s4 _ _ x, s4 _ _ hkl3, s4 _ _ hsl, slb, hxs.imp fun _ _ x => x.same s4, htl⟩
      clear keep ntl hpl3 hqs3 hrl3 hkl3 hsl B3 KG3 s4
      -- four turns
      refine ⟨4, rfl, by decide, by decide, for_range (lo := 0) (n := 4) (fun j σ H' => ∃ w5 w10 w11 w12 w13 w14 w15 w16 w17 w18 w19 w20 w21 w22 : Option V, σ = [some (.ref a), some (.int ((i : Nat) : Int)), some (.ref b), some (.ref rl), some (.int mn), w5, some (.ref D), some (.ref kl), some (.ref sl), some (.ref tl), w10, w11, w12, w13, w14, w15, w16, w17, w18, w19, w20, w21, w22] ∧ Bx H' b (60 + 80 * j) ∧ Kp b H3 H' ∧ LawC K C b rl D kl sl tl roots qs ps xs H')
        ⟨_, _, _, _, _, _, _, _, _, _, _, _, _, _, rfl, B4', KG4, ctx⟩ ?_ fun σ' H' h => ?_⟩
      · rintro j σ' G5 hj ⟨w5, w10, w11, w12, w13, w14, w15, w16, w17, w18, w19, w20, w21, w22, rfl, B5, KG5, ctx⟩
        generalize hDE : ({ nx := _, rt := _, bk := _, ct := _ } : Ends) = DE
        have enx : ∀ σ' H', (∃ w5 w10 w11 w12 w13 w14 w15 w16 w17 w18 w19 w20 w21 w22 : Option V, σ' = [some (.ref a), some (.int ((i : Nat) : Int)), some (.ref b), some (.ref rl), some (.int mn), w5, some (.ref D), some (.ref kl), some (.ref sl), some (.ref tl), w10, w11, w12, w13, w14, w15, w16, w17, w18, w19, w20, w21, w22] ∧ Bx H' b (60 + 80 * (j + 1)) ∧ Kp b H3 H' ∧ LawC K C b rl D kl sl tl roots qs ps xs H') → DE.nx σ' H' := fun σ' H' h => by
          rw [← hDE]
          exact h
        clear hDE
        have e16 : (10 : Int) ^ 16 = 10000000000000000 := by decide
        have e17 : (10 : Int) ^ 17 = 100000000000000000 := by decide
        -- the page
        refine ⟨_, rfl, b, 60 + 80 * j, 31, rfl, B5, by omega, by decide, by decide, fun r3 H6' c0 c1 B6' K6' => ⟨_, _, rfl, rfl, ?_⟩⟩
        refine ⟨_, rfl, b, 60 + 80 * j + 1, rfl, B6', by omega, fun mg2 H7 d0 d1 B7 K7 => ⟨(by show 2 ≤ sizeLine; omega), fun lp nlp => ?_⟩⟩
        obtain ⟨H8, e, s8, t8⟩ := one (.lst [V.int (1 + r3), V.int mg2]) nlp
        rw [← e]
        clear e
        refine ⟨_, rfl, b, 60 + 80 * j + 4, 2, rfl, B7.same s8, by omega, by decide, by decide, fun r4 H9 e0 e1 B9 K9 => ?_⟩
        obtain ⟨c9, hc, hm⟩ := atI_in (l := [V.int (1 + r3), V.int mg2]) (i := r4) e0 e1
        refine ⟨lp, _, _, _, rfl, rfl, SqL.of (K9 _ _ (B7.new nlp) t8), hc, ?_⟩
        obtain ⟨pg, rfl, pg1, pg2⟩ : ∃ pg : Int, c9 = .int pg ∧ 1 ≤ pg ∧ pg < 10 ^ 16 := by
          simp only [List.mem_cons, List.not_mem_nil, or_false] at hm
          rw [e16] at d1 ⊢
          rcases hm with rfl | rfl
          · exact ⟨_, rfl, by omega, by omega⟩
          · exact ⟨_, rfl, by omega, by omega⟩
        have K59 : Kp b G5 H9 := K6'.trans (K7.trans ((Kp.same s8).trans K9))
        have cx9 := ctx.kp B5 K59
        clear hc hm t8 nlp s8 K9 K7 K6' B7 B6'
        have pg17 : pg < 10 ^ 17 := by rw [e17]; rw [e16] at pg2; omega
        -- the sizes
        refine ⟨_, rfl, _, rfl, _, rfl, b, rl, 60 + 80 * j + 5, roots, pg, rfl, B9, by omega, cx9.hrl, l2, pg1, pg17, fun d1 kvs H10 gk B10 Ka nd1 hd1 => ?_⟩
        have cx10 := cx9.kp B9 Ka
        -- others
        refine ⟨_, rfl, _, rfl, _, rfl, _, rfl, b, d1, rl, 60 + 80 * j + 18, roots, kvs, pg, rfl, B10, by omega, hd1, gk, l2, cx10.hrl, pg1, pg2, fun tt d2 ls0 wd H11 gl w1 w2 B11 Kb nd2 hd2 ntt htt => ?_⟩
        have cx11 := cx10.kp B10 Kb
        have hd11 := Kb _ _ (B10.off hd1 fun _ _ _ e => nomatch e) hd1
        have K511 : Kp b G5 H11 := K59.trans (Ka.trans Kb)
        refine ⟨tt, _, rfl, SqT.of htt, rfl, _, _, rfl, _, _, rfl, rfl, ?_⟩
        clear htt ntt hd1 nd1 nd2 cx10 cx9 B10 B9
        have d2b : d2 ≠ b := B11.off hd2 fun _ _ _ e => nomatch e
        have d1b : d1 ≠ b := B11.off hd11 fun _ _ _ e => nomatch e
        -- none of them below 0
        refine ⟨d2, .dK ls0, hd2, trivial, fun od => ⟨_, rfl, d2, od, ls0, rfl, upd_same, fun D5 nD5 => ?_⟩⟩
        have la : upd H11 d2 (.frz od (.dK ls0)) d2 = some (.frz od (.dK ls0)) := upd_same
        have lo : ∀ r o, r ≠ d2 → H11 r = some o → upd H11 d2 (.frz od (.dK ls0)) r = some o := fun r o n e => by
          rw [upd_ne n]
          exact e
        have dD : d2 ≠ D5 := fun x => by
          rw [← x, la] at nD5
          cases nD5
        have nDH : H11 D5 = none := by
          cases e : H11 D5 with
          | none => rfl
          | some o =>
            rw [lo D5 o dD.symm e] at nD5
            cases nD5
        generalize upd H11 d2 (.frz od (.dK ls0)) = Hl at la lo nD5
        refine lc_it (walk_items (kvs := ls0)) (fun i H' => (∀ p o, p ≠ D5 → Hl p = some o → H' p = some o) ∧ ∃ qs5 : List Addr, H' D5 = some (.lst (qs5.map V.ref)) ∧ Lk (fun (p : Addr) (kv : Key × V) => p ≠ D5 ∧ p ≠ d2 ∧ H' p = some (.tup [kV kv.1, kv.2])) qs5 ((ls0.take i).map mx0))
          ⟨fun p o n e => by rw [upd_ne n]; exact e, [], upd_same, by rw [List.take_zero]; exact .nil⟩ (fun i H' _ h => h.1 _ _ dD la) ?_ ?_
        · rintro i2 x G6 G7 hi2 ⟨keep, qs5, hD5, lk5⟩ ⟨T5, x1, y1, rfl, nT, rfl, e1, e2⟩
          have hkv : ls0[i2]? = some ls0[i2] := List.getElem?_eq_getElem hi2
          have e1 : (ls0[i2]?).map (fun kv => kV kv.1) = some x1 := e1
          have e2 : (ls0[i2]?).map Prod.snd = some y1 := e2
          rw [hkv] at e1 e2
          cases e1
          cases e2
          obtain ⟨z5, n5, ez, _⟩ := gl.2.1 _ (List.getElem_mem hi2)
          rw [ez] at hkv ⊢
          have tk : (ls0.take (i2 + 1)).map mx0 = (ls0.take i2).map mx0 ++ [(.inr z5, .int (if n5 > 0 then n5 else 0))] := by
            rw [List.take_succ, hkv, List.map_append]
            rfl
          have TD : T5 ≠ D5 := (ne_of_none hD5 nT).symm
          have sT : Same G6 (upd G6 T5 (.tup [.str z5, .int n5])) := same_nw nT
          have tT : upd G6 T5 (.tup [.str z5, .int n5]) T5 = some (.tup [.str z5, .int n5]) := upd_same
          show gTup K 2 _ _ _ (upd G6 T5 (.tup [.str z5, .int n5])) _
          generalize upd G6 T5 (.tup [.str z5, .int n5]) = G7 at sT tT
          refine ⟨T5, _, rfl, SqT.of tT, rfl, _, _, rfl, _, _, rfl, rfl, rfl, yesT ?_⟩
          refine ⟨_, rfl, _, rfl, _, _, rfl, (by show 2 ≤ sizeLine; omega), fun W5 nW => ?_⟩
          have hD7 := sT _ _ hD5
          have WD : W5 ≠ D5 := (ne_of_none hD7 nW).symm
          have Wd : W5 ≠ d2 := (ne_of_none (sT _ _ (keep _ _ dD la)) nW).symm
          have ll := lk5.length
          have l2l := gl.1
          rw [List.length_map, List.length_take] at ll
          have mv : ∀ p o, p ≠ D5 → G6 p = some o → upd (upd G7 W5 (.tup [.str z5, .int (if n5 > 0 then n5 else 0)])) D5 (.lst (qs5.map V.ref ++ [V.ref W5])) p = some o := fun p o e1 h => by
            have h3 := sT _ _ h
            rw [upd_ne e1, upd_ne (ne_of_none h3 nW)]
            exact h3
          refine ⟨_, by rw [upd_ne WD.symm]; exact hD7, by rw [List.length_map]; omega, fun p o n e => mv p o n (keep p o n e), qs5 ++ [W5], by rw [upd_same, List.map_append]; rfl, ?_⟩
          rw [tk]
          exact (lk5.imp fun _ _ x => ⟨x.1, x.2.1, mv _ _ x.1 x.2.2⟩).append (Lk.one ⟨WD, Wd, by rw [upd_ne WD, upd_same]; rfl⟩)
        rintro G6 ⟨keep, qs5, hD5, lk5⟩
        rw [List.take_length] at lk5
        have hd6 := keep _ _ dD la
        have s12 : Same H11 (upd G6 d2 (.dK ls0)) := fun q o h => by
          by_cases e : q = d2
          · rw [e, upd_same]
            rw [e, hd2] at h
            exact h
          · rw [upd_ne e]
            exact keep _ _ (ne_of_none h nDH) (lo _ _ e h)
        have hD12 : upd G6 d2 (.dK ls0) D5 = some (.lst (qs5.map V.ref)) := by
          rw [upd_ne dD.symm]
          exact hD5
        have lk12 : Lk (fun (p : Addr) (kv : Key × V) => upd G6 d2 (.dK ls0) p = some (.tup [kV kv.1, kv.2])) qs5 (ls0.map mx0) := lk5.imp fun p _ x => by
          rw [upd_ne x.2.1]
          exact x.2.2
        refine ⟨hd6, ?_⟩
        generalize upd G6 d2 (.dK ls0) = H12 at s12 hD12 lk12
        dsimp only [tNil]
        refine ⟨D5, qs5, ls0.map mx0, rfl, SqL.of hD12, lk_paired (lk12.imp fun _ _ x => SqT.of x), fun d3 nd3 => ?_⟩
        have gf := far_of gl
        generalize mergeK [] (ls0.map mx0) = ls at gf
        have s13 : Same H12 (upd H12 d3 (.dK ls)) := same_nw nd3
        have hd3 : upd H12 d3 (.dK ls) d3 = some (.dK ls) := upd_same
        generalize upd H12 d3 (.dK ls) = H13 at s13 hd3
        have s1113 := s12.trans s13
        have cx13 := cx11.kp B11 (Kp.same s1113)
        have B13 := B11.same s1113
        have hd13 := s1113 _ _ hd11
        have K513 := K511.trans (Kp.same s1113)
        clear lk12 hD12 s12 s13 s1113 nd3 lk5 hD5 hd6 keep nDH dD lo la nD5 hd2 hd11 cx11 K511 gl B11
        have vv : ∀ (ks : List (Key × V)) (hi : Int), GrN 0 hi roots ks → ∀ p ∈ ps, ∃ n, wtD ks p.1 p.2 = some n := fun ks hi g p hp => by
          obtain ⟨n, h1, _⟩ := val_like g rr (hin p hp) (A := ks) (fun _ => rfl)
          exact ⟨n, h1⟩
        have m64 : (2 : Int) ^ 64 = 18446744073709551616 := by decide
        have pgl : pg.natAbs.log2 < 9000 := small_log (by omega) (by rw [m64]; rw [e17] at pg17; omega)
        have wdl : wd.natAbs.log2 < 9000 := small_log (by omega) (by rw [m64]; rw [e17] at w2; omega)
        have psm : ∀ p ∈ ps, Sm 1000 p.1 := fun p hp => prt_sm rr (hin p hp)
        -- what is due
        refine ⟨_, rfl, _, rfl, _, rfl, d1, D, kvs, pg, qs, ps, rfl, hd13, by omega, pgl, SqL.of cx13.hpl, cx13.hqs, l14, vv _ _ gk, fun f1 H14 s14 n14 dp14 => ?_⟩
        refine ⟨_, rfl, _, rfl, _, rfl, d3, D, ls, wd, qs, ps, rfl, s14 _ _ hd3, by omega, wdl, SqL.of (s14 _ _ cx13.hpl), (cx13.hqs.imp fun _ _ x => s14 _ _ x), l14, vv _ _ gf, fun f2 H15 s15 n15 dp15 => ?_⟩
        refine ⟨_, _, dp_same s15 _ _ dp14, dp15, shaped_lk _ _, shaped_lk _ _, ?_⟩
        have edue : PyData.eqv (lkD pg (0 :: ps.map (valD kvs))) (lkD wd (0 :: ps.map (valD ls))) = decide (LikeP (lawV kvs ls ps) pg wd) := by
          rw [← lawV_fst (ls := ls), ← lawV_snd (kvs := kvs), eqv_lk]
        rw [edue]
        generalize hdue : decide (LikeP (lawV kvs ls ps) pg wd) = due
        have s1315 := s14.trans s15
        have cx15 := cx13.kp B13 (Kp.same s1315)
        have B15 := B13.same s1315
        have hd15 := s1315 _ _ hd13
        have hd15b := s1315 _ _ hd3
        have K515 := K513.trans (Kp.same s1315)
        clear dp14 dp15 s14 s15 s1315 edue cx13 B13 K513 hd13 hd3 n14 n15
        -- the settings
        refine ⟨_, rfl, _, rfl, _, rfl, _, rfl, b, d1, rl, kl, 60 + 80 * j + 38, roots, ps.map Prod.fst, kvs, rfl, B15, by omega, hd15, gk.mono (by omega) (by decide), rr, l2, cx15.hrl, cx15.hkl, fun da As H16 a2 ae av B16 Kc nda hda => ?_⟩
        have EA : Ent As := ⟨a2, ae⟩
        refine ⟨_, rfl, rfl, rfl, mk_setting EA pg1 hda fun sA H17 s17 nsA hsA => ?_⟩
        have cx17 := (cx15.kp B15 Kc).kp B16 (Kp.same s17)
        have B17 := B16.same s17
        have hd17 := s17 _ _ (Kc _ _ (B15.off hd15b fun _ _ _ e => nomatch e) hd15b)
        have hd17a := s17 _ _ (Kc _ _ (B15.off hd15 fun _ _ _ e => nomatch e) hd15)
        have K517 := K515.trans (Kc.trans (Kp.same s17))
        clear cx15 B15 K515 hd15 hd15b Kc s17 B16 hda nda nsA
        refine ⟨_, rfl, _, rfl, _, rfl, _, rfl, b, d3, rl, kl, 60 + 80 * j + 44, roots, ps.map Prod.fst, ls, rfl, B17, by omega, hd17, gf, rr, l2, cx17.hrl, cx17.hkl, fun db Bs H18 b2 be bv B18 Kd ndb hdb => ?_⟩
        have EB : Ent Bs := ⟨b2, be⟩
        refine ⟨_, rfl, rfl, rfl, mk_setting EB w1 hdb fun sB H19 s19 nsB hsB => ?_⟩
        have cx19 := (cx17.kp B17 Kd).kp B18 (Kp.same s19)
        have B19 := B18.same s19
        have K519 := K517.trans (Kd.trans (Kp.same s19))
        have hd19 := s19 _ _ (Kd _ _ (B17.off hd17a fun _ _ _ e => nomatch e) hd17a)
        have hd19b := s19 _ _ (Kd _ _ (B17.off hd17 fun _ _ _ e => nomatch e) hd17)
        have hsA := (hsA.kp B17 Kd).same s19
        clear cx17 B17 K517 hd17 Kd s19 B18 hdb ndb nsB
        have val : ∀ (ks A : List (Key × V)) (hi : Int), GrN 0 hi roots ks → (∀ z ∈ ps.map Prod.fst, z ∈ roots → valV A (.inr z) = valV ks (.inr z)) → ∀ p ∈ ps, ∃ n, wtD ks p.1 p.2 = some n ∧ wtK A p.1 p.2 = some n := fun ks A hi g hv p hp => val_like g rr (hin p hp) fun hz => hv p.1 (List.mem_map.mpr ⟨p, hp, rfl⟩) hz
        have asA : AsP kvs As ps := fun p hp => by
          obtain ⟨n, h1, h2⟩ := val kvs As _ gk av p hp
          exact wt_eq h1 h2
        have asB : AsP ls Bs ps := fun p hp => by
          obtain ⟨n, h1, h2⟩ := val ls Bs _ gf bv p hp
          exact wt_eq h1 h2
        have hsA : StQ S H19 sA As pg ps := ⟨hsA, EA.kint, by omega, pgl, fun p hp => by
          obtain ⟨n, _, h2⟩ := val kvs As _ gk av p hp
          exact ⟨n, h2⟩⟩
        have hsB : StQ S H19 sB Bs wd ps := ⟨hsB, EB.kint, by omega, wdl, fun p hp => by
          obtain ⟨n, _, h2⟩ := val ls Bs _ gf bv p hp
          exact ⟨n, h2⟩⟩
        clear val av bv ae be EA EB
        have fin : ∀ (G : Hp) (u5 u10 u11 u12 u13 u14 u15 u16 u17 u18 u19 u20 u21 u22 : Option V), Same H19 G → DE.nx [some (.ref a), some (.int ((i : Nat) : Int)), some (.ref b), some (.ref rl), some (.int mn), u5, some (.ref D), some (.ref kl), some (.ref sl), some (.ref tl), u10, u11, u12, u13, u14, u15, u16, u17, u18, u19, u20, u21, u22] G := fun G u5 u10 u11 u12 u13 u14 u15 u16 u17 u18 u19 u20 u21 u22 sG => enx _ _ ⟨_, _, _, _, _, _, _, _, _, _, _, _, _, _, rfl, (B19.same sG).more (by omega), KG5.trans (K519.trans (Kp.same sG)), cx19.kp B19 (Kp.same sG)⟩
        have skq : ∀ {Hs : Hp} {s1 s2 a2 : Addr} {A2 B2 : List (Key × V)} {p q : Int} {xs2 : List V} {ps2 : List (Str × Int)} {X : Bool} {Q2 : VK}, StQ S Hs s1 A2 p ps2 → StQ S Hs s2 B2 q ps2 → (Hs a2 = some (.lst xs2) ∨ Hs a2 = some (.tup xs2)) → Lk (fun v (p : Str × Int) => Pv6 K C Hs v p.1 p.2) xs2 ps2 → ps2.length ≤ 14 → (∀ p ∈ ps2, p ∈ ps) → decide (LikeP (sideV A2 B2 ps2) p q) = X → (∀ H', Same Hs H' → Q2 (.bl X) H') → spSame K S C [.ref s1, .ref s2, .ref a2] Hs Q2 E0 := fun hA hB hl hx hn hmem e q2 => ⟨_, _, _, _, _, _, _, _, _, rfl, hA, hB, hl, hx, hn, fun p hp => psm p (hmem p hp), by rw [e]; exact q2⟩
        have cs : ∀ {G : Hp}, Same H19 G → LawC K C b rl D kl sl tl roots qs ps xs G := fun s => cx19.kp B19 (Kp.same s)
        have due1 : decide (LikeP (sideV As Bs ps) pg wd) = due := by
          rw [← hdue]
          exact decide_eq_decide.mpr (side_law asA asB)
        have due2 : decide (LikeP (sideV Bs As ps.reverse) wd pg) = due := by
          rw [← hdue]
          exact decide_eq_decide.mpr (side_back asA asB)
        -- told
        refine ⟨_, rfl, _, rfl, _, rfl, ?_⟩
        dsimp only [tNil, List.append_nil]
        refine skq hsA hsB (.inl cx19.hsl) cx19.hxs l14 (fun _ h => h) due1 fun H20 s20 => ?_
        have c20 := cs s20
        refine ⟨_, rfl, _, rfl, _, rfl, sl, xs, rfl, SqL.of c20.hsl, fun pr npr => ?_⟩
        obtain ⟨H21, e, s21, t21⟩ := one (.lst xs.reverse) npr
        rw [← e]
        clear e
        refine ⟨pr, xs.reverse, rfl, .inl ⟨SqL.of t21, fun pt npt => ?_⟩⟩
        obtain ⟨H22, e, s22, t22⟩ := one (.tup xs.reverse) npt
        rw [← e]
        clear e
        have s1922 := s20.trans (s21.trans s22)
        have c22 := cs s1922
        dsimp only [tNil, List.append_nil]
        refine skq ((hsB.same s1922).sub (ps2 := ps.reverse) fun p hp => List.mem_reverse.mp hp) ((hsA.same s1922).sub (ps2 := ps.reverse) fun p hp => List.mem_reverse.mp hp) (.inr t22) c22.hxs.reverse (by rw [List.length_reverse]; exact l14) (fun p hp => List.mem_reverse.mp hp) due2 fun H23 s23 => ?_
        have s1923 := s1922.trans s23
        clear c22 s22 s21 t21 t22 npr npt c20 s20 s1922
        refine ⟨(by show 2 ≤ sizeLine; omega), fun tb ntb => ?_⟩
        obtain ⟨H24, e, s24, t24⟩ := one (.lst [V.bl due, V.bl due]) ntb
        rw [← e]
        clear e
        have n19 : H19 tb = none := s1923.free ntb
        have s1924 := s1923.trans s24
        clear s24 s23 ntb s1923
        -- once more, by the name of the parameter
        refine ⟨_, rfl, .inl ⟨rfl, _, SqL.of t24⟩, _, rfl, _, rfl, _, rfl, rfl, rfl, ?_⟩
        dsimp only [tNil, List.append_nil]
        refine skq (hsA.same s1924) (hsB.same s1924) (.inl (cs s1924).hsl) (cs s1924).hxs l14 (fun _ h => h) due1 fun H25 s25 => ?_
        refine ⟨tb, _, _, rfl, rfl, s25 _ _ t24, (by show 2 < sizeLine; omega), ?_⟩
        obtain ⟨H26, eH26⟩ : ∃ G, G = L2.upd H25 tb (.lst ([V.bl due, V.bl due] ++ [V.bl due])) := ⟨_, rfl⟩
        rw [← eH26]
        have t26 : H26 tb = some (.lst [V.bl due, V.bl due, V.bl due]) := by
          rw [eH26]
          exact upd_same
        have s1926 : Same H19 H26 := fun q o h => by
          rw [eH26, upd_ne (ne_of_none h n19)]
          exact s25 _ _ (s1924 _ _ h)
        clear eH26 s25 s1924 t24 n19
        -- one answer, thrice
        refine ⟨_, rfl, .ref tb, _, rfl, dp_bl3 t26, rfl, rfl, depth_bl3, shown_bl3, ?_⟩
        refine ⟨_, rfl, _, rfl, _, rfl, (by show 3 ≤ sizeLine; omega), fun p6 n6 => ?_⟩
        obtain ⟨H27, e, s27, t27⟩ := one (.lst [V.bl due, V.bl due, V.bl due]) n6
        rw [← e]
        clear e
        refine ⟨.ref p6, _, rfl, dp_bl3 t27, rfl, rfl, depth_bl3, shown_bl3, ⟨rfl, _, rfl, ?_⟩⟩
        rw [show (!decide (V.str (PyData.shown (.list [.bool due, .bool due, .bool due])) = V.str (PyData.shown (.list [.bool due, .bool due, .bool due])))) = false by rw [decide_eq_true rfl]; rfl]
        refine iteF ?_
        have s1927 := s1926.trans s27
        refine ⟨_, rfl, _, rfl, _, rfl, ?_⟩
        dsimp only [tNil, List.append_nil]
        refine skq (hsA.same s1927) (hsA.same s1927) (.inl (cs s1927).hsl) (cs s1927).hxs l14 (fun _ h => h) (decide_eq_true side_self) fun H28 s28 => ⟨true, true, rfl, rfl, _, rfl, ?_⟩
        rw [show (!(true == true)) = false from rfl]
        refine iteF ?_
        have s1928 := s1927.trans s28
        clear s28 s1927 t27 n6 t26 s1926 s27
        -- the first two alone
        have ecq : cutV (qs.map V.ref) none (some (2 : Int)) = (qs.take 2).map V.ref := by
          rw [show (2 : Int) = ((2 : Nat) : Int) from rfl, cutV_to, List.map_take]
        have ecx : cutV xs none (some (2 : Int)) = xs.take 2 := by
          rw [show (2 : Int) = ((2 : Nat) : Int) from rfl, cutV_to]
        have sub2 : ∀ p ∈ ps.take 2, p ∈ ps := fun p hp => List.mem_of_mem_take hp
        have l2p : (ps.take 2).length ≤ 14 := Nat.le_trans (List.length_take_le' _ _) l14
        refine ⟨_, rfl, _, rfl, _, rfl, _, rfl, D, _, rfl, SqL.of (cs s1928).hpl, fun ph nph => ?_⟩
        rw [ecq]
        obtain ⟨H29, e, s29, t29⟩ := one (.lst ((qs.take 2).map V.ref)) nph
        rw [← e]
        clear e
        have s1929 := s1928.trans s29
        dsimp only [tNil, List.append_nil]
        refine ⟨d1, ph, kvs, pg, qs.take 2, ps.take 2, rfl, s1929 _ _ hd19, by omega, pgl, SqL.of t29, (cs s1929).hqs.take 2, l2p, fun p hp => vv _ _ gk p (sub2 p hp), fun f3 H30 s30 n30 dp30 => ?_⟩
        have s1930 := s1929.trans s30
        refine ⟨_, rfl, _, rfl, _, rfl, _, rfl, D, _, rfl, SqL.of (cs s1930).hpl, fun pj npj => ?_⟩
        rw [ecq]
        obtain ⟨H31, e, s31, t31⟩ := one (.lst ((qs.take 2).map V.ref)) npj
        rw [← e]
        clear e
        have s1931 := s1930.trans s31
        dsimp only [tNil, List.append_nil]
        refine ⟨d3, pj, ls, wd, qs.take 2, ps.take 2, rfl, s1931 _ _ hd19b, by omega, wdl, SqL.of t31, (cs s1931).hqs.take 2, l2p, fun p hp => vv _ _ gf p (sub2 p hp), fun f4 H32 s32 n32 dp32 => ?_⟩
        have s1932 := s1931.trans s32
        refine ⟨_, _, dp_same (s31.trans s32) _ _ dp30, dp32, shaped_lk _ _, shaped_lk _ _, ?_⟩
        have ehalf : PyData.eqv (lkD pg (0 :: (ps.take 2).map (valD kvs))) (lkD wd (0 :: (ps.take 2).map (valD ls))) = decide (LikeP (lawV kvs ls (ps.take 2)) pg wd) := by
          rw [← lawV_fst (ls := ls), ← lawV_snd (kvs := kvs), eqv_lk]
        rw [ehalf]
        generalize hhalf : decide (LikeP (lawV kvs ls (ps.take 2)) pg wd) = half
        have due3 : decide (LikeP (sideV As Bs (ps.take 2)) pg wd) = half := by
          rw [← hhalf]
          exact decide_eq_decide.mpr (side_law (asA.sub sub2) (asB.sub sub2))
        clear ehalf hhalf dp30 dp32 t31 t29 s29 s30 s31 s32 nph npj n30 n32 s1928 s1929 s1930 s1931
        -- both again
        refine ⟨_, rfl, _, rfl, _, rfl, _, rfl, sl, _, rfl, SqL.of (cs s1932).hsl, fun pu npu => ?_⟩
        rw [ecx]
        obtain ⟨H33, e, s33, t33⟩ := one (.lst (xs.take 2)) npu
        rw [← e]
        clear e
        have s1933 := s1932.trans s33
        dsimp only [tNil, List.append_nil]
        refine skq ((hsA.same s1933).sub sub2) ((hsB.same s1933).sub sub2) (.inl t33) ((cs s1933).hxs.take 2) l2p sub2 due3 fun H34 s34 => ?_
        have s1934 := s1933.trans s34
        refine ⟨_, rfl, _, rfl, _, rfl, ?_⟩
        dsimp only [tNil, List.append_nil]
        refine skq (hsA.same s1934) (hsB.same s1934) (.inl (cs s1934).hsl) (cs s1934).hxs l14 (fun _ h => h) due1 fun H35 s35 => ?_
        refine ⟨(by show 2 ≤ sizeLine; omega), fun pc npc => ?_⟩
        obtain ⟨H36, e, s36, t36⟩ := one (.lst [V.bl half, V.bl due]) npc
        rw [← e]
        clear e
        refine ⟨_, rfl, _, rfl, (by show 2 ≤ sizeLine; omega), fun pd npd => ?_⟩
        obtain ⟨H37, e, s37, t37⟩ := one (.lst [V.bl half, V.bl due]) npd
        rw [← e]
        clear e
        refine ⟨_, _, dp_bl2 (s37 _ _ t36), dp_bl2 t37, shaped_bl2, shaped_bl2, _, rfl, ?_⟩
        rw [eqv_bl2]
        refine iteF ?_
        have s1937 := s1934.trans (s35.trans (s36.trans s37))
        clear s33 s34 s35 s36 s37 t33 t36 t37 npu npc npd s1932 s1933 s1934
        -- the texts, as they were
        have c37 := cs s1937
        refine ⟨_, rfl, sl, rfl, ⟨_, SqL.of c37.hsl⟩, fun te nte => ?_⟩
        refine lc_it (walk_list (xs := xs)) (fun i H' => (∀ p o, p ≠ te → H37 p = some o → H' p = some o) ∧ H' te = some (.lst (((ps.take i).map fun p => strP p.1 p.2).map V.str)))
          ⟨fun p o n e => by rw [upd_ne n]; exact e, by rw [List.take_zero]; exact upd_same⟩ (fun i H' _ h => SqL.of (h.1 _ _ (ne_of_none c37.hsl nte) c37.hsl)) ?_ ?_
        · rintro i2 x G6 G7 hi2 ⟨keep, hte⟩ ⟨rfl, hx⟩
          obtain ⟨p, hp, pv⟩ := c37.hxs.get hx
          have pv7 : Pv6 K C G7 x p.1 p.2 := pv.same fun p o e => keep p o (ne_of_none e nte) e
          refine ⟨rfl, yesT ?_⟩
          refine ⟨_, rfl, str3 pv7 (prs_of rr (hin p (List.mem_of_getElem? hp))).good ⟨_, hte, ?_, fun p o n e => by rw [upd_ne n]; exact keep p o n e, ?_⟩⟩
          · rw [List.length_map, List.length_map, List.length_take]
            omega
          · rw [upd_same, List.take_succ, hp, List.map_append, List.map_append]
            rfl
        rintro G6 ⟨keep, hte⟩
        rw [lxp, List.take_length] at hte
        have s38 : Same H37 G6 := fun p o e => keep p o (ne_of_none e nte) e
        have sok : ∀ z ∈ ps.map fun p => strP p.1 p.2, PyData.strOk z = true := fun z hz => by
          obtain ⟨p, hp, rfl⟩ := List.mem_map.mp hz
          exact (strP_sm (prs_of rr (hin p hp)).good).2
        refine ⟨_, rfl, _, _, .lst (SqL.of hte) (dp_strs _), .lst (SqL.of (s38 _ _ c37.htl)) (dp_strs _), shaped_strs _ sok, shaped_strs _ sok, _, rfl, ?_⟩
        rw [show PyData.eqv (.list ((ps.map fun p => strP p.1 p.2).map PyData.str)) (.list ((ps.map fun p => strP p.1 p.2).map PyData.str)) = true from eqv_strs2 _]
        refine iteF ?_
        exact fin G6 _ _ _ _ _ _ _ _ _ _ _ _ _ _ (s1937.trans s38)
      · obtain ⟨w5, w10, w11, w12, w13, w14, w15, w16, w17, w18, w19, w20, w21, w22, rfl, B5, KG5, ctx⟩ := h
        exact dnx _ _ ⟨_, _, _, _, _, _, _, _, _, _, _, _, _, _, _, _, _, _, _, _, _, _, rfl, s0.trans (same_ofK nb (K3.trans KG5))⟩
    refine ite2 (fun _ => ?_) (fun _ => ?_)
    · exact rest 14 H7 (by decide) (by decide) (B7.more (by omega)) (K36.trans K7) (K7 _ _ rlb6 hrl)
    · refine ⟨_, rfl, b, 17, 7, rfl, B7, by omega, by decide, by decide, fun mn H8 b0 b1 B8 K8 => ?_⟩
      exact rest mn H8 b0 (by omega) B8 (K36.trans (K7.trans K8)) (K8 _ _ rlb6 (K7 _ _ rlb6 hrl))

end
end Mz
set_option Elab.async false
set_option linter.all false
set_option maxRecDepth 100000
set_option maxHeartbeats 4000000
namespace Mz
open PySem PySem.Spec PyProof.Rows L2
theorem kb_one {K : PySem.W.Frag} {x qual : Str} {st : Stmt} {f : Addr} {fd : FuncData} {ps : List Str} (F : Fun K x qual st f fd) (n : Nat) (ks : List Str)
    (h : ∀ (kV doc pm : Value) (an : Option Addr) (cdv ct : Value) (us ws : List Value), us.length = n → ws.length = ks.length → bindArgs (PySem.W.fnOf x qual (defArgs st) (defBody st) (defScope st) .none kV doc pm an cdv ct) ⟨us, ks.zip ws⟩ = pure (ps.zip (us ++ ws))) :
    KBn K fd ps n ks (fun us ws => us ++ ws) (fun vs zs => vs ++ zs) := by
  obtain ⟨oc, od, kV, doc, pm, an, cdv, ct, osl, rfl, lk, hcd⟩ := F.ex
  exact ⟨fun s us ws _ hu hw => .of_eq (h kV doc pm an cdv ct us ws hu hw), fun r1 r2 => r1.append r2⟩
theorem kit_own {K : PySem.W.Frag} {C : Addr} {T : String} (hm : PySem.W.mroIn K C (.type T) = some false) (h2 : PySem.W.kitMeta T = true) : PySem.W.kitOne K (.ref C) (.type T) = some false := by
  unfold PySem.W.kitOne
  rw [if_neg (by intro e; cases e)]
  show (if PySem.W.kitMeta T = true then PySem.W.mroIn K C (.type T) else none) = some false
  rw [if_pos h2, hm]
theorem kit_ref {K : PySem.W.Frag} {C : Addr} {T : String} {b : Bool} (hdct : PySem.W.hasDictIn K C = true) (ht : PySem.W.typeIn K (.ref C) = some (.type "type")) (h4 : PySem.W.subIn K (.type T) (.ref C) = some b) : PySem.W.kitOne K (.type T) (.ref C) = some b := by
  obtain ⟨cd, hc, _⟩ := PySem.W.any_some hdct
  unfold PySem.W.kitOne
  rw [if_neg (by intro e; cases e)]
  show (if ((PySem.W.clsIn K C).isSome && PySem.W.typeIn K (.ref C) == some (.type "type")) = true then PySem.W.subIn K (.type T) (.ref C) else none) = some b
  rw [if_pos (by rw [hc, ht] <;> rfl)]
  exact h4
/-! a written dict from texts to ints -/
def entOf (P : Params) (q : Str × Int × Tok × Tok) : DictEntry := ⟨PyData.keyHash P q.1, .str q.1 q.2.2.1, .int q.2.1 q.2.2.2⟩
def lookF (z : Str) : List (Str × Int × Tok × Tok) → Option Int
  | [] => none
  | q :: r => if z = q.1 then some q.2.1 else lookF z r
theorem lit_of {P : Params} : ∀ l : List (Str × Int × Tok × Tok), PySem.W.KeysLit P (l.map (entOf P))
  | [] => trivial
  | q :: r => ⟨⟨q.1, q.2.2.1, rfl, rfl⟩, lit_of r⟩
theorem find_ent {P : Params} {z : Str} : ∀ l : List (Str × Int × Tok × Tok), (lookF z l = none ∧ (l.map (entOf P)).find? (fun x => x.key.isStr z) = none) ∨
    ∃ i t e, lookF z l = some i ∧ (l.map (entOf P)).find? (fun x => x.key.isStr z) = some e ∧ e.val = .int i t
  | [] => .inl ⟨rfl, rfl⟩
  | q :: r => by
    by_cases h : z = q.1
    · refine .inr ⟨q.2.1, q.2.2.2, entOf P q, if_pos h, ?_, rfl⟩
      rw [List.map_cons, List.find?_cons_of_pos]
      show (q.1 == z) = true
      rw [h]
      exact beq_self_eq_true _
    · have e1 : lookF z (q :: r) = lookF z r := if_neg h
      have e2 : ((q :: r).map (entOf P)).find? (fun x => x.key.isStr z) = (r.map (entOf P)).find? (fun x => x.key.isStr z) := by
        rw [List.map_cons, List.find?_cons_of_neg]
        show ¬ (q.1 == z) = true
        intro x
        exact h (beq_iff_eq.mp x).symm
      rw [e1, e2]
      exact find_ent r
theorem tab_of {K : PySem.W.Frag} {w : World} {d : Addr} {es : Array DictEntry} {n : Nat} {l : List (Str × Int × Tok × Tok)} {f : Str → Option Int} (h : K.lookup d = some ⟨.type "dict", none, .dict es n, #[]⟩) (hl : es.toList = l.map (entOf w.params)) (low : (d == sysModules) = false)
    (hf : ∀ z, f z = lookF z l) : Tab K w d f := by
  refine ⟨es, n, ⟨h, by rw [hl]; exact lit_of l, low⟩, fun z => ?_⟩
  have nr : (es.toList.any fun x => x.refKey) = false := by
    rw [hl]
    rw [List.any_eq_false]
    intro e he
    obtain ⟨q, _, rfl⟩ := List.mem_map.mp he
    exact Bool.false_ne_true
  unfold PySem.W.nsIn
  rw [h]
  dsimp only
  rcases find_ent (P := w.params) (z := z) l with ⟨e1, e2⟩ | ⟨i, t, e, e1, e2, e3⟩
  · rw [hl, e2]
    rw [hl] at nr
    refine ⟨none, ?_, .inl ⟨(hf z).trans e1, rfl⟩⟩
    dsimp only
    rw [nr]
    rfl
  · rw [hl, e2]
    exact ⟨some (.int i t), by rw [← e3], .inr ⟨i, t, (hf z).trans e1, rfl⟩⟩
theorem all_mk {l : PySem.W.OpenLaw} {w : World} {K : PySem.W.Frag} {h : Heap} {mg : Str → Option Value} {fa : Addr} (X : K.In h) (G : h.Ns mainGlobals mg) (hfa : mg "law" = some (.ref fa))
    {cG cI cM cP cS cX po pb ph pg2 fI tD kD kG fra dtn dts : Addr} {ro rb rh rg : List Value} {fi ri : Option Value}
    {fwh : Addr} {odwh anwh : Option Addr} {slwh : Array (Option Value)} {ocwh kVwh dcwh pmwh cdwh ctwh : Value}
    {fii : Addr} {odii anii : Option Addr} {slii : Array (Option Value)} {ocii kVii dcii pmii cdii ctii : Value}
    {ffr : Addr} {odfr anfr : Option Addr} {slfr : Array (Option Value)} {ocfr kVfr dcfr pmfr cdfr ctfr : Value}
    {fna : Addr} {odna anna : Option Addr} {slna : Array (Option Value)} {ocna kVna dcna pmna cdna ctna : Value}
    {fip : Addr} {odip anip : Option Addr} {slip : Array (Option Value)} {ocip kVip dcip pmip cdip ctip : Value}
    {fuo : Addr} {oduo anuo : Option Addr} {sluo : Array (Option Value)} {ocuo kVuo dcuo pmuo cduo ctuo : Value}
    {fle : Addr} {odle anle : Option Addr} {slle : Array (Option Value)} {ocle kVle dcle pmle cdle ctle : Value}
    {fpt : Addr} {odpt anpt : Option Addr} {slpt : Array (Option Value)} {ocpt kVpt dcpt pmpt cdpt ctpt : Value}
    {fhs : Addr} {odhs anhs : Option Addr} {slhs : Array (Option Value)} {ochs kVhs dchs pmhs cdhs cths : Value}
    {far : Addr} {odar anar : Option Addr} {slar : Array (Option Value)} {ocar kVar dcar pmar cdar ctar : Value}
    {fce : Addr} {odce ance : Option Addr} {slce : Array (Option Value)} {occe kVce dcce pmce cdce ctce : Value}
    {fbo : Addr} {odbo anbo : Option Addr} {slbo : Array (Option Value)} {ocbo kVbo dcbo pmbo cdbo ctbo : Value}
    {fta : Addr} {odta anta : Option Addr} {slta : Array (Option Value)} {octa kVta dcta pmta cdta ctta : Value}
    {fil : Addr} {odil anil : Option Addr} {slil : Array (Option Value)} {ocil kVil dcil pmil cdil ctil : Value}
    {frk : Addr} {odrk anrk : Option Addr} {slrk : Array (Option Value)} {ocrk kVrk dcrk pmrk cdrk ctrk : Value}
    {fkn : Addr} {odkn ankn : Option Addr} {slkn : Array (Option Value)} {ockn kVkn dckn pmkn cdkn ctkn : Value}
    {fko : Addr} {odko anko : Option Addr} {slko : Array (Option Value)} {ocko kVko dcko pmko cdko ctko : Value}
    {fpd : Addr} {odpd anpd : Option Addr} {slpd : Array (Option Value)} {ocpd kVpd dcpd pmpd cdpd ctpd : Value}
    {fsk : Addr} {odsk ansk : Option Addr} {slsk : Array (Option Value)} {ocsk kVsk dcsk pmsk cdsk ctsk : Value}
    {fpr : Addr} {odpr anpr : Option Addr} {slpr : Array (Option Value)} {ocpr kVpr dcpr pmpr cdpr ctpr : Value}
    {fto : Addr} {odto anto : Option Addr} {slto : Array (Option Value)} {octo kVto dcto pmto cdto ctto : Value}
    {frt : Addr} {odrt anrt : Option Addr} {slrt : Array (Option Value)} {ocrt kVrt dcrt pmrt cdrt ctrt : Value}
    {fsz : Addr} {odsz ansz : Option Addr} {slsz : Array (Option Value)} {ocsz kVsz dcsz pmsz cdsz ctsz : Value}
    {fgr : Addr} {odgr angr : Option Addr} {slgr : Array (Option Value)} {ocgr kVgr dcgr pmgr cdgr ctgr : Value}
    {fmu : Addr} {odmu anmu : Option Addr} {slmu : Array (Option Value)} {ocmu kVmu dcmu pmmu cdmu ctmu : Value}
    {flk : Addr} {odlk anlk : Option Addr} {sllk : Array (Option Value)} {oclk kVlk dclk pmlk cdlk ctlk : Value}
    {fot : Addr} {odot anot : Option Addr} {slot : Array (Option Value)} {ocot kVot dcot pmot cdot ctot : Value}
    {fsg : Addr} {odsg ansg : Option Addr} {slsg : Array (Option Value)} {ocsg kVsg dcsg pmsg cdsg ctsg : Value}
    {fla : Addr} {odla anla : Option Addr} {slla : Array (Option Value)} {ocla kVla dcla pmla cdla ctla : Value}
    {fmo : Addr} {odmo anmo : Option Addr} {slmo : Array (Option Value)} {ocmo kVmo dcmo pmmo cdmo ctmo : Value}
    {fmb : Addr} {odmb anmb : Option Addr} {slmb : Array (Option Value)} {ocmb kVmb dcmb pmmb cdmb ctmb : Value}
    {fmh : Addr} {odmh anmh : Option Addr} {slmh : Array (Option Value)} {ocmh kVmh dcmh pmmh cdmh ctmh : Value}
    {fms : Addr} {odms anms : Option Addr} {slms : Array (Option Value)} {ocms kVms dcms pmms cdms ctms : Value}
    {fmd : Addr} {odmd anmd : Option Addr} {slmd : Array (Option Value)} {ocmd kVmd dcmd pmmd cdmd ctmd : Value}
    {fmx : Addr} {odmx anmx : Option Addr} {slmx : Array (Option Value)} {ocmx kVmx dcmx pmmx cdmx ctmx : Value}
    {fmi : Addr} {odmi anmi : Option Addr} {slmi : Array (Option Value)} {ocmi kVmi dcmi pmmi cdmi ctmi : Value}
    {fmt : Addr} {odmt anmt : Option Addr} {slmt : Array (Option Value)} {ocmt kVmt dcmt pmmt cdmt ctmt : Value}
    {fg0 : Addr} {odg0 ang0 : Option Addr} {slg0 : Array (Option Value)} {ocg0 kVg0 dcg0 pmg0 cdg0 ctg0 : Value}
    {fg2 : Addr} {odg2 ang2 : Option Addr} {slg2 : Array (Option Value)} {ocg2 kVg2 dcg2 pmg2 cdg2 ctg2 : Value}
    {fg3 : Addr} {odg3 ang3 : Option Addr} {slg3 : Array (Option Value)} {ocg3 kVg3 dcg3 pmg3 cdg3 ctg3 : Value}
    {fg5 : Addr} {odg5 ang5 : Option Addr} {slg5 : Array (Option Value)} {ocg5 kVg5 dcg5 pmg5 cdg5 ctg5 : Value}
    (awh : PySem.W.nsIn K mainGlobals "_is_whole" = some (some (.ref fwh))) (lwh : K.lookup fwh = some ⟨ocwh, odwh, .func (PySem.W.fnOf "_is_whole" "_is_whole" (defArgs sWhole) (defBody sWhole) (defScope sWhole) .none kVwh dcwh pmwh anwh cdwh ctwh), slwh⟩) (cwh : PySem.W.codeIn K cdwh "_is_whole" = true) (kwh : PySem.W.keepIn K (.ref fwh) = true)
    (aii : PySem.W.nsIn K mainGlobals "is_integer" = some (some (.ref fii))) (lii : K.lookup fii = some ⟨ocii, odii, .func (PySem.W.fnOf "is_integer" "is_integer" (defArgs sIsInt) (defBody sIsInt) (defScope sIsInt) .none kVii dcii pmii anii cdii ctii), slii⟩) (cii : PySem.W.codeIn K cdii "is_integer" = true) (kii : PySem.W.keepIn K (.ref fii) = true)
    (afr : PySem.W.nsIn K mainGlobals "is_integer_from" = some (some (.ref ffr))) (lfr : K.lookup ffr = some ⟨ocfr, odfr, .func (PySem.W.fnOf "is_integer_from" "is_integer_from" (defArgs sIsFrom) (defBody sIsFrom) (defScope sIsFrom) .none kVfr dcfr pmfr anfr cdfr ctfr), slfr⟩) (cfr : PySem.W.codeIn K cdfr "is_integer_from" = true) (kfr : PySem.W.keepIn K (.ref ffr) = true)
    (ana : PySem.W.nsIn K mainGlobals "is_name" = some (some (.ref fna))) (lna : K.lookup fna = some ⟨ocna, odna, .func (PySem.W.fnOf "is_name" "is_name" (defArgs sIsName) (defBody sIsName) (defScope sIsName) .none kVna dcna pmna anna cdna ctna), slna⟩) (cna : PySem.W.codeIn K cdna "is_name" = true) (kna : PySem.W.keepIn K (.ref fna) = true)
    (aip : PySem.W.nsIn K mainGlobals "is_place" = some (some (.ref fip))) (lip : K.lookup fip = some ⟨ocip, odip, .func (PySem.W.fnOf "is_place" "is_place" (defArgs sIsPlace) (defBody sIsPlace) (defScope sIsPlace) .none kVip dcip pmip anip cdip ctip), slip⟩) (cip : PySem.W.codeIn K cdip "is_place" = true) (kip : PySem.W.keepIn K (.ref fip) = true)
    (auo : PySem.W.nsIn K mainGlobals "unknowns_of" = some (some (.ref fuo))) (luo : K.lookup fuo = some ⟨ocuo, oduo, .func (PySem.W.fnOf "unknowns_of" "unknowns_of" (defArgs sUnkOf) (defBody sUnkOf) (defScope sUnkOf) .none kVuo dcuo pmuo anuo cduo ctuo), sluo⟩) (cuo : PySem.W.codeIn K cduo "unknowns_of" = true) (kuo : PySem.W.keepIn K (.ref fuo) = true)
    (ale : PySem.W.nsIn K mainGlobals "_least_shift" = some (some (.ref fle))) (lle : K.lookup fle = some ⟨ocle, odle, .func (PySem.W.fnOf "_least_shift" "_least_shift" (defArgs sLeast) (defBody sLeast) (defScope sLeast) .none kVle dcle pmle anle cdle ctle), slle⟩) (cle : PySem.W.codeIn K cdle "_least_shift" = true) (kle : PySem.W.keepIn K (.ref fle) = true)
    (apt : PySem.W.nsIn K mainGlobals "_parts_of_text" = some (some (.ref fpt))) (lpt : K.lookup fpt = some ⟨ocpt, odpt, .func (PySem.W.fnOf "_parts_of_text" "_parts_of_text" (defArgs sParts) (defBody sParts) (defScope sParts) .none kVpt dcpt pmpt anpt cdpt ctpt), slpt⟩) (cpt : PySem.W.codeIn K cdpt "_parts_of_text" = true) (kpt : PySem.W.keepIn K (.ref fpt) = true)
    (ahs : PySem.W.nsIn K mainGlobals "has_sizes" = some (some (.ref fhs))) (lhs : K.lookup fhs = some ⟨ochs, odhs, .func (PySem.W.fnOf "has_sizes" "has_sizes" (defArgs sHasSizes) (defBody sHasSizes) (defScope sHasSizes) .none kVhs dchs pmhs anhs cdhs cths), slhs⟩) (chs : PySem.W.codeIn K cdhs "has_sizes" = true) (khs : PySem.W.keepIn K (.ref fhs) = true)
    (aar : PySem.W.nsIn K mainGlobals "_are_sizes" = some (some (.ref far))) (lar : K.lookup far = some ⟨ocar, odar, .func (PySem.W.fnOf "_are_sizes" "_are_sizes" (defArgs sAreSizes) (defBody sAreSizes) (defScope sAreSizes) .none kVar dcar pmar anar cdar ctar), slar⟩) (car : PySem.W.codeIn K cdar "_are_sizes" = true) (kar : PySem.W.keepIn K (.ref far) = true)
    (ace : PySem.W.nsIn K mainGlobals "_law_cell" = some (some (.ref fce))) (lce : K.lookup fce = some ⟨occe, odce, .func (PySem.W.fnOf "_law_cell" "_law_cell" (defArgs sCell) (defBody sCell) (defScope sCell) .none kVce dcce pmce ance cdce ctce), slce⟩) (cce : PySem.W.codeIn K cdce "_law_cell" = true) (kce : PySem.W.keepIn K (.ref fce) = true)
    (abo : PySem.W.nsIn K mainGlobals "_law_box" = some (some (.ref fbo))) (lbo : K.lookup fbo = some ⟨ocbo, odbo, .func (PySem.W.fnOf "_law_box" "_law_box" (defArgs sBox) (defBody sBox) (defScope sBox) .none kVbo dcbo pmbo anbo cdbo ctbo), slbo⟩) (cbo : PySem.W.codeIn K cdbo "_law_box" = true) (kbo : PySem.W.keepIn K (.ref fbo) = true)
    (ata : PySem.W.nsIn K mainGlobals "_law_take" = some (some (.ref fta))) (lta : K.lookup fta = some ⟨octa, odta, .func (PySem.W.fnOf "_law_take" "_law_take" (defArgs sTake) (defBody sTake) (defScope sTake) .none kVta dcta pmta anta cdta ctta), slta⟩) (cta : PySem.W.codeIn K cdta "_law_take" = true) (kta : PySem.W.keepIn K (.ref fta) = true)
    (ail : PySem.W.nsIn K mainGlobals "is_list" = some (some (.ref fil))) (lil : K.lookup fil = some ⟨ocil, odil, .func (PySem.W.fnOf "is_list" "is_list" (defArgs sIsList) (defBody sIsList) (defScope sIsList) .none kVil dcil pmil anil cdil ctil), slil⟩) (cil : PySem.W.codeIn K cdil "is_list" = true) (kil : PySem.W.keepIn K (.ref fil) = true)
    (ark : PySem.W.nsIn K mainGlobals "_ranks" = some (some (.ref frk))) (lrk : K.lookup frk = some ⟨ocrk, odrk, .func (PySem.W.fnOf "_ranks" "_ranks" (defArgs sRanks) (defBody sRanks) (defScope sRanks) .none kVrk dcrk pmrk anrk cdrk ctrk), slrk⟩) (crk : PySem.W.codeIn K cdrk "_ranks" = true) (krk : PySem.W.keepIn K (.ref frk) = true)
    (akn : PySem.W.nsIn K mainGlobals "_kind" = some (some (.ref fkn))) (lkn : K.lookup fkn = some ⟨ockn, odkn, .func (PySem.W.fnOf "_kind" "_kind" (defArgs sKind) (defBody sKind) (defScope sKind) .none kVkn dckn pmkn ankn cdkn ctkn), slkn⟩) (ckn : PySem.W.codeIn K cdkn "_kind" = true) (kkn : PySem.W.keepIn K (.ref fkn) = true)
    (ako : PySem.W.nsIn K mainGlobals "kind_of" = some (some (.ref fko))) (lko : K.lookup fko = some ⟨ocko, odko, .func (PySem.W.fnOf "kind_of" "kind_of" (defArgs sKindOf) (defBody sKindOf) (defScope sKindOf) .none kVko dcko pmko anko cdko ctko), slko⟩) (cko : PySem.W.codeIn K cdko "kind_of" = true) (kko : PySem.W.keepIn K (.ref fko) = true)
    (apd : PySem.W.nsIn K mainGlobals "_placed" = some (some (.ref fpd))) (lpd : K.lookup fpd = some ⟨ocpd, odpd, .func (PySem.W.fnOf "_placed" "_placed" (defArgs sPlaced) (defBody sPlaced) (defScope sPlaced) .none kVpd dcpd pmpd anpd cdpd ctpd), slpd⟩) (cpd : PySem.W.codeIn K cdpd "_placed" = true) (kpd : PySem.W.keepIn K (.ref fpd) = true)
    (ask : PySem.W.nsIn K mainGlobals "same_kind" = some (some (.ref fsk))) (lsk : K.lookup fsk = some ⟨ocsk, odsk, .func (PySem.W.fnOf "same_kind" "same_kind" (defArgs sSameKind) (defBody sSameKind) (defScope sSameKind) .none kVsk dcsk pmsk ansk cdsk ctsk), slsk⟩) (csk : PySem.W.codeIn K cdsk "same_kind" = true) (ksk : PySem.W.keepIn K (.ref fsk) = true)
    (apr : PySem.W.nsIn K mainGlobals "_law_pair" = some (some (.ref fpr))) (lpr : K.lookup fpr = some ⟨ocpr, odpr, .func (PySem.W.fnOf "_law_pair" "_law_pair" (defArgs sPair6) (defBody sPair6) (defScope sPair6) .none kVpr dcpr pmpr anpr cdpr ctpr), slpr⟩) (cpr : PySem.W.codeIn K cdpr "_law_pair" = true) (kpr : PySem.W.keepIn K (.ref fpr) = true)
    (ato : PySem.W.nsIn K mainGlobals "_law_told" = some (some (.ref fto))) (lto : K.lookup fto = some ⟨octo, odto, .func (PySem.W.fnOf "_law_told" "_law_told" (defArgs sTold6) (defBody sTold6) (defScope sTold6) .none kVto dcto pmto anto cdto ctto), slto⟩) (cto : PySem.W.codeIn K cdto "_law_told" = true) (kto : PySem.W.keepIn K (.ref fto) = true)
    (art : PySem.W.nsIn K mainGlobals "_law_roots" = some (some (.ref frt))) (lrt : K.lookup frt = some ⟨ocrt, odrt, .func (PySem.W.fnOf "_law_roots" "_law_roots" (defArgs sRoots6) (defBody sRoots6) (defScope sRoots6) .none kVrt dcrt pmrt anrt cdrt ctrt), slrt⟩) (crt : PySem.W.codeIn K cdrt "_law_roots" = true) (krt : PySem.W.keepIn K (.ref frt) = true)
    (asz : PySem.W.nsIn K mainGlobals "_law_size_pair" = some (some (.ref fsz))) (lsz : K.lookup fsz = some ⟨ocsz, odsz, .func (PySem.W.fnOf "_law_size_pair" "_law_size_pair" (defArgs sSizePair) (defBody sSizePair) (defScope sSizePair) .none kVsz dcsz pmsz ansz cdsz ctsz), slsz⟩) (csz : PySem.W.codeIn K cdsz "_law_size_pair" = true) (ksz : PySem.W.keepIn K (.ref fsz) = true)
    (agr : PySem.W.nsIn K mainGlobals "_law_great" = some (some (.ref fgr))) (lgr : K.lookup fgr = some ⟨ocgr, odgr, .func (PySem.W.fnOf "_law_great" "_law_great" (defArgs sGreat) (defBody sGreat) (defScope sGreat) .none kVgr dcgr pmgr angr cdgr ctgr), slgr⟩) (cgr : PySem.W.codeIn K cdgr "_law_great" = true) (kgr : PySem.W.keepIn K (.ref fgr) = true)
    (amu : PySem.W.nsIn K mainGlobals "_law_much" = some (some (.ref fmu))) (lmu : K.lookup fmu = some ⟨ocmu, odmu, .func (PySem.W.fnOf "_law_much" "_law_much" (defArgs sMuch) (defBody sMuch) (defScope sMuch) .none kVmu dcmu pmmu anmu cdmu ctmu), slmu⟩) (cmu : PySem.W.codeIn K cdmu "_law_much" = true) (kmu : PySem.W.keepIn K (.ref fmu) = true)
    (alk : PySem.W.nsIn K mainGlobals "_law_kind" = some (some (.ref flk))) (llk : K.lookup flk = some ⟨oclk, odlk, .func (PySem.W.fnOf "_law_kind" "_law_kind" (defArgs sLKind) (defBody sLKind) (defScope sLKind) .none kVlk dclk pmlk anlk cdlk ctlk), sllk⟩) (clk : PySem.W.codeIn K cdlk "_law_kind" = true) (klk : PySem.W.keepIn K (.ref flk) = true)
    (aot : PySem.W.nsIn K mainGlobals "_law_other" = some (some (.ref fot))) (lot : K.lookup fot = some ⟨ocot, odot, .func (PySem.W.fnOf "_law_other" "_law_other" (defArgs sOther) (defBody sOther) (defScope sOther) .none kVot dcot pmot anot cdot ctot), slot⟩) (cot : PySem.W.codeIn K cdot "_law_other" = true) (kot : PySem.W.keepIn K (.ref fot) = true)
    (asg : PySem.W.nsIn K mainGlobals "_law_strange" = some (some (.ref fsg))) (lsg : K.lookup fsg = some ⟨ocsg, odsg, .func (PySem.W.fnOf "_law_strange" "_law_strange" (defArgs sStrange) (defBody sStrange) (defScope sStrange) .none kVsg dcsg pmsg ansg cdsg ctsg), slsg⟩) (csg : PySem.W.codeIn K cdsg "_law_strange" = true) (ksg : PySem.W.keepIn K (.ref fsg) = true)
    (ala : PySem.W.nsIn K mainGlobals "law" = some (some (.ref fla))) (lla : K.lookup fla = some ⟨ocla, odla, .func (PySem.W.fnOf "law" "law" (defArgs sLaw) (defBody sLaw) (defScope sLaw) .none kVla dcla pmla anla cdla ctla), slla⟩) (cla : PySem.W.codeIn K cdla "law" = true) (kla : PySem.W.keepIn K (.ref fla) = true)
    (aCP : PySem.W.nsIn K mainGlobals "Place" = some (some (.ref cP)))
    (aCG : PySem.W.nsIn K mainGlobals "Setting" = some (some (.ref cG)))
    (aCX : PySem.W.nsIn K mainGlobals "InvalidPlace" = some (some (.ref cX)))
    (aCI : PySem.W.nsIn K mainGlobals "InvalidInteger" = some (some (.ref cI)))
    (aCS : PySem.W.nsIn K mainGlobals "InvalidSetting" = some (some (.ref cS)))
    (aCM : PySem.W.nsIn K mainGlobals "MapError" = some (some (.ref cM)))
    (amo : PySem.W.findCls K (.ref cP) (.type "type") "of" = some (.get (.builtin "classmethod.__get__") (.ref po) .none (.ref cP))) (amo2 : PySem.W.recIn K po "classmethod" = some (.ref fmo :: ro)) (lmo : K.lookup fmo = some ⟨ocmo, odmo, .func (PySem.W.fnOf "of" "Place.of" (defArgs (inClass sPlace 1)) (defBody (inClass sPlace 1)) (defScope (inClass sPlace 1)) .none kVmo dcmo pmmo anmo cdmo ctmo), slmo⟩) (cmo : PySem.W.codeIn K cdmo "Place.of" = true) (kmo : PySem.W.keepIn K (.ref fmo) = true)
    (amb : PySem.W.findIn K (.ref cP) "base" = some (some (.ref pb))) (amb1 : PySem.W.specialIn K (.ref pb) "__get__" = some (some (.builtin "property.__get__"))) (amb2 : PySem.W.takesIn K (.ref pb) = some true) (amb3 : PySem.W.recIn K pb "property" = some (.ref fmb :: rb)) (lmb : K.lookup fmb = some ⟨ocmb, odmb, .func (PySem.W.fnOf "base" "Place.base" (defArgs (inClass sPlace 2)) (defBody (inClass sPlace 2)) (defScope (inClass sPlace 2)) .none kVmb dcmb pmmb anmb cdmb ctmb), slmb⟩) (cmb : PySem.W.codeIn K cdmb "Place.base" = true) (kmb : PySem.W.keepIn K (.ref fmb) = true)
    (amh : PySem.W.findIn K (.ref cP) "shift" = some (some (.ref ph))) (amh1 : PySem.W.specialIn K (.ref ph) "__get__" = some (some (.builtin "property.__get__"))) (amh2 : PySem.W.takesIn K (.ref ph) = some true) (amh3 : PySem.W.recIn K ph "property" = some (.ref fmh :: rh)) (lmh : K.lookup fmh = some ⟨ocmh, odmh, .func (PySem.W.fnOf "shift" "Place.shift" (defArgs (inClass sPlace 3)) (defBody (inClass sPlace 3)) (defScope (inClass sPlace 3)) .none kVmh dcmh pmmh anmh cdmh ctmh), slmh⟩) (cmh : PySem.W.codeIn K cdmh "Place.shift" = true) (kmh : PySem.W.keepIn K (.ref fmh) = true)
    (ams : PySem.W.findIn K (.ref cP) "__str__" = some (some (.ref fms))) (lms : K.lookup fms = some ⟨ocms, odms, .func (PySem.W.fnOf "__str__" "Place.__str__" (defArgs (inClass sPlace 4)) (defBody (inClass sPlace 4)) (defScope (inClass sPlace 4)) .none kVms dcms pmms anms cdms ctms), slms⟩) (cms : PySem.W.codeIn K cdms "Place.__str__" = true) (kms : PySem.W.keepIn K (.ref fms) = true)
    (amd : PySem.W.findIn K (.ref cP) "__add__" = some (some (.ref fmd))) (lmd : K.lookup fmd = some ⟨ocmd, odmd, .func (PySem.W.fnOf "__add__" "Place.__add__" (defArgs (inClass sPlace 7)) (defBody (inClass sPlace 7)) (defScope (inClass sPlace 7)) .none kVmd dcmd pmmd anmd cdmd ctmd), slmd⟩) (cmd : PySem.W.codeIn K cdmd "Place.__add__" = true) (kmd : PySem.W.keepIn K (.ref fmd) = true)
    (amx : PySem.W.findIn K (.ref cX) "__init__" = some (some (.ref fmx))) (lmx : K.lookup fmx = some ⟨ocmx, odmx, .func (PySem.W.fnOf "__init__" "InvalidPlace.__init__" (defArgs (inClass sInvPlace 0)) (defBody (inClass sInvPlace 0)) (defScope (inClass sInvPlace 0)) .none kVmx dcmx pmmx anmx cdmx ctmx), slmx⟩) (cmx : PySem.W.codeIn K cdmx "InvalidPlace.__init__" = true) (kmx : PySem.W.keepIn K (.ref fmx) = true)
    (ami : PySem.W.findIn K (.ref cI) "__init__" = some (some (.ref fmi))) (lmi : K.lookup fmi = some ⟨ocmi, odmi, .func (PySem.W.fnOf "__init__" "InvalidInteger.__init__" (defArgs (inClass sInvInt 0)) (defBody (inClass sInvInt 0)) (defScope (inClass sInvInt 0)) .none kVmi dcmi pmmi anmi cdmi ctmi), slmi⟩) (cmi : PySem.W.codeIn K cdmi "InvalidInteger.__init__" = true) (kmi : PySem.W.keepIn K (.ref fmi) = true)
    (amt : PySem.W.findIn K (.ref cS) "__init__" = some (some (.ref fmt))) (lmt : K.lookup fmt = some ⟨ocmt, odmt, .func (PySem.W.fnOf "__init__" "InvalidSetting.__init__" (defArgs (inClass sInvSet 0)) (defBody (inClass sInvSet 0)) (defScope (inClass sInvSet 0)) .none kVmt dcmt pmmt anmt cdmt ctmt), slmt⟩) (cmt : PySem.W.codeIn K cdmt "InvalidSetting.__init__" = true) (kmt : PySem.W.keepIn K (.ref fmt) = true)
    (ag0 : PySem.W.findIn K (.ref cG) "__init__" = some (some (.ref fg0))) (lg0 : K.lookup fg0 = some ⟨ocg0, odg0, .func (PySem.W.fnOf "__init__" "Setting.__init__" (defArgs (inClass sSetting 0)) (defBody (inClass sSetting 0)) (defScope (inClass sSetting 0)) .none kVg0 dcg0 pmg0 ang0 cdg0 ctg0), slg0⟩) (cg0 : PySem.W.codeIn K cdg0 "Setting.__init__" = true) (kg0 : PySem.W.keepIn K (.ref fg0) = true)
    (ag2 : PySem.W.findIn K (.ref cG) "page" = some (some (.ref pg2))) (ag21 : PySem.W.specialIn K (.ref pg2) "__get__" = some (some (.builtin "property.__get__"))) (ag22 : PySem.W.takesIn K (.ref pg2) = some true) (ag23 : PySem.W.recIn K pg2 "property" = some (.ref fg2 :: rg)) (lg2 : K.lookup fg2 = some ⟨ocg2, odg2, .func (PySem.W.fnOf "page" "Setting.page" (defArgs (inClass sSetting 2)) (defBody (inClass sSetting 2)) (defScope (inClass sSetting 2)) .none kVg2 dcg2 pmg2 ang2 cdg2 ctg2), slg2⟩) (cg2 : PySem.W.codeIn K cdg2 "Setting.page" = true) (kg2 : PySem.W.keepIn K (.ref fg2) = true)
    (ag3 : PySem.W.findIn K (.ref cG) "__getitem__" = some (some (.ref fg3))) (lg3 : K.lookup fg3 = some ⟨ocg3, odg3, .func (PySem.W.fnOf "__getitem__" "Setting.__getitem__" (defArgs (inClass sSetting 3)) (defBody (inClass sSetting 3)) (defScope (inClass sSetting 3)) .none kVg3 dcg3 pmg3 ang3 cdg3 ctg3), slg3⟩) (cg3 : PySem.W.codeIn K cdg3 "Setting.__getitem__" = true) (kg3 : PySem.W.keepIn K (.ref fg3) = true)
    (ag5 : PySem.W.findIn K (.ref cG) "__contains__" = some (some (.ref fg5))) (lg5 : K.lookup fg5 = some ⟨ocg5, odg5, .func (PySem.W.fnOf "__contains__" "Setting.__contains__" (defArgs (inClass sSetting 5)) (defBody (inClass sSetting 5)) (defScope (inClass sSetting 5)) .none kVg5 dcg5 pmg5 ang5 cdg5 ctg5), slg5⟩) (cg5 : PySem.W.codeIn K cdg5 "Setting.__contains__" = true) (kg5 : PySem.W.keepIn K (.ref fg5) = true)
    (jms : PySem.W.isFn K (.ref fms) = true)
    (jmd : PySem.W.isFn K (.ref fmd) = true)
    (jg0 : PySem.W.isFn K (.ref fg0) = true)
    (jg3 : PySem.W.isFn K (.ref fg3) = true)
    (jg5 : PySem.W.isFn K (.ref fg5) = true)
    (fo : PySem.W.fnIn K fmo = true)
    (fog : PySem.W.fnIn K fg3 = true)
    (tfX : PySem.W.typeIn K (.ref fmx) = some (.type "function"))
    (tfI : PySem.W.typeIn K (.ref fmi) = some (.type "function"))
    (tfS : PySem.W.typeIn K (.ref fmt) = some (.type "function"))
    {odI anI odT : Option Addr} {slI slT : Array (Option Value)} {ocI dcI pmI cdI ctI : Value} {nT : Nat} {kT kS kL kA kM kU kP : Tok}
    (eG : kVg0 = .ref kG)
    (iI : PySem.W.findIn K (.ref cP) "__init__" = some (some (.ref fI)))
    (jI : PySem.W.isFn K (.ref fI) = true)
    (lI : K.lookup fI = some ⟨ocI, odI, .func (PySem.W.fnOf "__init__" "Place.__init__" (defArgs (inClass sPlace 0)) (defBody (inClass sPlace 0)) (defScope (inClass sPlace 0)) (.ref tD) (.ref kD) dcI pmI anI cdI ctI), slI⟩)
    (cI_ : PySem.W.codeIn K cdI "Place.__init__" = true)
    (kI : PySem.W.keepIn K (.ref fI) = true)
    (lT : K.lookup tD = some ⟨.type "tuple", odT, .seq #[.str "" kT] nT, slT⟩)
    (sD : PySem.W.nsIn K kD "shift" = some (some (.int 0 kS)))
    (hn : PySem.W.specialIn K (.builtin "object.__class__") "__get__" = some (some (.builtin "getset_descriptor.__get__")))
    (htk : PySem.W.takesIn K (.builtin "object.__class__") = some true)
    (nB : PySem.W.findIn K (.ref cP) "_base" = some none)
    (nS : PySem.W.findIn K (.ref cP) "_shift" = some none)
    (rdP : PySem.W.readsIn K cP (.type "type") = true)
    (gaP : PySem.W.specialIn K (.ref cP) "__getattribute__" = some (some (.builtin "type.__getattribute__")))
    (xiP : PySem.W.mroIn K cP (.type "int") = some false)
    (xsP : PySem.W.mroIn K cP (.type "str") = some false)
    (sf : PySem.W.selfFirst K cP = true)
    (ra : PySem.W.findIn K (.ref cP) "__radd__" = some (some (.ref fra)))
    (ia : PySem.W.findIn K (.type "int") "__add__" = some fi)
    (ira : PySem.W.findIn K (.type "int") "__radd__" = some ri)
    (pgP : PySem.W.plainGet K cP Str.empty = true)
    (hdP : PySem.W.hasDictIn K cP = true)
    (pv_P : PySem.W.plainOver K cP = true)
    (saP : PySem.W.findIn K (.ref cP) "__setattr__" = some (some (.builtin "object.__setattr__")))
    (mkP : PySem.W.makesIn K cP = true)
    (kcP : PySem.W.keepIn K (.ref cP) = true)
    (haP : PySem.W.findIn K (.ref cP) "__class__" = some (some (.builtin "object.__class__")))
    (hmP : PySem.W.mroIn K cP (.type "object") = some true)
    (tCP : PySem.W.typeIn K (.ref cP) = some (.type "type"))
    (pgG : PySem.W.plainGet K cG Str.empty = true)
    (hdG : PySem.W.hasDictIn K cG = true)
    (pv_G : PySem.W.plainOver K cG = true)
    (saG : PySem.W.findIn K (.ref cG) "__setattr__" = some (some (.builtin "object.__setattr__")))
    (mkG : PySem.W.makesIn K cG = true)
    (kcG : PySem.W.keepIn K (.ref cG) = true)
    (haG : PySem.W.findIn K (.ref cG) "__class__" = some (some (.builtin "object.__class__")))
    (hmG : PySem.W.mroIn K cG (.type "object") = some true)
    (tCG : PySem.W.typeIn K (.ref cG) = some (.type "type"))
    (nZG : PySem.W.findIn K (.ref cG) "_sizes" = some none)
    (nPG : PySem.W.findIn K (.ref cG) "_page" = some none)
    (sG : PySem.W.nsIn K kG "page" = some (some (.int 32 kP)))
    (gMP : ∃ k : Tok, PySem.W.nsIn K mainGlobals "_MOST_PLACES" = some (some (.int 14 k)))
    {nmX qqX : Str} {NNX : Addr} {bsX bmX : List Value} {snX : List Str} {subX : List Value} {abX : Bool} {colX : Option Bool} {ddX : Option Addr} {k0X k1X k2X k3X k5X : Option Value}
    (lXx : K.lookup cX = some (excClassObj nmX qqX cX NNX bsX bmX true snX subX abX colX ddX k0X k1X k2X k3X k5X "ValueError.__new__"))
    (rX : PySem.HandSPX.refsVE bmX = true)
    (saXe : PySem.W.findIn K (.ref cX) "__setattr__" = some (some (.builtin "object.__setattr__")))
    (exXe : PySem.W.subIn K (.ref cX) (.type "BaseException") = some true)
    (tyXe : PySem.W.typeIn K (.ref cX) = some (.type "type"))
    (kXe : PySem.W.keepIn K (.ref cX) = true)
    (gaXe : PySem.W.findIn K (.ref cX) "__getattribute__" = some (some (.builtin "BaseException.__getattribute__")))
    (ggXe : PySem.W.findIn K (.ref cX) "__getattr__" = some none)
    (hdXe : PySem.W.hasDictIn K cX = true)
    (suXe : PySem.W.subIn K (.ref cX) (.ref cX) = some true)
    (noXe : PySem.W.findIn K (.ref cX) "value" = some none)
    {nmI qqI : Str} {NNI : Addr} {bsI bmI : List Value} {snI : List Str} {subI : List Value} {abI : Bool} {colI : Option Bool} {ddI : Option Addr} {k0I k1I k2I k3I k5I : Option Value}
    (lIx : K.lookup cI = some (excClassObj nmI qqI cI NNI bsI bmI true snI subI abI colI ddI k0I k1I k2I k3I k5I "ValueError.__new__"))
    (rI : PySem.HandSPX.refsVE bmI = true)
    (saIe : PySem.W.findIn K (.ref cI) "__setattr__" = some (some (.builtin "object.__setattr__")))
    (exIe : PySem.W.subIn K (.ref cI) (.type "BaseException") = some true)
    (tyIe : PySem.W.typeIn K (.ref cI) = some (.type "type"))
    (kIe : PySem.W.keepIn K (.ref cI) = true)
    (gaIe : PySem.W.findIn K (.ref cI) "__getattribute__" = some (some (.builtin "BaseException.__getattribute__")))
    (ggIe : PySem.W.findIn K (.ref cI) "__getattr__" = some none)
    (hdIe : PySem.W.hasDictIn K cI = true)
    (suIe : PySem.W.subIn K (.ref cI) (.ref cI) = some true)
    (noIe : PySem.W.findIn K (.ref cI) "value" = some none)
    {nmS qqS : Str} {NNS : Addr} {bsS bmS : List Value} {snS : List Str} {subS : List Value} {abS : Bool} {colS : Option Bool} {ddS : Option Addr} {k0S k1S k2S k3S k5S : Option Value}
    (lSx : K.lookup cS = some (excClassObj nmS qqS cS NNS bsS bmS true snS subS abS colS ddS k0S k1S k2S k3S k5S "ValueError.__new__"))
    (rS : PySem.HandSPX.refsVE bmS = true)
    (saSe : PySem.W.findIn K (.ref cS) "__setattr__" = some (some (.builtin "object.__setattr__")))
    (exSe : PySem.W.subIn K (.ref cS) (.type "BaseException") = some true)
    (tySe : PySem.W.typeIn K (.ref cS) = some (.type "type"))
    (kSe : PySem.W.keepIn K (.ref cS) = true)
    (gaSe : PySem.W.findIn K (.ref cS) "__getattribute__" = some (some (.builtin "BaseException.__getattribute__")))
    (ggSe : PySem.W.findIn K (.ref cS) "__getattr__" = some none)
    (hdSe : PySem.W.hasDictIn K cS = true)
    (suSe : PySem.W.subIn K (.ref cS) (.ref cS) = some true)
    (noSe : PySem.W.findIn K (.ref cS) "value" = some none)
    (rdM : PySem.W.readsIn K cM (.type "type") = true)
    (gaM : PySem.W.specialIn K (.ref cM) "__getattribute__" = some (some (.builtin "type.__getattribute__")))
    (fcM : PySem.W.findCls K (.ref cM) (.type "type") "__init__" = some (.val (.builtin "ValueError.__init__")))
    (gL : PySem.W.nsIn K mainGlobals "_LONGEST_NAME" = some (some (.int 6 kL)))
    (gA : PySem.W.nsIn K mainGlobals "_LETTERS" = some (some (.str abc kA)))
    (gM : PySem.W.nsIn K mainGlobals "_MOST" = some (some (.int 3 kM)))
    (gU : PySem.W.nsIn K mainGlobals "MOST_UNKNOWNS" = some (some (.int 2 kU)))
    {zntn : Nat} {utn0 utn1 utn2 utn3 : Int} {ptn0 qtn0 ptn1 qtn1 ptn2 qtn2 ptn3 qtn3 : Tok}
    (gtn : PySem.W.nsIn K mainGlobals "_NUMBERS" = some (some (.ref dtn)))
    (ttn : K.lookup dtn = some ⟨.type "dict", none, .dict #[⟨utn0, .str "0" ptn0, .int 0 qtn0⟩, ⟨utn1, .str "1" ptn1, .int 1 qtn1⟩, ⟨utn2, .str "2" ptn2, .int 2 qtn2⟩, ⟨utn3, .str "3" ptn3, .int 3 qtn3⟩] zntn, #[]⟩)
    (etn0 : utn0 = PyData.keyHash w.params "0")
    (etn1 : utn1 = PyData.keyHash w.params "1")
    (etn2 : utn2 = PyData.keyHash w.params "2")
    (etn3 : utn3 = PyData.keyHash w.params "3")
    (wtn : (dtn == sysModules) = false)
    {znts : Nat} {uts0 uts1 uts2 uts3 uts4 uts5 : Int} {pts0 qts0 pts1 qts1 pts2 qts2 pts3 qts3 pts4 qts4 pts5 qts5 : Tok}
    (gts : PySem.W.nsIn K mainGlobals "_SHIFTS" = some (some (.ref dts)))
    (tts : K.lookup dts = some ⟨.type "dict", none, .dict #[⟨uts0, .str "-3" pts0, .int (-3) qts0⟩, ⟨uts1, .str "-2" pts1, .int (-2) qts1⟩, ⟨uts2, .str "-1" pts2, .int (-1) qts2⟩, ⟨uts3, .str "+1" pts3, .int 1 qts3⟩, ⟨uts4, .str "+2" pts4, .int 2 qts4⟩, ⟨uts5, .str "+3" pts5, .int 3 qts5⟩] znts, #[]⟩)
    (ets0 : uts0 = PyData.keyHash w.params "-3")
    (ets1 : uts1 = PyData.keyHash w.params "-2")
    (ets2 : uts2 = PyData.keyHash w.params "-1")
    (ets3 : uts3 = PyData.keyHash w.params "+1")
    (ets4 : uts4 = PyData.keyHash w.params "+2")
    (ets5 : uts5 = PyData.keyHash w.params "+3")
    (wts : (dts == sysModules) = false)
    (zlen : PySem.W.nsIn K mainGlobals "len" = some none)
    (zmax : PySem.W.nsIn K mainGlobals "max" = some none)
    (zmin : PySem.W.nsIn K mainGlobals "min" = some none)
    (zint : PySem.W.nsIn K mainGlobals "int" = some none)
    (zrange : PySem.W.nsIn K mainGlobals "range" = some none)
    (zisinstance : PySem.W.nsIn K mainGlobals "isinstance" = some none)
    (zbool : PySem.W.nsIn K mainGlobals "bool" = some none)
    (zstr : PySem.W.nsIn K mainGlobals "str" = some none)
    (zall : PySem.W.nsIn K mainGlobals "all" = some none)
    (zrepr : PySem.W.nsIn K mainGlobals "repr" = some none)
    (zdict : PySem.W.nsIn K mainGlobals "dict" = some none)
    (ztuple : PySem.W.nsIn K mainGlobals "tuple" = some none)
    (zsorted : PySem.W.nsIn K mainGlobals "sorted" = some none)
    (zset : PySem.W.nsIn K mainGlobals "set" = some none)
    (zlist : PySem.W.nsIn K mainGlobals "list" = some none)
    (zenumerate : PySem.W.nsIn K mainGlobals "enumerate" = some none)
    : ∃ fd : FuncData, (∀ (s : Shared) (v : Value), BindsTo s fd ⟨[v], []⟩ [("_law_script", v)]) ∧ ∀ base : Heap, K.In base → base.Ns mainGlobals mg → FnG l.prog w K mg base CX0 10 fa fd ["_law_script"] (spLaw K) := by
  have e := hfa.symm.trans (PySem.W.mg_of X G ala)
  cases e
  have B : Blt mg := ⟨PySem.W.mg_none_of X G zlen, PySem.W.mg_none_of X G zmax, PySem.W.mg_none_of X G zmin, PySem.W.mg_none_of X G zint, PySem.W.mg_none_of X G zrange⟩
  have D : Blp mg := ⟨PySem.W.mg_none_of X G zisinstance, PySem.W.mg_none_of X G zbool, PySem.W.mg_none_of X G zstr, PySem.W.mg_none_of X G zall⟩
  have m_len := PySem.W.mg_none_of X G zlen
  have m_max := PySem.W.mg_none_of X G zmax
  have m_min := PySem.W.mg_none_of X G zmin
  have m_int := PySem.W.mg_none_of X G zint
  have m_range := PySem.W.mg_none_of X G zrange
  have m_isinstance := PySem.W.mg_none_of X G zisinstance
  have m_bool := PySem.W.mg_none_of X G zbool
  have m_str := PySem.W.mg_none_of X G zstr
  have m_all := PySem.W.mg_none_of X G zall
  have m_repr := PySem.W.mg_none_of X G zrepr
  have m_dict := PySem.W.mg_none_of X G zdict
  have m_tuple := PySem.W.mg_none_of X G ztuple
  have m_sorted := PySem.W.mg_none_of X G zsorted
  have m_set := PySem.W.mg_none_of X G zset
  have m_list := PySem.W.mg_none_of X G zlist
  have m_enumerate := PySem.W.mg_none_of X G zenumerate
  have Fwh := fun_mk (st := sWhole) lwh cwh kwh
  have bwh := Fwh.binds (ps := ["value"]) fun _ _ _ _ _ _ us hl => match us, hl with | [_], _ => rfl
  have mwh := PySem.W.mg_of X G awh
  have Fii := fun_mk (st := sIsInt) lii cii kii
  have bii := Fii.binds (ps := ["value", "low", "high"]) fun _ _ _ _ _ _ us hl => match us, hl with | [_, _, _], _ => rfl
  have mii := PySem.W.mg_of X G aii
  have Ffr := fun_mk (st := sIsFrom) lfr cfr kfr
  have bfr := Ffr.binds (ps := ["value", "low"]) fun _ _ _ _ _ _ us hl => match us, hl with | [_, _], _ => rfl
  have mfr := PySem.W.mg_of X G afr
  have Fna := fun_mk (st := sIsName) lna cna kna
  have bna := Fna.binds (ps := ["value"]) fun _ _ _ _ _ _ us hl => match us, hl with | [_], _ => rfl
  have mna := PySem.W.mg_of X G ana
  have Fip := fun_mk (st := sIsPlace) lip cip kip
  have bip := Fip.binds (ps := ["value"]) fun _ _ _ _ _ _ us hl => match us, hl with | [_], _ => rfl
  have mip := PySem.W.mg_of X G aip
  have Fuo := fun_mk (st := sUnkOf) luo cuo kuo
  have buo := Fuo.binds (ps := ["places"]) fun _ _ _ _ _ _ us hl => match us, hl with | [_], _ => rfl
  have muo := PySem.W.mg_of X G auo
  have Fle := fun_mk (st := sLeast) lle cle kle
  have ble := Fle.binds (ps := ["base"]) fun _ _ _ _ _ _ us hl => match us, hl with | [_], _ => rfl
  have mle := PySem.W.mg_of X G ale
  have Fpt := fun_mk (st := sParts) lpt cpt kpt
  have bpt := Fpt.binds (ps := ["text"]) fun _ _ _ _ _ _ us hl => match us, hl with | [_], _ => rfl
  have mpt := PySem.W.mg_of X G apt
  have Fhs := fun_mk (st := sHasSizes) lhs chs khs
  have bhs := Fhs.binds (ps := ["setting", "unknowns"]) fun _ _ _ _ _ _ us hl => match us, hl with | [_, _], _ => rfl
  have mhs := PySem.W.mg_of X G ahs
  have Far := fun_mk (st := sAreSizes) lar car kar
  have bar := Far.binds (ps := ["value"]) fun _ _ _ _ _ _ us hl => match us, hl with | [_], _ => rfl
  have mar := PySem.W.mg_of X G aar
  have Fce := fun_mk (st := sCell) lce cce kce
  have bce := Fce.binds (ps := ["_law_script", "_law_k"]) fun _ _ _ _ _ _ us hl => match us, hl with | [_, _], _ => rfl
  have mce := PySem.W.mg_of X G ace
  have Fbo := fun_mk (st := sBox) lbo cbo kbo
  have bbo := Fbo.binds (ps := ["_law_cell_here"]) fun _ _ _ _ _ _ us hl => match us, hl with | [_], _ => rfl
  have mbo := PySem.W.mg_of X G abo
  have Fta := fun_mk (st := sTake) lta cta kta
  have bta := Fta.binds (ps := ["_law_box_here", "_law_many"]) fun _ _ _ _ _ _ us hl => match us, hl with | [_, _], _ => rfl
  have mta := PySem.W.mg_of X G ata
  have Fil := fun_mk (st := sIsList) lil cil kil
  have bil := Fil.binds (ps := ["value"]) fun _ _ _ _ _ _ us hl => match us, hl with | [_], _ => rfl
  have mil := PySem.W.mg_of X G ail
  have Frk := fun_mk (st := sRanks) lrk crk krk
  have brk := Frk.binds (ps := ["numbers"]) fun _ _ _ _ _ _ us hl => match us, hl with | [_], _ => rfl
  have mrk := PySem.W.mg_of X G ark
  have Fkn := fun_mk (st := sKind) lkn ckn kkn
  have bkn := Fkn.binds (ps := ["values", "page"]) fun _ _ _ _ _ _ us hl => match us, hl with | [_, _], _ => rfl
  have mkn := PySem.W.mg_of X G akn
  have Fko := fun_mk (st := sKindOf) lko cko kko
  have bko := Fko.binds (ps := ["setting", "places"]) fun _ _ _ _ _ _ us hl => match us, hl with | [_, _], _ => rfl
  have mko := PySem.W.mg_of X G ako
  have Fpd := fun_mk (st := sPlaced) lpd cpd kpd
  have bpd := Fpd.binds (ps := ["places"]) fun _ _ _ _ _ _ us hl => match us, hl with | [_], _ => rfl
  have mpd := PySem.W.mg_of X G apd
  have Fsk := fun_mk (st := sSameKind) lsk csk ksk
  have bsk := Fsk.binds (ps := ["one", "other", "places"]) fun _ _ _ _ _ _ us hl => match us, hl with | [_, _, _], _ => rfl
  have msk := PySem.W.mg_of X G ask
  have Fpr := fun_mk (st := sPair6) lpr cpr kpr
  have bpr := Fpr.binds (ps := ["_law_box_here", "_law_roots_here"]) fun _ _ _ _ _ _ us hl => match us, hl with | [_, _], _ => rfl
  have mpr := PySem.W.mg_of X G apr
  have Fto := fun_mk (st := sTold6) lto cto kto
  have bto := Fto.binds (ps := ["_law_box_here", "_law_pair_here"]) fun _ _ _ _ _ _ us hl => match us, hl with | [_, _], _ => rfl
  have mto := PySem.W.mg_of X G ato
  have Frt := fun_mk (st := sRoots6) lrt crt krt
  have brt := Frt.binds (ps := ["_law_box_here"]) fun _ _ _ _ _ _ us hl => match us, hl with | [_], _ => rfl
  have mrt := PySem.W.mg_of X G art
  have Fsz := fun_mk (st := sSizePair) lsz csz ksz
  have bsz := Fsz.binds (ps := ["_law_box_here", "_law_much_here"]) fun _ _ _ _ _ _ us hl => match us, hl with | [_, _], _ => rfl
  have msz := PySem.W.mg_of X G asz
  have Fgr := fun_mk (st := sGreat) lgr cgr kgr
  have bgr := Fgr.binds (ps := ["_law_box_here", "_law_roots_here", "_law_much_here"]) fun _ _ _ _ _ _ us hl => match us, hl with | [_, _, _], _ => rfl
  have mgr := PySem.W.mg_of X G agr
  have Fmu := fun_mk (st := sMuch) lmu cmu kmu
  have bmu := Fmu.binds (ps := ["_law_box_here"]) fun _ _ _ _ _ _ us hl => match us, hl with | [_], _ => rfl
  have mmu := PySem.W.mg_of X G amu
  have Flk := fun_mk (st := sLKind) llk clk klk
  have blk := Flk.binds (ps := ["_law_sizes", "_law_much_here", "_law_pairs"]) fun _ _ _ _ _ _ us hl => match us, hl with | [_, _, _], _ => rfl
  have mlk := PySem.W.mg_of X G alk
  have Fot := fun_mk (st := sOther) lot cot kot
  have bot := Fot.binds (ps := ["_law_box_here", "_law_sizes", "_law_much_here", "_law_roots_here"]) fun _ _ _ _ _ _ us hl => match us, hl with | [_, _, _, _], _ => rfl
  have mot := PySem.W.mg_of X G aot
  have Fsg := fun_mk (st := sStrange) lsg csg ksg
  have bsg := Fsg.binds (ps := ["_law_box_here", "_law_sizes", "_law_roots_here", "_law_known"]) fun _ _ _ _ _ _ us hl => match us, hl with | [_, _, _, _], _ => rfl
  have msg := PySem.W.mg_of X G asg
  have Fla := fun_mk (st := sLaw) lla cla kla
  have bla := Fla.binds (ps := ["_law_script"]) fun _ _ _ _ _ _ us hl => match us, hl with | [_], _ => rfl
  have mla := PySem.W.mg_of X G ala
  have Fmo := fun_mk (st := (inClass sPlace 1)) lmo cmo kmo
  have bmo := Fmo.binds (ps := ["cls", "value"]) fun _ _ _ _ _ _ us hl => match us, hl with | [_, _], _ => rfl
  have Fmb := fun_mk (st := (inClass sPlace 2)) lmb cmb kmb
  have bmb := Fmb.binds (ps := ["self"]) fun _ _ _ _ _ _ us hl => match us, hl with | [_], _ => rfl
  have Fmh := fun_mk (st := (inClass sPlace 3)) lmh cmh kmh
  have bmh := Fmh.binds (ps := ["self"]) fun _ _ _ _ _ _ us hl => match us, hl with | [_], _ => rfl
  have Fms := fun_mk (st := (inClass sPlace 4)) lms cms kms
  have bms := Fms.binds (ps := ["self"]) fun _ _ _ _ _ _ us hl => match us, hl with | [_], _ => rfl
  have Fmd := fun_mk (st := (inClass sPlace 7)) lmd cmd kmd
  have bmd := Fmd.binds (ps := ["self", "other"]) fun _ _ _ _ _ _ us hl => match us, hl with | [_, _], _ => rfl
  have Fmx := fun_mk (st := (inClass sInvPlace 0)) lmx cmx kmx
  have bmx := Fmx.binds (ps := ["self", "value"]) fun _ _ _ _ _ _ us hl => match us, hl with | [_, _], _ => rfl
  have Fmi := fun_mk (st := (inClass sInvInt 0)) lmi cmi kmi
  have bmi := Fmi.binds (ps := ["self", "value"]) fun _ _ _ _ _ _ us hl => match us, hl with | [_, _], _ => rfl
  have Fmt := fun_mk (st := (inClass sInvSet 0)) lmt cmt kmt
  have bmt := Fmt.binds (ps := ["self", "value"]) fun _ _ _ _ _ _ us hl => match us, hl with | [_, _], _ => rfl
  have Fg0 := fun_mk (st := (inClass sSetting 0)) lg0 cg0 kg0
  have Fg2 := fun_mk (st := (inClass sSetting 2)) lg2 cg2 kg2
  have bg2 := Fg2.binds (ps := ["self"]) fun _ _ _ _ _ _ us hl => match us, hl with | [_], _ => rfl
  have Fg3 := fun_mk (st := (inClass sSetting 3)) lg3 cg3 kg3
  have bg3 := Fg3.binds (ps := ["self", "at"]) fun _ _ _ _ _ _ us hl => match us, hl with | [_, _], _ => rfl
  have Fg5 := fun_mk (st := (inClass sSetting 5)) lg5 cg5 kg5
  have bg5 := Fg5.binds (ps := ["self", "x"]) fun _ _ _ _ _ _ us hl => match us, hl with | [_, _], _ => rfl
  have FI : FunD K "__init__" "Place.__init__" (defArgs (inClass sPlace 0)) (defBody (inClass sPlace 0)) (defScope (inClass sPlace 0)) [.str ""] [("shift", .int 0)] fI _ :=
    ⟨⟨ocI, odI, .ref tD, .ref kD, dcI, pmI, anI, cdI, ctI, slI, rfl, lI, cI_, .inr ⟨by simp, tD, _, [.str "" kT], nT, rfl, lT, rfl, .cons ⟨kT, rfl⟩ .nil⟩, .inr ⟨kD, rfl, fun q hq => by
      rw [List.mem_singleton.mp hq]
      exact ⟨_, sD, ⟨kS, rfl⟩⟩⟩⟩, kI⟩
  obtain ⟨ds2, hds2, bI2⟩ := FunD.binds (ps := ["self", "base", "shift"]) FI 2 1 (by simp) rfl (fun T D doc pm an cdv ct us its ks l1 l2 l3 => match us, its, ks, l1, l2, l3 with
    | [_, _], [_], [_], _, _, _ => ⟨_, rfl, ⟨_, _, _, _, _, _, rfl, rfl, rfl⟩⟩) (by simp)
  obtain ⟨its1, mv1, kb1⟩ := FunD.kbinds (ps := ["self", "base", "shift"]) FI 1 ["shift"] [] (fun us its _ ws => us ++ its ++ ws) (by simp) (by simp) (fun q hq => nomatch hq) (fun r1 r2 _ r4 => (r1.append r2).append r4)
    (fun T D doc pm an cdv ct us its mv ws l1 l2 l3 l4 => match us, its, mv, ws, l1, l2, l3, l4 with
    | [_], [_], [], [_], _, _, _, _ => ⟨_, rfl, rfl⟩)
  obtain ⟨its2, mv2, kb2⟩ := FunD.kbinds (ps := ["self", "base", "shift"]) FI 2 ["shift"] [] (fun us _ _ ws => us ++ ws) (by simp) (by simp) (fun q hq => nomatch hq) (fun r1 _ _ r4 => r1.append r4)
    (fun T D doc pm an cdv ct us its mv ws l1 l2 l3 l4 => match us, its, mv, ws, l1, l2, l3, l4 with
    | [_, _], [_], [], [_], _, _, _, _ => ⟨_, rfl, rfl⟩)
  have Z : Cpl K mg cP := ⟨⟨pgP, hdP, pv_P, saP⟩, nB, nS, PySem.W.mg_of X G aCP⟩
  have Y : Pty K cP := ⟨⟨pgP, hdP, pv_P, saP⟩, haP, hn, htk, hmP⟩
  have N1 : Npl K cP := ⟨kit_ref hdP tCP rfl, kit_ref hdP tCP rfl, kit_ref hdP tCP rfl, kit_ref hdP tCP rfl⟩
  have M : Mk K cP fI := ⟨mkP, iI, jI, kcP⟩
  subst eG
  have FS : FunD K "__init__" "Setting.__init__" (defArgs (inClass sSetting 0)) (defBody (inClass sSetting 0)) (defScope (inClass sSetting 0)) [] [("page", .int 32)] fg0 _ :=
    ⟨⟨ocg0, odg0, .none, .ref kG, dcg0, pmg0, ang0, cdg0, ctg0, slg0, rfl, lg0, cg0, .inl ⟨rfl, rfl⟩, .inr ⟨kG, rfl, fun q hq => by
      rw [List.mem_singleton.mp hq]
      exact ⟨_, sG, ⟨kP, rfl⟩⟩⟩⟩, kg0⟩
  obtain ⟨dsS, hdsS, bS2⟩ := FunD.binds0 (ps := ["self", "sizes", "page"]) FS 2 (by simp) rfl (fun D doc pm an cdv ct us ks l1 l2 => match us, ks, l1, l2 with
    | [_, _], [_], _, _ => ⟨_, _, _, _, _, _, rfl, rfl, rfl⟩)
  have kS2 := kb_one (ps := ["self", "sizes", "page"]) Fg0 2 ["page"] fun _ _ _ _ _ _ us ws hu hw => match us, ws, hu, hw with | [_, _], [_], _, _ => rfl
  have YS : Pty K cG := ⟨⟨pgG, hdG, pv_G, saG⟩, haG, hn, htk, hmG⟩
  have pP : PropOf K cG "page" pg2 fg2 := ⟨ag2, ag21, ag22, rg, ag23⟩
  have MS : Mk K cG fg0 := ⟨mkG, ag0, jg0, kcG⟩
  have TT : Scl K mg cG := ⟨⟨pgG, hdG, pv_G, saG⟩, nZG, nPG, PySem.W.mg_of X G aCG⟩
  have TA : Arith K cP .Add fmd := ⟨sf, amd, jmd, ⟨_, ra, .inr ⟨_, rfl⟩⟩, ⟨_, ia⟩, ⟨_, ira⟩, rfl⟩
  have TX_ : Xcl K mg "InvalidPlace" cX "value" := ⟨⟨⟨nmX, qqX, NNX, bsX, bmX, snX, subX, abX, colX, ddX, k0X, k1X, k2X, k3X, k5X, lXx, rX⟩, saXe, exXe, tyXe, kXe⟩, noXe, PySem.W.mg_of X G aCX, ⟨gaXe, ggXe, exXe, hdXe⟩⟩
  have teX : PySem.W.exmOne K (.ref cX) (.ref cX) = some true := PySem.W.exm_ref exXe hdXe tyXe suXe
  have TI_ : Xcl K mg "InvalidInteger" cI "value" := ⟨⟨⟨nmI, qqI, NNI, bsI, bmI, snI, subI, abI, colI, ddI, k0I, k1I, k2I, k3I, k5I, lIx, rI⟩, saIe, exIe, tyIe, kIe⟩, noIe, PySem.W.mg_of X G aCI, ⟨gaIe, ggIe, exIe, hdIe⟩⟩
  have teI : PySem.W.exmOne K (.ref cI) (.ref cI) = some true := PySem.W.exm_ref exIe hdIe tyIe suIe
  have TS_ : Xcl K mg "InvalidSetting" cS "value" := ⟨⟨⟨nmS, qqS, NNS, bsS, bmS, snS, subS, abS, colS, ddS, k0S, k1S, k2S, k3S, k5S, lSx, rS⟩, saSe, exSe, tySe, kSe⟩, noSe, PySem.W.mg_of X G aCS, ⟨gaSe, ggSe, exSe, hdSe⟩⟩
  have teS : PySem.W.exmOne K (.ref cS) (.ref cS) = some true := PySem.W.exm_ref exSe hdSe tySe suSe
  have pB : PropOf K cP "base" pb fmb := ⟨amb, amb1, amb2, rb, amb3⟩
  have pS : PropOf K cP "shift" ph fmh := ⟨amh, amh1, amh2, rh, amh3⟩
  subst etn0 etn1 etn2 etn3 ets0 ets1 ets2 ets3 ets4 ets5
  have Ttn : Tab K w dtn numS := tab_of (l := [("0", 0, ptn0, qtn0), ("1", 1, ptn1, qtn1), ("2", 2, ptn2, qtn2), ("3", 3, ptn3, qtn3)]) ttn rfl wtn fun z => rfl
  have Tts : Tab K w dts shS := tab_of (l := [("-3", (-3), pts0, qts0), ("-2", (-2), pts1, qts1), ("-1", (-1), pts2, qts2), ("+1", 1, pts3, qts3), ("+2", 2, pts4, qts4), ("+3", 3, pts5, qts5)]) tts rfl wts fun z => rfl
  refine ⟨PySem.W.fnOf "law" "law" (defArgs sLaw) (defBody sLaw) (defScope sLaw) .none kVla dcla pmla anla cdla ctla, fun s v => .of_eq rfl, fun base _ _ => ?_⟩
  have gm := PySem.W.mg_of X G gM
  have Gwh : FnOk l.prog w K mg base CX0 1 _ _ ["value"] (spWhole K) := ok_whole Fwh B D
  have Gii : FnOk l.prog w K mg base CX0 2 _ _ ["value", "low", "high"] (spIsInt K) := ok_isInt Fii Gwh mwh kwh bwh
  have Gna : FnOk l.prog w K mg base CX0 1 _ _ ["value"] (spIsName K) := ok_isName Fna B D (PySem.W.mg_of X G gL) (PySem.W.mg_of X G gA)
  have Gle : FnOk l.prog w K mg base CX0 1 _ _ ["base"] spLeast := ok_least Fle gm
  have GIP : FnOk l.prog w K mg base CX0 3 fI _ ["self", "base", "shift"] (spInit cP) := ok_init FI Z Gna mna kna bna Gii mii kii bii Gle mle kle ble gm
  have T : Tk l.prog w K mg base fta _ := ⟨ok_take Fta B, mta, kta, bta⟩
  have Gpt : FnOk l.prog w K mg base CX0 2 _ _ ["text"] spParts := ok_parts Fpt Gna mna kna bna (PySem.W.mg_of X G gtn) (PySem.W.mg_of X G gts) Ttn Tts
  have GXX : FnOk l.prog w K mg base CX0 1 fmx _ ["self", "value"] (spX1 K cX "value") := ok_xinit Fmx TX_ (PySem.W.mg_of X G aCM) ⟨rdM, gaM⟩ fcM
  have GXI : FnOk l.prog w K mg base CX0 1 fmi _ ["self", "value"] (spX1 K cI "value") := ok_xinitI Fmi TI_ (PySem.W.mg_of X G aCM) ⟨rdM, gaM⟩ fcM
  have GXS : FnOk l.prog w K mg base CX0 1 fmt _ ["self", "value"] (spX1 K cS "value") := ok_xinitS Fmt TS_ (PySem.W.mg_of X G aCM) ⟨rdM, gaM⟩ fcM
  have GO : FnOk l.prog w K mg base (L2.CX l.prog w) 5 fmo _ ["cls", "value"] (spOf K cP cX) := ok_of Fmo Z Y N1 B D Gii mii kii bii Gpt mpt kpt bpt gm M GIP kb1 kb2 TX_ GXX amx tfX bmx
  have O : OfM l.prog w K mg base cP cX po fmo _ := ⟨GO, ⟨rdP, gaP⟩, ⟨amo, ⟨_, amo2⟩, fo⟩, bmo⟩
  have Gb : FnOk l.prog w K mg base CX0 1 fmb _ ["self"] (spBase cP) := ok_base Fmb Z
  have Gs : FnOk l.prog w K mg base CX0 1 fmh _ ["self"] (spShift cP) := ok_shift Fmh Z
  have GS : FnOk l.prog w K mg base CX0 1 fms _ ["self"] (spStr cP) := ok_str Fms Z D
  have GAd : FnOk l.prog w K mg base CX0 5 fmd _ ["self", "other"] (spAdd cP) := ok_add Fmd Z Gii mii kii bii Gle mle kle ble gm M GIP kb2
  have Gfr : FnOk l.prog w K mg base CX0 2 _ _ ["value", "low"] (spIsFrom K) := ok_isFrom Ffr Gwh mwh kwh bwh
  have Gar : FnOk l.prog w K mg base CX0 3 _ _ ["value"] (spAre K) := ok_are Far B D m_dict (PySem.W.mg_of X G gU) Gna mna kna bna Gfr mfr kfr bfr
  have GIS : FnOk l.prog w K mg base (L2.CX l.prog w) 4 fg0 _ ["self", "sizes", "page"] (spInitS K cG cS cI) := ok_initS FS TT m_dict Gar mar kar bar Gfr mfr kfr bfr TS_ GXS amt tfS bmt TI_ GXI ami tfI bmi
  have GG : FnOk l.prog w K mg base (L2.CX l.prog w) 6 fg3 _ ["self", "at"] (spGetS K cG cP cX) := ok_getS Fg3 Z TT O TX_ GXX amx tfX bmx pB Gb bmb pS Gs bmh
  have GPg : FnOk l.prog w K mg base CX0 1 fg2 _ ["self"] (spPageS cG) := ok_pageS Fg2 TT
  have GC : FnOk l.prog w K mg base CX0 1 fg5 _ ["self", "x"] (spContS K cG) := ok_contS Fg5 TT D
  obtain ⟨kMP, gMP⟩ := gMP
  have Gip : FnOk l.prog w K mg base CX0 6 _ _ ["value"] (spIsPl K cP) := ok_isPl Fip Z O (PySem.W.mg_of X G aCX) teX
  have Gil : FnOk l.prog w K mg base CX0 1 _ _ ["value"] (spIsList K) := ok_isList Fil D m_list m_tuple
  have Guo : FnOk l.prog w K mg base CX0 3 _ _ ["places"] (spUnkOf K cP) := ok_unkOf Fuo Z m_sorted pB Gb bmb
  have Ghs : FnOk l.prog w K mg base CX0 2 _ _ ["setting", "unknowns"] (spHasSizes K cG) := ok_hasSizes Fhs D GC bg5 ag5 jg5
  have Grk : FnOk l.prog w K mg base CX0 2 _ _ ["numbers"] (spRanks K) := ok_ranks Frk m_enumerate m_set m_sorted m_tuple
  have Gkn : FnOk l.prog w K mg base CX0 3 _ _ ["values", "page"] (spKind K) := ok_kind Fkn ⟨Grk, mrk, krk, brk⟩
  have Gko : FnOk l.prog w K mg base CX0 8 _ _ ["setting", "places"] (spKindOf K cG cP) := ok_kindOf Fko TT ⟨Gkn, mkn, kkn, bkn⟩ GG bg3 ag3 fog jg3 pP GPg bg2
  have Gpd : FnOk l.prog w K mg base CX0 7 _ _ ["places"] (spPlaced14 K cP) := ok_placed Fpd B D Z O (PySem.W.mg_of X G gMP) ⟨Gil, mil, kil, bil⟩ ⟨Gip, mip, kip, bip⟩
  have Gsk : FnOk l.prog w K mg base CX0 9 _ _ ["one", "other", "places"] (spSame K cG cP) := ok_same Fsk D Z O TT YS ⟨Gpd, mpd, kpd, bpd⟩ ⟨Guo, muo, kuo, buo⟩ ⟨Ghs, mhs, khs, bhs⟩ ⟨Gko, mko, kko, bko⟩
  have kSK := kb_one (ps := ["one", "other", "places"]) Fsk 2 ["places"] fun _ _ _ _ _ _ us ws hu hw => match us, ws, hu, hw with | [_, _], [_], _, _ => rfl
  have Gpr : FnOk l.prog w K mg base CX0 2 _ _ ["_law_box_here", "_law_roots_here"] (spPair6 K) := ok_pair6 Fpr T B
  have Gto : FnOk l.prog w K mg base CX0 6 _ _ ["_law_box_here", "_law_pair_here"] (spTold6 K cP) := ok_told6 Fto T Z M N1 GIP hds2 bI2 kb2 GAd bmd TA
  have Gsz : FnOk l.prog w K mg base CX0 2 _ _ ["_law_box_here", "_law_much_here"] spSizePair := ok_sizePair Fsz T B
  have Ggr : FnOk l.prog w K mg base CX0 3 _ _ ["_law_box_here", "_law_roots_here", "_law_much_here"] spGreat := ok_great Fgr T m_dict m_enumerate ⟨Gsz, msz, ksz, bsz⟩
  have Got : FnOk l.prog w K mg base CX0 4 _ _ ["_law_box_here", "_law_sizes", "_law_much_here", "_law_roots_here"] spOther := ok_other Fot T B m_dict m_enumerate ⟨Ggr, mgr, kgr, bgr⟩
  have Gsg : FnOk l.prog w K mg base CX0 2 _ _ ["_law_box_here", "_law_sizes", "_law_roots_here", "_law_known"] spStrange := ok_strange Fsg T B m_dict
  exact ok_law Fla B D m_repr m_dict m_tuple T ⟨ok_cell Fce B, mce, kce, bce⟩ ⟨ok_box Fbo B, mbo, kbo, bbo⟩ ⟨ok_roots6 Frt T B, mrt, krt, brt⟩ ⟨Gpr, mpr, kpr, bpr⟩ ⟨Gto, mto, kto, bto⟩ ⟨ok_much Fmu T, mmu, kmu, bmu⟩
    ⟨Ggr, mgr, kgr, bgr⟩ ⟨ok_lkind Flk, mlk, klk, blk⟩ ⟨Got, mot, kot, bot⟩ ⟨Gsg, msg, ksg, bsg⟩ ⟨Gsk, msk, ksk, bsk⟩ kSK TT MS GIS kS2 GS bms ams jms
theorem walk {l : PySem.W.OpenLaw} {q : Program} {loose : List Str} {XP : (Str → Option Value) → Heap → Prop} {YP : World → Heap → Prop} {d : DefRec} {K : Params → PySem.W.Frag} (hn : l.most = some 63) (hdf : d.params.defaults = [])
    (hY : ∀ (w : World) (h : Heap), YP w h → (K w.params).In h)
    (F : ∀ (w : World) (mg : Str → Option Value) (fa : Addr) (h : Heap), (K w.params).In h → h.Ns mainGlobals mg → mg d.name = some (.ref fa) →
      ∃ fd : FuncData, (∀ (s : Shared) (u : Value), BindsTo s fd ⟨[u], []⟩ [("_law_script", u)]) ∧ ∀ base : Heap, (K w.params).In base → base.Ns mainGlobals mg → FnG l.prog w (K w.params) mg base CX0 10 fa fd ["_law_script"] (spLaw (K w.params))) :
    PySem.W.WalkO q loose XP YP l.row.toRowW d [] (fun f vs => PySem.call f vs) :=
  walk_G (n := 63) (k := 10) (x := "_law_script") (CX := fun _ => CX0) (sp := fun w => spLaw (K w.params)) hn (by decide) hdf ⟨rfl, by decide, by decide⟩ hY F (fun _ _ a ns hl _ _ hS => ⟨a, ns, rfl, hS, hl, fun _ => rfl⟩) fun _ _ _ _ _ z => z
end Mz
set_option Elab.async false
set_option linter.all false
set_option maxRecDepth 100000
open PySem PySem.W PyProof.Rows in
set_option maxRecDepth 100000 in
set_option maxHeartbeats 0 in
theorem PySem.Challenge.cw_mapsizes_k11_settings_of_one_kind_holds : PySem.Challenge.rw_mapsizes_k11_settings_of_one_kind.Holds := by
  w_on; o_law; k_head; (case hw => w_witness2)
  k_fill
  refine Mz.walk (l := PySem.Challenge.rw_mapsizes_k11_settings_of_one_kind) rfl rfl (fun w h Y => PySem.W.kIn_of Y) ?F
  case F =>
    intro w mg fa h KX G hmg
    refine' Mz.all_mk (w := w) KX G hmg ?awh ?lwh ?cwh ?kwh ?aii ?lii ?cii ?kii ?afr ?lfr ?cfr ?kfr ?ana ?lna ?cna ?kna ?aip ?lip ?cip ?kip ?auo ?luo ?cuo ?kuo ?ale ?lle ?cle ?kle ?apt ?lpt ?cpt ?kpt ?ahs ?lhs ?chs ?khs ?aar ?lar ?car ?kar ?ace ?lce ?cce ?kce ?abo ?lbo ?cbo ?kbo ?ata ?lta ?cta ?kta ?ail ?lil ?cil ?kil ?ark ?lrk ?crk ?krk ?akn ?lkn ?ckn ?kkn ?ako ?lko ?cko ?kko ?apd ?lpd ?cpd ?kpd ?ask ?lsk ?csk ?ksk ?apr ?lpr ?cpr ?kpr ?ato ?lto ?cto ?kto ?art ?lrt ?crt ?krt ?asz ?lsz ?csz ?ksz ?agr ?lgr ?cgr ?kgr ?amu ?lmu ?cmu ?kmu ?alk ?llk ?clk ?klk ?aot ?lot ?cot ?kot ?asg ?lsg ?csg ?ksg ?ala ?lla ?cla ?kla ?aCP ?aCG ?aCX ?aCI ?aCS ?aCM ?amo ?amo2 ?lmo ?cmo ?kmo ?amb ?amb1 ?amb2 ?amb3 ?lmb ?cmb ?kmb ?amh ?amh1 ?amh2 ?amh3 ?lmh ?cmh ?kmh ?ams ?lms ?cms ?kms ?amd ?lmd ?cmd ?kmd ?amx ?lmx ?cmx ?kmx ?ami ?lmi ?cmi ?kmi ?amt ?lmt ?cmt ?kmt ?ag0 ?lg0 ?cg0 ?kg0 ?ag2 ?ag21 ?ag22 ?ag23 ?lg2 ?cg2 ?kg2 ?ag3 ?lg3 ?cg3 ?kg3 ?ag5 ?lg5 ?cg5 ?kg5 ?jms ?jmd ?jg0 ?jg3 ?jg5 ?fo ?fog ?tfX ?tfI ?tfS ?eG ?iI ?jI ?lI ?cI_ ?kI ?lT ?sD ?hn ?htk ?nB ?nS ?rdP ?gaP ?xiP ?xsP ?sf ?ra ?ia ?ira ?pgP ?hdP ?pv_P ?saP ?mkP ?kcP ?haP ?hmP ?tCP ?pgG ?hdG ?pv_G ?saG ?mkG ?kcG ?haG ?hmG ?tCG ?nZG ?nPG ?sG ?gMP ?lXx ?rX ?saXe ?exXe ?tyXe ?kXe ?gaXe ?ggXe ?hdXe ?suXe ?noXe ?lIx ?rI ?saIe ?exIe ?tyIe ?kIe ?gaIe ?ggIe ?hdIe ?suIe ?noIe ?lSx ?rS ?saSe ?exSe ?tySe ?kSe ?gaSe ?ggSe ?hdSe ?suSe ?noSe ?rdM ?gaM ?fcM ?gL ?gA ?gM ?gU ?gtn ?ttn ?etn0 ?etn1 ?etn2 ?etn3 ?wtn ?gts ?tts ?ets0 ?ets1 ?ets2 ?ets3 ?ets4 ?ets5 ?wts ?zlen ?zmax ?zmin ?zint ?zrange ?zisinstance ?zbool ?zstr ?zall ?zrepr ?zdict ?ztuple ?zsorted ?zset ?zlist ?zenumerate
    (case awh => k_is)
    (case lwh => k_is)
    (case cwh => k_is)
    (case kwh => k_is)
    (case aii => k_is)
    (case lii => k_is)
    (case cii => k_is)
    (case kii => k_is)
    (case afr => k_is)
    (case lfr => k_is)
    (case cfr => k_is)
    (case kfr => k_is)
    (case ana => k_is)
    (case lna => k_is)
    (case cna => k_is)
    (case kna => k_is)
    (case aip => k_is)
    (case lip => k_is)
    (case cip => k_is)
    (case kip => k_is)
    (case auo => k_is)
    (case luo => k_is)
    (case cuo => k_is)
    (case kuo => k_is)
    (case ale => k_is)
    (case lle => k_is)
    (case cle => k_is)
    (case kle => k_is)
    (case apt => k_is)
    (case lpt => k_is)
    (case cpt => k_is)
    (case kpt => k_is)
    (case ahs => k_is)
    (case lhs => k_is)
    (case chs => k_is)
    (case khs => k_is)
    (case aar => k_is)
    (case lar => k_is)
    (case car => k_is)
    (case kar => k_is)
    (case ace => k_is)
    (case lce => k_is)
    (case cce => k_is)
    (case kce => k_is)
    (case abo => k_is)
    (case lbo => k_is)
    (case cbo => k_is)
    (case kbo => k_is)
    (case ata => k_is)
    (case lta => k_is)
    (case cta => k_is)
    (case kta => k_is)
    (case ail => k_is)
    (case lil => k_is)
    (case cil => k_is)
    (case kil => k_is)
    (case ark => k_is)
    (case lrk => k_is)
    (case crk => k_is)
    (case krk => k_is)
    (case akn => k_is)
    (case lkn => k_is)
    (case ckn => k_is)
    (case kkn => k_is)
    (case ako => k_is)
    (case lko => k_is)
    (case cko => k_is)
    (case kko => k_is)
    (case apd => k_is)
    (case lpd => k_is)
    (case cpd => k_is)
    (case kpd => k_is)
    (case ask => k_is)
    (case lsk => k_is)
    (case csk => k_is)
    (case ksk => k_is)
    (case apr => k_is)
    (case lpr => k_is)
    (case cpr => k_is)
    (case kpr => k_is)
    (case ato => k_is)
    (case lto => k_is)
    (case cto => k_is)
    (case kto => k_is)
    (case art => k_is)
    (case lrt => k_is)
    (case crt => k_is)
    (case krt => k_is)
    (case asz => k_is)
    (case lsz => k_is)
    (case csz => k_is)
    (case ksz => k_is)
    (case agr => k_is)
    (case lgr => k_is)
    (case cgr => k_is)
    (case kgr => k_is)
    (case amu => k_is)
    (case lmu => k_is)
    (case cmu => k_is)
    (case kmu => k_is)
    (case alk => k_is)
    (case llk => k_is)
    (case clk => k_is)
    (case klk => k_is)
    (case aot => k_is)
    (case lot => k_is)
    (case cot => k_is)
    (case kot => k_is)
    (case asg => k_is)
    (case lsg => k_is)
    (case csg => k_is)
    (case ksg => k_is)
    (case ala => k_is)
    (case lla => k_is)
    (case cla => k_is)
    (case kla => k_is)
    (case aCP => k_is)
    (case aCG => k_is)
    (case aCX => k_is)
    (case aCI => k_is)
    (case aCS => k_is)
    (case aCM => k_is)
    (case amo => k_is)
    (case amo2 => k_is)
    (case lmo => k_is)
    (case cmo => k_is)
    (case kmo => k_is)
    (case amb => k_is)
    (case amb1 => k_is)
    (case amb2 => k_is)
    (case amb3 => k_is)
    (case lmb => k_is)
    (case cmb => k_is)
    (case kmb => k_is)
    (case amh => k_is)
    (case amh1 => k_is)
    (case amh2 => k_is)
    (case amh3 => k_is)
    (case lmh => k_is)
    (case cmh => k_is)
    (case kmh => k_is)
    (case ams => k_is)
    (case lms => k_is)
    (case cms => k_is)
    (case kms => k_is)
    (case amd => k_is)
    (case lmd => k_is)
    (case cmd => k_is)
    (case kmd => k_is)
    (case amx => k_is)
    (case lmx => k_is)
    (case cmx => k_is)
    (case kmx => k_is)
    (case ami => k_is)
    (case lmi => k_is)
    (case cmi => k_is)
    (case kmi => k_is)
    (case amt => k_is)
    (case lmt => k_is)
    (case cmt => k_is)
    (case kmt => k_is)
    (case ag0 => k_is)
    (case lg0 => k_is)
    (case cg0 => k_is)
    (case kg0 => k_is)
    (case ag2 => k_is)
    (case ag21 => k_is)
    (case ag22 => k_is)
    (case ag23 => k_is)
    (case lg2 => k_is)
    (case cg2 => k_is)
    (case kg2 => k_is)
    (case ag3 => k_is)
    (case lg3 => k_is)
    (case cg3 => k_is)
    (case kg3 => k_is)
    (case ag5 => k_is)
    (case lg5 => k_is)
    (case cg5 => k_is)
    (case kg5 => k_is)
    (case jms => k_is)
    (case jmd => k_is)
    (case jg0 => k_is)
    (case jg3 => k_is)
    (case jg5 => k_is)
    (case fo => k_is)
    (case fog => k_is)
    (case tfX => k_is)
    (case tfI => k_is)
    (case tfS => k_is)
    (case eG => rfl)
    (case iI => k_is)
    (case jI => k_is)
    (case lI => k_is)
    (case cI_ => k_is)
    (case kI => k_is)
    (case lT => k_is)
    (case sD => k_is)
    (case hn => k_is)
    (case htk => k_is)
    (case nB => k_is)
    (case nS => k_is)
    (case rdP => k_is)
    (case gaP => k_is)
    (case xiP => k_is)
    (case xsP => k_is)
    (case sf => k_is)
    (case ra => k_is)
    (case ia => k_is)
    (case ira => k_is)
    (case pgP => k_is)
    (case hdP => k_is)
    (case pv_P => k_is)
    (case saP => k_is)
    (case mkP => k_is)
    (case kcP => k_is)
    (case haP => k_is)
    (case hmP => k_is)
    (case tCP => k_is)
    (case pgG => k_is)
    (case hdG => k_is)
    (case pv_G => k_is)
    (case saG => k_is)
    (case mkG => k_is)
    (case kcG => k_is)
    (case haG => k_is)
    (case hmG => k_is)
    (case tCG => k_is)
    (case nZG => k_is)
    (case nPG => k_is)
    (case sG => k_is)
    (case gMP => exact ⟨_, by k_is⟩)
    (case lXx => k_is)
    (case rX => rfl)
    (case saXe => k_is)
    (case exXe => k_is)
    (case tyXe => k_is)
    (case kXe => k_is)
    (case gaXe => k_is)
    (case ggXe => k_is)
    (case hdXe => k_is)
    (case suXe => k_is)
    (case noXe => k_is)
    (case lIx => k_is)
    (case rI => rfl)
    (case saIe => k_is)
    (case exIe => k_is)
    (case tyIe => k_is)
    (case kIe => k_is)
    (case gaIe => k_is)
    (case ggIe => k_is)
    (case hdIe => k_is)
    (case suIe => k_is)
    (case noIe => k_is)
    (case lSx => k_is)
    (case rS => rfl)
    (case saSe => k_is)
    (case exSe => k_is)
    (case tySe => k_is)
    (case kSe => k_is)
    (case gaSe => k_is)
    (case ggSe => k_is)
    (case hdSe => k_is)
    (case suSe => k_is)
    (case noSe => k_is)
    (case rdM => k_is)
    (case gaM => k_is)
    (case fcM => k_is)
    (case gL => k_is)
    (case gA => k_is)
    (case gM => k_is)
    (case gU => k_is)
    (case gtn => k_is)
    (case ttn => k_is)
    (case etn0 => rfl)
    (case etn1 => rfl)
    (case etn2 => rfl)
    (case etn3 => rfl)
    (case wtn => first | rfl | k_is)
    (case gts => k_is)
    (case tts => k_is)
    (case ets0 => rfl)
    (case ets1 => rfl)
    (case ets2 => rfl)
    (case ets3 => rfl)
    (case ets4 => rfl)
    (case ets5 => rfl)
    (case wts => first | rfl | k_is)
    (case zlen => k_is)
    (case zmax => k_is)
    (case zmin => k_is)
    (case zint => k_is)
    (case zrange => k_is)
    (case zisinstance => k_is)
    (case zbool => k_is)
    (case zstr => k_is)
    (case zall => k_is)
    (case zrepr => k_is)
    (case zdict => k_is)
    (case ztuple => k_is)
    (case zsorted => k_is)
    (case zset => k_is)
    (case zlist => k_is)
    (case zenumerate => k_is)
