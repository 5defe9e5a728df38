import PyProof.Rows.All
import Wide.All
import OpenK.AllK
import Wide.FinOn
import PyProof.ReprRoads
import HandS.ForMost
import HandS.EndBits
import HandS.ForExc
import HandS.TryMany
import HandS.ExcInit
import HandS.ExcField
import HandS.ClsMeth
import HandS.IsInst
import KE.KCallOwn
import KE.KFmtOwn
import KE.KOpsOwn
import HandS.FStr
import KE.KxField
import HandS.MakeKwOnly
import HandS.ExcOwn
import PyProof.StrLawsRepr
import PyProof.TwoTypes
import PyProof.FactsAll.bool
import PyProof.FactsAll.int
import OpenK.KMeth
import KE.KEqNest
import HandS.DictComp
import HandS.Set
import HandS.SetBool
import HandS.Walk
import HandS.Star
import OpenK.KOps
import HandS.Wide
import HandS.Property
import HandS.TupAny
import HandS.Zip
import HandS.AnyAll
import HandS.StrMore
import PySem.Challenge.RW_mapsizes_k08_facts_kept
import HandS.More
import HandS.Dict
import HandS.OwnEq
import HandS.ListEq
import HandS.SortKw
import PyProof.SumWalkG
import PyProof.Rows.SumAny
import PyProof.WalkInts
import HandS.SetFor
import PyProof.Rows.DictTallyStr
import HandS.Style
import HandS.ExcIs
set_option Elab.async false
set_option linter.all false
set_option maxRecDepth 100000
set_option maxHeartbeats 4000000
/-! calls under which no container is being shown: the promises of defs that show lists -/
namespace Mz
open PySem PySem.Spec PyProof.Rows L2
section
variable {P : Program} {w : World} {K : PySem.W.Frag} {mg : Str → Option Value} {base : Heap} {CX : CXT} {k : Nat} {f : Addr} {fd : FuncData} {ps : List Str} {sp : Sp}
theorem quiet_deeper {A : Around} {env : Env} (h : A.guards = some []) : (A.deeper env).guards = some [] := h
theorem quiet_make {A : Around} {c : Addr} {us : List Value} {kw : List (Str × Value)} (h : A.guards = some []) : (A.under (.builtin "type.__call__" ⟨.ref c :: us, kw⟩)).guards = some [] := by
  have e : (Code.builtin "type.__call__" ⟨.ref c :: us, kw⟩).guards = [] := by
    have e2 : (Code.builtin "type.__call__" ⟨.ref c :: us, kw⟩).isGuard = false := by
      show guardIds.contains "type.__call__" = false
      decide +kernel
    unfold Code.guards
    rw [e2]
    rfl
  show pushGuards (Code.builtin "type.__call__" ⟨.ref c :: us, kw⟩).guards A.guards = some []
  rw [e, h]
  rfl
/-- a def's promise where nothing is being shown around it -/
structure FnG (P : Program) (w : World) (K : PySem.W.Frag) (mg : Str → Option Value) (base : Heap) (CX : CXT) (k : Nat) (f : Addr) (fd : FuncData) (ps : List Str) (sp : Sp) : Prop where
  lenG : ∀ vs H Q E, sp vs H Q E → vs.length = ps.length
  runG : ∀ (A : Around) (outer : List Env) (s : Shared) (H : Hp) (args : Args) (us : List Value) (vs : List V) (Q : VK) (E : XK),
    A.guards = some [] → Room k A → Env0 P w K mg base A outer s H → BindsTo s fd args (ps.zip us) → Vals vs us → sp vs H Q E →
    codeAny (model P w) A (.call (.ref f) args) (CR CX outer P w H s Q E) s
theorem FnG.of (F : FnOk P w K mg base CX k f fd ps sp) : FnG P w K mg base CX k f fd ps sp :=
  ⟨F.len, fun A outer s H args us vs Q E _ => F.run A outer s H args us vs Q E⟩
theorem FnG.mono {j : Nat} (F : FnG P w K mg base CX j f fd ps sp) (h : j ≤ k) : FnG P w K mg base CX k f fd ps sp :=
  ⟨F.lenG, fun A outer s H args us vs Q E g r => F.runG A outer s H args us vs Q E g (r.mono h)⟩
/-- the def by its body, told that nothing is being shown -/
theorem fnG_of {name qual : Str} {params : Arguments} {body : List Stmt} {scope : Scope} {dV kV doc pm cdv ct oc : Value} {an od : Option Addr} {osl : Array (Option Value)} {N : List Str}
    (lk : K.lookup f = some ⟨oc, od, .func (PySem.W.fnOf name qual params body scope dV kV doc pm an cdv ct), osl⟩) (hcd : PySem.W.codeIn K cdv qual = true) (S : FnScope N ps scope)
    (len : ∀ vs H Q E, sp vs H Q E → vs.length = ps.length)
    (hb : ∀ (A : Around) (outer : List Env) (s : Shared) (H : Hp) (vs : List V) (Q : VK) (E : XK), A.guards = some [] → Room k (A.deeper (envOfC qual scope s.heap.objs.size f cdv)) → sp vs H Q E →
      ∃ t, PSs (cxOf CX P w K mg base N qual scope f cdv A outer s H E) body t ∧ t { nx := fun _ H' => Q .non H', rt := Q } (start N vs) H) :
    FnG P w K mg base CX (k + 1) f (PySem.W.fnOf name qual params body scope dV kV doc pm an cdv ct) ps sp := by
  refine ⟨len, fun A outer s H args us vs Q E hg hr e0 hbi r hsp => ?_⟩
  -- the promise of the same def at this very place alone: whoever runs it stands at A
  have spA : ∀ (A2 : Around), A2 = A → A2.guards = some [] := fun A2 e => by
    rw [e]
    exact hg
  have lenv := len _ _ _ _ hsp
  have KX : K.In s.heap := e0.mod.kin.keeps fun b o e => (e0.bs b o e).1
  have lim : s.heap.NoLimit := e0.mod.nolimit.keeps fun b o e => (e0.bs b o e).1
  have kinds : ∀ y ∈ ps.zip us, scope.names.lookup y.1 = some .local ∨ (scope.names.lookup y.1 = some .cell ∧ ((cellsFrom (s.heap.objs.size + 1) scope.names []).lookup y.1).isSome = true) := by
    intro y hy
    obtain ⟨n, v⟩ := y
    rcases S.par n (List.of_mem_zip hy).1 with q | q
    · exact .inl q
    · exact .inr ⟨q, PySem.W.cellsFrom_some _ _ _ (.inl q)⟩
  refine codeAny_call_function hr.depth (KX _ _ lk) rfl S.co S.gen rfl (PySem.W.codeRec_of KX hcd) (hbi _ _ _ _ ?_)
  refine wpAny_newFunctionEnv_cells S.kind kinds fun env he s1 x => ?_
  subst he
  refine ⟨lim.keeps x.toInCall.keep, codeAny_func ?_⟩
  obtain ⟨t, ht, hq⟩ := hb A outer s H vs Q E hg (hr.deeper _) hsp
  have I : Inv (cxOf CX P w K mg base N qual scope f cdv A outer s H E) [] (start N vs) H s1 := inv_start S hr.hd e0 lenv r x
  refine wpAny_mono (ht.run [] s1 (start N vs) H _ I hq) (fun fl s' hs => ?_) fun e s' hs => hs
  cases fl with
  | ret u =>
    obtain ⟨v, σ', H', J, rv, q⟩ := hs
    exact ⟨v, H', J.os, J.bare, J.base, J.hok, rv, q⟩
  | next =>
    obtain ⟨σ', H', J, q⟩ := hs
    exact ⟨V.non, H', J.os, J.bare, J.base, J.hok, rfl, q⟩
  | brk =>
    obtain ⟨_, _, _, q⟩ := hs
    exact q.elim
  | cont =>
    obtain ⟨_, _, _, q⟩ := hs
    exact q.elim
end
section
variable {P : Program} {w : World} {K : PySem.W.Frag} {mg : Str → Option Value} {base : Heap}
theorem fun_okG {x qual : Str} {st : Stmt} {f : Addr} {fd : FuncData} {N ps : List Str} {k : Nat} {sp : Sp} (F : Fun K x qual st f fd) (S : FnScope N ps (defScope st)) (len : ∀ vs H Q E, sp vs H Q E → vs.length = ps.length)
    (hb : ∀ (cdv : Value) (A : Around) (outer : List Env) (s : Shared) (H : Hp) (vs : List V) (Q : VK) (E : XK), A.guards = some [] → Room k (A.deeper (envOfC qual (defScope st) s.heap.objs.size f cdv)) → sp vs H Q E →
      ∃ t, PSs (cxOf CX0 P w K mg base N qual (defScope st) f cdv A outer s H E).nox (defBody st) t ∧ t { nx := fun _ H' => Q .non H', rt := Q } (start N vs) H) : FnG P w K mg base CX0 (k + 1) f fd ps sp := by
  obtain ⟨oc, od, kV, doc, pm, an, cdv, ct, osl, rfl, lk, hcd⟩ := F.ex
  refine fnG_of lk hcd S len fun A outer s H vs Q E hg hr hsp => ?_
  obtain ⟨t, h, q⟩ := hb cdv A outer s H vs Q E hg hr hsp
  exact ⟨t, h.nox, q⟩
end
section
variable {X : Cx} {CX : CXT} {k : Nat} {f : Addr} {fd : FuncData} {ps : List Str} {sp : Sp} {dvs : List V} {ds : List Value} {E : XK} {x : Str} {p pos : Pos} {e : Expr} {es : List Expr} {t : TA}
/-- a call of such a def -/
theorem pe_callG (F : FnG X.prog X.w X.K X.mg X.base CX k f fd ps sp) (g0 : X.A.guards = some []) (hr : Room k X.A) (hg : Gl X x) (hm : X.mg x = some (.ref f)) (hk : PySem.W.keepIn X.K (.ref f) = true) (hb : Binds X.K fd ps ds) (hd : Vals dvs ds) (hx : Passes CX X E)
    (ha : PA X (e :: es) t) (hdb : (x == ("__debug__" : Str)) = false := by decide) (he : starEach (e :: es) X.env = (false, eval e X.env) :: starEach es X.env := by rfl) (hpl : (backTo pos (starEach es X.env)).any (·.1) = false := by rfl) :
    PE X (.Call (.Name x p) (e :: es) [] pos) (tCall sp dvs E t) := by
  refine ⟨fun pins s σ H Q I h => wpAny_Call_Name_kw (ld_glob I hg hm ?_ hdb)⟩
  refine PySem.W.callWith_K (h₀ := X.base) I.ok.mod.kin hk (thn (ha.run pos pins s σ H _ I h) fun us s1 hv => ?_) he hpl
  obtain ⟨vs, H1, I1, r, q⟩ := hv
  refine ⟨I1.kIn, ?_⟩
  have r2 : Vals (vs ++ dvs) (us ++ ds) := r.append hd
  have hl : (us ++ ds).length = ps.length := r2.length.symm.trans (F.lenG _ _ _ _ q)
  refine wpAny_call (codeAny_mono (F.runG X.A X.stack s1 H1 ⟨us, []⟩ (us ++ ds) (vs ++ dvs) Q E g0 hr I1.env0 (hb s1 us I1.kIn hl) r2 q) fun r s' hq => ?_)
  cases r with
  | error e => exact hx pins σ H1 s1 e s' I1 hq
  | ok fl =>
    cases fl with
    | ret u => exact I1.after hq
    | next => exact hq.elim
    | brk => exact hq.elim
    | cont => exact hq.elim
end
/-! ### repr of data -/
section
variable {X : Cx}
/-- repr(x), x a bool, None, an int of some size, a text, a list or a tuple of these -/
def rReprD (K : PySem.W.Frag) : List V → Hp → VK → Prop := fun xs H Q => ∃ x d, xs = [x] ∧ Dp K H x d ∧ PyData.showable d = true ∧ PyData.hasDict d = false ∧ PyData.depth d < 60 ∧ (PyData.shown d).length ≤ sizeLine ∧ Q (.str (PyData.shown d)) H
theorem call_reprD (g0 : X.A.guards = some []) (hu : X.A.units + 64 < cLine) : CallR X (.builtin "repr") (rReprD X.K) := by
  intro pins s σ H xs us Q I r h
  obtain ⟨x, d, rfl, hd, hs, hno, hdp, hz, q⟩ := h
  obtain ⟨u, rfl, rx⟩ := vals1 r
  have ends : ∀ h' t tk, (∀ b o, s.heap.get? b = some o → h'.get? b = some o) → EP X pins σ Q (.str (PyData.shown d) t) { s with heap := h', toks := tk } :=
    fun h' t tk hk => ⟨.str _, H, I.kept hk, ⟨_, rfl⟩, q⟩
  have keep : ∀ b o, s.heap.get? b = some o → s.heap.get? b = some o := fun _ _ z => z
  obtain ⟨as, rd⟩ := Dp.reads I d x u hd rx
  cases hd with
  | non =>
    cases rx
    exact PySem.P.repr_of_none (by simpa only [PyData.shown] using ends s.heap _ _ keep)
  | bl b =>
    cases rx
    exact PySem.P.repr_of_bool (by simpa only [PyData.shown] using ends s.heap _ _ keep)
  | int i =>
    obtain ⟨t, rfl⟩ := rx
    have hs' : i.natAbs.log2 < 1920 := by simpa [PyData.showable] using hs
    exact PySem.P.repr_of_int hs' (by simpa only [PyData.shown] using ends s.heap _ _ keep)
  | str z =>
    obtain ⟨t, rfl⟩ := rx
    exact PySem.P.repr_of_str (by simpa only [PyData.shown] using ends s.heap _ _ keep) (by simpa only [PyData.shown] using hz)
  | lst h1 h2 =>
    cases rx
    exact repr_of_reads' rd hs (fun z => by rw [hno] at z; cases z) g0 (by omega) keep (fun h' t tk hk => ends h' t tk hk) hz
  | tup h1 h2 =>
    cases rx
    exact repr_of_reads' rd hs (fun z => by rw [hno] at z; cases z) g0 (by omega) keep (fun h' t tk hk => ends h' t tk hk) hz
end
end Mz
set_option Elab.async false
set_option linter.all false
set_option maxRecDepth 100000
set_option maxHeartbeats 4000000
/-! the end of a row for a law whose promise wants that nothing is being shown -/
namespace Mz
open PySem PySem.Spec PyProof.Rows L2
theorem law_callG {P : Program} {w : World} {K : PySem.W.Frag} {mg mb : Str → Option Value} {CX : CXT} {k : Nat} {fa a : Addr} {fd : FuncData} {x : Str} {sp : Sp} {s1 : Shared} {vs : List Value} {ns : List Int}
    (KX : K.In s1.heap) (hns : s1.heap.Ns mainGlobals mg) (hb : s1.heap.Ns builtinsNs mb) (hbb : ∀ x : Str, x ≠ "__name__" → mb x = bootBuiltins x) (hlim : s1.heap.NoLimit) (hgen : s1.gens = #[])
    (ha : s1.heap.get? a = some { cls := .type "list", data := .seq vs.toArray }) (hi : IntsAre vs ns) (hl : ns.length ≤ sizeLine) (hr : Room k callerA)
    (F : ∀ base : Heap, K.In base → base.Ns mainGlobals mg → FnG P w K mg base CX k fa fd [x] sp) (hbind : ∀ (s : Shared) (u : Value), BindsTo s fd ⟨[u], []⟩ [(x, u)])
    (hsp : ∀ H : Hp, Only H → SqL K H a (ns.map V.int) → sp [.ref a] H (fun v _ => v = .bl true) fun _ _ _ => False)
    (hCX : ∀ H e s', CX [] H s1 (fun _ _ _ => False) e s' → False) :
    codeAny (model P w) callerA (.call (.ref fa) ⟨[.ref a], []⟩) (fun r s' => r = .ok (.ret (.bool true)) ∧ OldK s1.heap s'.heap ∧ s'.os = s1.os ∧ AllBare s'.gens) s1 := by
  have rv := vals_ints hi
  have lenV := hi.length
  have way : ∀ H : Hp, Only H → SqL K H a (ns.map V.int) → HOk P w H s1.heap → (∀ b u, H b = some u → b = a) → (∀ u, H a = some u → K.lookup a = none) →
      codeAny (model P w) callerA (.call (.ref fa) ⟨[.ref a], []⟩) (fun r s' => r = .ok (.ret (.bool true)) ∧ OldK s1.heap s'.heap ∧ s'.os = s1.os ∧ AllBare s'.gens) s1 := by
    intro H hO hS hok hA hK
    have untr : ∀ {b : Addr} {o : Obj} {es : Array DictEntry} {ep : Nat}, s1.heap.get? b = some o → o.data = .dict es ep → H b = none := by
      intro b o es ep e d
      rcases q : H b with _ | u
      · rfl
      · obtain rfl := hA b u q
        rw [ha] at e
        cases e
        exact nomatch (show Data.seq vs.toArray _ = Data.dict es ep from d)
    have nsK : ∀ {b : Addr} {m : Str → Option Value}, s1.heap.Ns b m → (hidT s1.heap H).Ns b m := by
      rintro b m ⟨o, es, ep, e, d, r⟩
      exact ⟨o, es, ep, hidT_get e (untr e d), d, r⟩
    have hKb : K.In (hidT s1.heap H) := by
      intro b o e
      refine hidT_get (KX b o e) ?_
      rcases q : H b with _ | u
      · rfl
      · obtain rfl := hA b u q
        have z := hK u q
        rw [z] at e
        cases e
    have hM : Mod K mg (hidT s1.heap H) := by
      obtain ⟨mc, h1, h2⟩ := hlim
      exact ⟨hKb, nsK hns, ⟨mb, nsK hb, hbb⟩, ⟨mc, nsK h1, h2⟩⟩
    have e0 : Env0 P w K mg (hidT s1.heap H) callerA [] s1 H :=
      ⟨rfl, hM, fun b o e => of_hidT e, Nat.le_of_eq (hidT_size _ _), trivial, fun b z => (nomatch (show b ∈ ([] : List Addr) from z)), hok, .of_eq hgen⟩
    have run := (F _ hKb (nsK hns)).runG callerA [] s1 H ⟨[.ref a], []⟩ [.ref a] [.ref a] _ _ rfl hr e0 (hbind s1 (.ref a)) (.cons rfl .nil) (hsp H hO hS)
    refine codeAny_mono run fun r s' h => ?_
    match r, h with
    | .error e, h => exact (hCX H e s' h).elim
    | .ok .next, h => exact h.elim
    | .ok .brk, h => exact h.elim
    | .ok .cont, h => exact h.elim
    | .ok (.ret u), h =>
      obtain ⟨v, H', os, bare, un, hok2, r2, q⟩ := h
      obtain rfl : v = .bl true := q
      obtain rfl : u = Value.bool true := r2
      refine ⟨rfl, OldK.of_keep fun b o e => ?_, os, bare⟩
      rcases q : H b with _ | u
      · exact un.keep b o e q (fun z => (nomatch (show b ∈ ([] : List Addr) from z))) (by simp)
      · rcases hO b with z | ⟨ob, xs, z⟩
        · rw [q] at z
          cases z
        · have z2 := un.frzs b ob _ z
          obtain ⟨e1, _⟩ := hok b _ z
          obtain ⟨e2, _⟩ := hok2 b _ z2
          rw [e] at e1
          cases e1
          exact e2
  rcases hk : K.lookup a with _ | o
  · have at_a : ∀ {b : Addr} {u : HO}, (if b = a then some (HO.frz { cls := .type "list", data := .seq vs.toArray } (.lst (ns.map V.int))) else none) = some u → b = a ∧ u = .frz { cls := .type "list", data := .seq vs.toArray } (.lst (ns.map V.int)) := by
      intro b u z
      by_cases hba : b = a
      · rw [if_pos hba] at z
        exact ⟨hba, (Option.some.inj z).symm⟩
      · rw [if_neg hba] at z
        cases z
    refine way (fun b => if b = a then some (.frz { cls := .type "list", data := .seq vs.toArray } (.lst (ns.map V.int))) else none) (fun b => ?_) (.inl (.inr ⟨{ cls := .type "list", data := .seq vs.toArray }, if_pos rfl⟩)) (fun b u z => ?_) (fun b u z => (at_a z).1) fun u _ => hk
    · by_cases hba : b = a
      · exact .inr ⟨_, _, if_pos hba⟩
      · exact .inl (if_neg hba)
    · obtain ⟨rfl, rfl⟩ := at_a z
      exact ⟨ha, by rw [List.length_map]; exact hl, vs, _, rv, ha⟩
  · have e := KX a o hk
    rw [ha] at e
    cases e
    refine way (fun _ => none) (fun _ => .inl rfl) (.inr ⟨_, vs.toArray, _, hk, rfl, rfl, rfl, by rw [List.size_toArray, lenV]; exact hl, by simpa using rv⟩) (fun b u z => ?_) (fun b u z => ?_) fun u z => ?_
    · exact nomatch (show (none : Option HO) = some u from z)
    · exact nomatch (show (none : Option HO) = some u from z)
    · exact nomatch (show (none : Option HO) = some u from z)
theorem walk_G {l : PySem.W.OpenLaw} {n k : Nat} {q : Program} {loose : List Str} {XP : (Str → Option Value) → Heap → Prop} {YP : World → Heap → Prop} {d : DefRec} {K : Params → PySem.W.Frag} {CX : World → CXT} {sp : World → Sp} {x : Str}
    (hn : l.most = some n) (hn2 : n ≤ sizeLine) (hdf : d.params.defaults = []) (hr : Room k callerA)
    (hY : ∀ (w : World) (h : Heap), YP w h → (K w.params).In h)
    (F : ∀ (w : World) (mg : Str → Option Value) (fa : Addr) (h : Heap), (K w.params).In h → h.Ns mainGlobals mg → mg d.name = some (.ref fa) →
      ∃ fd : FuncData, (∀ (s : Shared) (u : Value), BindsTo s fd ⟨[u], []⟩ [(x, u)]) ∧ ∀ base : Heap, (K w.params).In base → base.Ns mainGlobals mg → FnG l.prog w (K w.params) mg base (CX w) k fa fd [x] (sp w))
    (hsp : ∀ (w : World) (H : Hp) (a : Addr) (ns : List Int), ns.length ≤ n → (∀ z ∈ ns, Builtin.Int.intBits z ≤ 1048576) → Only H → SqL (K w.params) H a (ns.map V.int) → sp w [.ref a] H (fun v _ => v = .bl true) fun _ _ _ => False)
    (hCX : ∀ (w : World) (H : Hp) (s : Shared) (e : Value) (s' : Shared), CX w [] H s (fun _ _ _ => False) e s' → False) :
    PySem.W.WalkO q loose XP YP l.row.toRowW d [] (fun f vs => PySem.call f vs) := by
  refine Att.attach_callB hn hdf fun w s0 s1 mg mb fa o pm cd doc a vs ns G Y ho hd hcd hmg hobj hints hlen hbits hgen => ?_
  obtain ⟨fd, hb, hF⟩ := F w mg fa _ (hY w _ Y) G.T.g hmg
  exact law_callG (hY w _ Y) G.T.g G.T.b G.T.builtins G.T.nolimit hgen hobj hints (Nat.le_trans hlen hn2) hr hF hb (fun H hO hS => hsp w H a ns hlen hbits hO hS) fun H e s' => hCX w H s1 e s'
end Mz
set_option Elab.async false
set_option linter.all false
set_option maxRecDepth 100000
set_option maxHeartbeats 4000000
/-! try with several clauses «except X as n», the exception met by one of them; what else stands behind these clauses is never looked at -/
namespace Mz
open PySem PySem.Spec PyProof.Rows L2
/-- a clause: the class, the slot of its name, its suite -/
abbrev Cl := Value × Nat × (Addr → Value → Option Addr → TS)
def endsAs (i : Nat) (D : Ends) : Ends := { nx := fun t G => D.nx (t.set i none) G, rt := D.rt, bk := fun t G => D.bk (t.set i none) G, ct := fun t G => D.ct (t.set i none) G }
def wNam (K : PySem.W.Frag) (D : Ends) : List Cl → WX
  | [] => fun _ _ _ _ => False
  | (c, i, ts) :: r => fun cls d t G => ∃ b, PySem.W.exmOne K cls c = some b ∧ (b = true → ∀ a, G a = none → ts a cls d (endsAs i D) (t.set i (some (.ref a))) G) ∧ (b = false → wNam K D r cls d t G)
inductive Cls_ (X : Cx) : List ExceptHandler → List Cl → Prop
  | any (l : List ExceptHandler) : Cls_ X l []
  | one {x n : Str} {c : Value} {i : Nat} {ts : Addr → Value → Option Addr → TS} {st : Stmt} {suite : List Stmt} {p1 p2 : Pos} {hs : List ExceptHandler} {l : List Cl} (hi : X.N[i]? = some n) (hl : X.env.kindOf n = some .local) (hc : Names X x c)
      (hsu : ∀ (a : Addr) (oe : Obj) (cls : Value) (d : Option Addr) (pn : List (Addr × Obj)), Zc cls d oe → (∃ vs, oe.data = .fields vs) → PSs (X.suite a ((a, oe) :: pn)) (st :: suite) (ts a cls d)) (r : Cls_ X hs l) :
      Cls_ X (.ExceptHandler (some (.Name x p1)) (some n) (st :: suite) p2 :: hs) ((c, i, ts) :: l)
section
variable {X : Cx} {body : List Stmt} {hd0 : ExceptHandler} {hds : List ExceptHandler} {tb : WX → TS} {l : List Cl} {pos : Pos}
theorem ps_try_named (hst : X.stack = X.env :: X.outer) (hfr : X.env.frame = some X.env.locals) (hN : X.N.Nodup)
    (hb : ∀ (W : WX) (pn : List (Addr × Obj)) (xe : Value → Shared → Prop), Takes (X.tr pn xe) W → PassesOwn (model X.prog X.w) X.A X.env xe → PSs (X.tr pn xe) body (tb W))
    (hh : Cls_ X (hd0 :: hds) l) : PS X (.Try body (hd0 :: hds) [] [] pos) (fun D σ H => tb (wNam X.K D l) D σ H) := by
  refine ⟨fun pins s σ H D I h => ?_⟩
  have ok := I.ok
  have frames : X.A.frames = some (X.env :: X.outer) := ok.frames.trans (congrArg some hst)
  refine wpAny_Try_except (wpAny_mono ((hb (wNam X.K D l) (X.pn ++ pins) (fun e q1 => wpAny (model X.prog X.w) X.A (noteFrame e X.env) (fun _ q2 => wpAny (model X.prog X.w) X.A (setFlight e none) (fun _ q3 =>
    wpAny (model X.prog X.w) X.A (handleBy e X.env (hd0 :: hds)) (SP X pins D) X.xe q3) X.xe q2) X.xe q1) (fun u s' xx => ?_) PassesOwn.looking).run [] s σ H D (I.toTry _) h) (fun f q1 hsp => ?_) fun e q1 he => he)
  · obtain ⟨a, B, sI, pins2, t, G, cls, d, rfl, JT, nb, up, sky, na, os, ag, wish⟩ := xx
    have J : Inv X pins t G sI := JT.ofTry ok
    have sky2 : Sky B (X.env :: X.outer) a (Zc cls d) X.env.locals s'.heap := hst ▸ sky
    show wpAny (model X.prog X.w) X.A (noteFrame (.ref a) X.env) _ _ _
    refine Sky.land Zc.steady frames hfr sky2 fun g3 fl3 up3 => ?_
    have J3 : Inv X pins t G { s' with heap := g3 } := J.landed nb fl3.1 (up.trans up3) os ag
    obtain ⟨oe3, vs3, he3, hz3, hd3⟩ := fl3.there
    have off : a ∉ frs (X.env :: X.outer) := by
      intro hm
      obtain ⟨_, o2, e2, hnf⟩ := fl3.2.2.1.mem hm
      rw [he3] at e2
      cases e2
      exact hnf _ hd3
    have nL : a ≠ X.env.locals := fun z => off (List.mem_filterMap.mpr ⟨X.env, List.mem_cons_self, by rw [hfr, z]⟩)
    have nF : a ∉ X.fs := by
      intro hm
      obtain ⟨e, he, q⟩ := List.mem_filterMap.mp hm
      exact off (List.mem_filterMap.mpr ⟨e, List.mem_cons_of_mem _ he, q⟩)
    have S3 := J3.suite he3 hd3 na nL nF
    have go : ∀ {k : List ExceptHandler} {m : List Cl}, Cls_ X k m → wNam X.K D m cls d t G → wpAny (model X.prog X.w) X.A (handleBy (.ref a) X.env k) (SP X pins D) X.xe { s' with heap := g3 } := by
      intro k m hk
      induction hk with
      | any k => exact fun z => z.elim
      | @one x n c i ts st suite p1 p2 k2 m2 hi hl hc hsu r ih =>
        rintro ⟨b, hb1, hyes, hno⟩
        have locn : Loc X.env.scope n := .inl hl
        refine wpAny_handleBy_cons (codeAny_handlers_test ?_) (by intro q; cases q)
        have typ : PySem.W.Looks (model X.prog X.w) g3 (typeOf (.ref a)) cls := fun A Q E s k q => wpAny_typeOf_ref (k _ _ he3) (by rw [hz3.1]; exact q)
        have met := PySem.W.exm_one (M := model X.prog X.w) (J3.kIn) typ hb1
        have load : ∀ {Q : Value → Shared → Prop} {E : Value → Shared → Prop}, Q c { s' with heap := g3 } → wpAny (model X.prog X.w) (X.A.mark (some (.ref a))) (eval (.Name x p1) X.env) Q E { s' with heap := g3 } := by
          intro Q E q
          obtain ⟨h1, h2, h3 | ⟨h3, h4, h5⟩⟩ := hc
          · exact ld_glob (X := X.suite a ((a, oe3) :: (X.pn ++ pins))) S3 h1 h3 q h2
          · exact ld_blt (X := X.suite a ((a, oe3) :: (X.pn ++ pins))) S3 h1 h3 h4 q h5 h2
        refine load (met.here ?_)
        cases b with
        | false => exact ih (hno rfl)
        | true =>
          refine codeAny_handlers_suite_as (HandSPX.lands_againZ fl3 fun g4 fl4 up4 => ?_)
          have J4 : Inv X pins t G { s' with heap := g4 } := J.landed nb fl4.1 ((up.trans up3).trans up4) os ag
          obtain ⟨oe4, vs4, he4, hz4, hd4⟩ := fl4.there
          have S4 := J4.suite he4 hd4 na nL nF
          refine store_ok (X := X.suite a ((a, oe4) :: (X.pn ++ pins))) (v := .ref a) S4 hN hi locn rfl (fun q5 S5 => ?_) (.inr hl)
          refine wpAny_mono ((hsu a oe4 cls d (X.pn ++ pins) hz4 ⟨_, hd4⟩).run [] q5 _ G _ S5 (hyes rfl a na)) (fun f q6 hsp => ?_) (fun _ _ z => z.elim)
          have fin : ∀ {t6 : L2.St} {G6 : Hp} {Q : Shared → Prop}, Inv (X.suite a ((a, oe4) :: (X.pn ++ pins))) [] t6 G6 q6 → (∀ q7, Inv X pins (t6.set i none) G6 q7 → Q q7) →
              wpAny (model X.prog X.w) X.A (do bindName X.env n .none; unbindBehindTheSuite X.env n p2) (fun _ q7 => Q q7) X.xe q6 := fun S6 hq => gone_ok (S6.unsuite ok) hN hi hl hq
          match f, hsp with
          | .next, ⟨t6, G6, S6, q6⟩ => exact fin S6 fun _ J7 => ⟨_, _, J7, q6⟩
          | .brk, ⟨t6, G6, S6, q6⟩ => exact fin S6 fun _ J7 => ⟨_, _, J7, q6⟩
          | .cont, ⟨t6, G6, S6, q6⟩ => exact fin S6 fun _ J7 => ⟨_, _, J7, q6⟩
          | .ret u, ⟨v6, t6, G6, S6, r6, q6⟩ => exact fin S6 fun _ J7 => ⟨_, _, _, J7, r6, q6⟩
    first
      | exact go hh wish
      | exact HandSPX.setFlight_upZ fl3 fun h4 hh4 up4 => go hh wish
  · match f, hsp with
    | .next, ⟨t, G, J, q⟩ => exact wpAny_execs_nil ⟨t, G, J.ofTry ok, q⟩
    | .brk, ⟨t, G, J, q⟩ => exact ⟨t, G, J.ofTry ok, q⟩
    | .cont, ⟨t, G, J, q⟩ => exact ⟨t, G, J.ofTry ok, q⟩
    | .ret u, ⟨v, t, G, J, r, q⟩ => exact ⟨v, t, G, J.ofTry ok, r, q⟩
end
end Mz
set_option Elab.async false
set_option linter.all false
set_option maxRecDepth 100000
set_option maxHeartbeats 4000000
/-! own exceptions whose __init__ calls the __init__ of an own base by its name -/
namespace Mz
open PySem PySem.Spec PyProof.Rows L2
section
variable {X : Cx} {o e : Expr} {es : List Expr} {ta : TA} {x : Str} {cM : Addr} {p1 p2 pos : Pos}
/-- MapError.__init__(self, ..): what stands there is the built-in one -/
theorem pe_meinit {pl : Sem Bool} (hg : Gl X x) (hm : X.mg x = some (.ref cM)) (rd : ClX.CRead X.K cM (.type "type")) (fc : PySem.W.findCls X.K (.ref cM) (.type "type") "__init__" = some (.val (.builtin "ValueError.__init__"))) (ha : PA X (e :: es) ta)
    (hc : eval (.Call (.Attribute (.Name x p1) "__init__" p2) (e :: es) [] pos) X.env = (do
      let ov ← eval (.Name x p1) X.env
      standAt p2.atName
      let (f, first) ← holding [ov] (getMethod ov "__init__" pl)
      callWith pos f first (backTo pos (starEach (e :: es) X.env)) (backToKw pos (keywordEach [] X.env))) := by rfl)
    (hdb : (x == ("__debug__" : Str)) = false := by decide) (he : starEach (e :: es) X.env = (false, eval e X.env) :: starEach es X.env := by rfl) (hpl : (backTo pos (starEach es X.env)).any (·.1) = false := by rfl) :
    PE X (.Call (.Attribute (.Name x p1) "__init__" p2) (e :: es) [] pos) (tVeI X.K ta) := by
  refine ⟨fun pins s σ H Q I h => PySem.W.methodCall_KW (ld_glob I hg hm ?_ hdb) hc⟩
  refine PySem.W.method_cls I.kIn rd.ga (PySem.W.cls_value I.kIn rd.rd fc (by decide +kernel) ?_)
  show wpAny _ _ (callWith pos (Value.builtin "ValueError.__init__") [] (backTo pos (starEach (e :: es) X.env)) []) _ _ _
  refine PyProof.Rows.callWith_method1 (thn (ha.run pos pins _ σ H _ (I.tok _) h) fun us s1 hv => ?_) he hpl
  obtain ⟨vs, H1, I1, r1, a, C, ws, rfl, hl, T, ea, q⟩ := hv
  cases r1 with
  | @cons _ u0 _ ur ra rw2 =>
    obtain rfl : u0 = Value.ref a := ra
    have short : ur.length ≤ sizeLine := by
      have e2 := Paired.length rw2
      have e3 := sizeLine_eq
      omega
    exact oinit_ok T I1 ea short fun s2 J => ⟨.non, H1, J, rfl, q⟩
end
/-- an exception of one field that is being made: it is at a, no dict as yet; behind __init__ its dict holds the field -/
def spX1 (K : PySem.W.Frag) (C : Addr) (f : Str) : Sp := fun vs H Q _ => ∃ (a : Addr) (v : V), vs = [.ref a, v] ∧ H a = some (exo a C none) ∧
  ∀ dx, H dx = none → dx ≠ a → Q .non (upd (upd H dx (exd dx [(f, v)])) a (exo a C (some dx)))
end Mz
set_option Elab.async false
set_option linter.all false
set_option maxRecDepth 100000
set_option maxHeartbeats 4000000
/-! what an own class says of str, ==, !=, + -/
namespace Mz
open PySem PySem.Spec PyProof.Rows L2
section
variable {X : Cx} {CX : CXT} {k : Nat} {f C : Addr} {fd : FuncData} {ps : List Str} {sp : Sp} {E : XK}
/-- a def of the text called at another place of the same run -/
theorem run_at {pins : List (Addr × Obj)} {σ : L2.St} {H : Hp} {s : Shared} {A : Around} {Q : VK} {us : List Value} {vs : List V} {E2 : Value → Shared → Prop} (F : FnOk X.prog X.w X.K X.mg X.base CX k f fd ps sp) (hr : Room k A) (e0 : Env0 X.prog X.w X.K X.mg X.base A X.stack s H)
    (hb : Binds X.K fd ps []) (hx : ∀ e s2, CX X.stack H s E e s2 → E2 e s2) (I : Inv X pins σ H s) (r : Vals vs us) (h : sp vs H Q E) : wpAny (model X.prog X.w) A (call (.ref f) us) (EP X pins σ Q) E2 s := by
  have hl : (us ++ []).length = ps.length := by
    rw [List.append_nil]
    exact r.length.symm.trans (F.len _ _ _ _ h)
  have hbi := hb s us I.kIn hl
  rw [List.append_nil] at hbi
  refine wpAny_call (codeAny_mono (F.run A X.stack s H ⟨us, []⟩ us vs Q E hr e0 hbi r h) fun r s2 hq => ?_)
  match r, hq with
  | .error e, hq => exact hx e s2 hq
  | .ok (.ret u), hq => exact I.after hq
  | .ok .next, hq => exact hq.elim
  | .ok .brk, hq => exact hq.elim
  | .ok .cont, hq => exact hq.elim
/-- str(x) by the own __str__ -/
theorem call_strO (F : FnOk X.prog X.w X.K X.mg X.base CX0 k f fd ps sp) (hr : Room (k + 2) X.A) (hb : Binds X.K fd ps []) (hs : PySem.W.findIn X.K (.ref C) "__str__" = some (some (.ref f))) (hf : PySem.W.isFn X.K (.ref f) = true) :
    CallR X (.type "str") (fun xs H Q => ∃ a dx fs, xs = [.ref a] ∧ H a = some (.ins C dx fs) ∧ sp [.ref a] H (fun v H2 => ∃ z : Str, v = .str z ∧ Q (.str z) H2) E0) := by
  intro pins s σ H xs us Q I r h
  obtain ⟨a, dx, fs, rfl, ha, q⟩ := h
  obtain ⟨u, rfl, rx⟩ := vals1 r
  obtain rfl : u = Value.ref a := rx
  obtain ⟨mA, O, _⟩ := ins_get I.hok ha
  obtain ⟨od, J, _⟩ := O.look
  refine PySem.W.kso_call hr.in1.in1.units0 I.kIn J hs hf (wpAny_mono (run_at (E := E0) (vs := [.ref a]) (us := [.ref a]) F hr.in1.in1 I.env0.in1.in1 hb (fun _ _ z => z.elim) I (.cons rfl .nil) q) (fun u s2 hv => ?_) fun _ _ z => z)
  obtain ⟨v, H2, I2, rv, z, rfl, q2⟩ := hv
  obtain ⟨t, rfl⟩ := rv
  exact ⟨.str z, H2, I2, ⟨t, rfl⟩, q2⟩
/-- what stands on the other side of == : its type, no class below C -/
def Oth (K : PySem.W.Frag) (C : Addr) (H : Hp) (y : V) : Prop := ∃ t, TyX K H y t ∧ PySem.W.notFirst K C t = true
theorem op_eqO (F : FnOk X.prog X.w X.K X.mg X.base CX0 k f fd ps sp) (hr : Room k X.A) (hb : Binds X.K fd ps []) (hs : PySem.W.findIn X.K (.ref C) "__eq__" = some (some (.ref f))) (hf : PySem.W.isFn X.K (.ref f) = true) :
    OpR X (compareOp .Eq) (fun x y H Q => ∃ a dx fs, x = .ref a ∧ H a = some (.ins C dx fs) ∧ Oth X.K C H y ∧ sp [.ref a, y] H (fun v H2 => ∃ b : Bool, v = .bl b ∧ Q (.bl b) H2) E0) := by
  intro pins s σ H x y v u Q I rx ry h
  obtain ⟨a, dx, fs, rfl, ha, ⟨t, ty, nf⟩, q⟩ := h
  obtain rfl : v = Value.ref a := rx
  obtain ⟨mA, O, _⟩ := ins_get I.hok ha
  obtain ⟨od, J, _⟩ := O.look
  obtain ⟨m, hF⟩ := I.fr
  obtain ⟨P, Z, hp, _⟩ := kit_of I ry ty
  refine PySem.W.cmp_ofEq (PySem.W.cmp_K (op := .Eq) hr.units0 hF I.ok.mod.kin J (Z.ty _ _ I.kIn hp) nf hs hf (wpAny_mono (run_at (E := E0) (vs := [.ref a, y]) (us := [.ref a, u]) F hr I.env0 hb (fun _ _ z => z.elim) I (.cons rfl (.cons ry .nil)) q) (fun u s2 hv => ?_) fun _ _ z => z))
  obtain ⟨v, H2, I2, rv, b, rfl, q2⟩ := hv
  obtain rfl : u = Value.bool b := rv
  exact ⟨.bl b, H2, I2, rfl, q2⟩
/-- object.__ne__ by the own __eq__ -/
theorem op_neO (F : FnOk X.prog X.w X.K X.mg X.base CX0 k f fd ps sp) (hr : Room (k + 1) X.A) (hb : Binds X.K fd ps []) (hs : PySem.W.findIn X.K (.ref C) "__eq__" = some (some (.ref f))) (hf : PySem.W.isFn X.K (.ref f) = true)
    (hn : PySem.W.findIn X.K (.ref C) "__ne__" = some (some (.builtin "object.__ne__"))) (hm : PySem.W.mroIn X.K C (.type "object") = some true) :
    OpR X (compareOp .NotEq) (fun x y H Q => ∃ a dx fs, x = .ref a ∧ H a = some (.ins C dx fs) ∧ Oth X.K C H y ∧ sp [.ref a, y] H (fun v H2 => ∃ b : Bool, v = .bl b ∧ Q (.bl (!b)) H2) E0) := by
  intro pins s σ H x y v u Q I rx ry h
  obtain ⟨a, dx, fs, rfl, ha, ⟨t, ty, nf⟩, q⟩ := h
  obtain rfl : v = Value.ref a := rx
  obtain ⟨mA, O, _⟩ := ins_get I.hok ha
  obtain ⟨od, J, _⟩ := O.look
  obtain ⟨m, hF⟩ := I.fr
  obtain ⟨P, Z, hp, _⟩ := kit_of I ry ty
  have back : wpAny (model X.prog X.w) X.A.in1 (call (.ref f) [.ref a, u]) (fun r s2 => ∃ b, r = .bool b ∧ EP X pins σ Q (.bool (!b)) s2) X.xe s :=
    wpAny_mono (run_at (E := E0) (vs := [.ref a, y]) (us := [.ref a, u]) F hr.in1 I.env0.in1 hb (fun _ _ z => z.elim) I (.cons rfl (.cons ry .nil)) q) (fun r s2 hv => by
      obtain ⟨v, H2, I2, rv, b, rfl, q2⟩ := hv
      obtain rfl : r = Value.bool b := rv
      exact ⟨b, rfl, .bl (!b), H2, I2, rfl, q2⟩) fun _ _ z => z
  have body : wpAny (model X.prog X.w) X.A.in1 (Builtin.«object.__ne__» ⟨[.ref a, u], []⟩) (fun fin s2 => ∃ b : Bool, fin = .done (.ret (.bool b)) ∧ EP X pins σ Q (.bool b) s2) X.xe s := by
    unfold Builtin.«object.__ne__»
    refine wpAny_bind (m := slotArgs "__ne__" 1 _) (wpAny_pure ?_)
    refine wpAny_bind (m := cRoomFor _ _) (wpAny_cRoomFor hr.in1.units0 ?_)
    refine wpAny_bind (m := callSpecialIfBound? (.ref a) "__eq__" [u]) (PySem.W.ifBound_K I.kIn J hs hf (wpAny_mono back (fun r s2 hv => ?_) fun _ _ z => z))
    obtain ⟨b, rfl, e⟩ := hv
    exact wpAny_bind (wpAny_pure (wpAny_pure ⟨!b, rfl, e⟩))
  have sub : PySem.W.Looks (model X.prog X.w) s.heap (isInstance (.ref a) (.type "object")) true := J.type.andThen (PySem.W.looks_mroIn I.kIn hm)
  have ran : wpAny (model X.prog X.w) X.A (call (.builtin "object.__ne__") [.ref a, u]) (fun r s2 => ∃ b : Bool, r = .bool b ∧ EP X pins σ Q (.bool b) s2) X.xe s := by
    refine wpAny_call (codeAny_call_builtin PySem.F.slot_object_ne.plain PySem.F.entry_object_ne (PySem.W.check_slot (i := "object.__ne__") (owner := "object") (n := "__ne__") (by decide +kernel) (by decide +kernel) sub (PySem.F.args_object_ne_2 _ _) ?_))
    refine wpAny_mono body (fun fin s2 hv => ?_) fun _ _ z => z
    obtain ⟨b, rfl, e⟩ := hv
    exact ⟨b, rfl, e⟩
  have ask : wpAny (model X.prog X.w) X.A (callSpecialIfBound? (.ref a) "__ne__" [u]) (fun r s2 => ∃ b : Bool, r = some (.bool b) ∧ EP X pins σ Q (.bool b) s2) X.xe s := by
    simp only [callSpecialIfBound?, bindSpecialIfBound?]
    refine wpAny_holding (wpAny_bind (wpAny_bind (wpAny_bind (J.type.here ((PySem.W.looks_findIn I.kIn hn).here ?_)))))
    refine wpAny_bind (wpAny_askSetting (wpAny_ite ?_))
    have fin : wpAny (model X.prog X.w) X.A (call (.builtin "object.__ne__") ([.ref a] ++ [u]) >>= fun v => pure (some v)) (fun r s2 => ∃ b : Bool, r = some (.bool b) ∧ EP X pins σ Q (.bool b) s2) X.xe s :=
      wpAny_bind (wpAny_mono ran (fun v s2 hv => by
        obtain ⟨b, rfl, e⟩ := hv
        exact wpAny_pure ⟨b, rfl, e⟩) fun _ _ z => z)
    split
    · exact wpAny_bind ((PySem.W.Looks.of_pure (PySem.F.slot_object_ne.bind _)).here (wpAny_pure (by exact fin)))
    · exact wpAny_tryCatch (wpAny_bind ((PySem.W.Looks.of_pure (PySem.F.slot_object_ne.bind _)).here (wpAny_pure (by exact fin))))
  have one : wpAny (model X.prog X.w) X.A (tryCompare (.ref a) (cmpInfo .NotEq).2.1 u) (fun r s2 => ∃ v, r = some v ∧ EP X pins σ Q v s2) X.xe s := by
    unfold tryCompare
    refine wpAny_bind (wpAny_mono ask (fun r s2 hv => ?_) fun _ _ z => z)
    obtain ⟨b, rfl, e⟩ := hv
    exact wpAny_pure ⟨_, rfl, e⟩
  refine PySem.W.cmp_ofNotEq ?_
  unfold richCompare
  simp only [oneThing_ref]
  refine wpAny_holding (wpAny_bind (wpAny_cRoomFor (Nat.lt_of_lt_of_le hr.in1.units0 (Nat.le_refl _) |> fun z => Nat.lt_of_le_of_lt (Nat.le_succ _) z) ?_))
  refine wpAny_bind (J.type.here (wpAny_bind ((Z.ty _ _ I.kIn hp).here ?_)))
  have last : wpAny (model X.prog X.w) X.A (tryCompare (.ref a) (cmpInfo .NotEq).2.1 u) (fun r s2 => ∃ v, r = some v ∧ EP X pins σ Q v s2) X.xe s := one
  split
  · rename_i qn
    have e : PySem.W.subIn X.K t (.ref C) = some false := by
      rcases Bool.or_eq_true_iff.mp nf with e | e
      · rw [beq_iff_eq.mp e] at qn
        simp at qn
      · exact beq_iff_eq.mp e
    refine wpAny_bind ((PySem.W.looks_subIn I.kIn e).here ?_)
    simp only [Bool.false_eq_true, if_false]
    refine wpAny_bind (wpAny_mono last (fun r s2 z => ?_) fun _ _ e => e)
    obtain ⟨v, rfl, hq⟩ := z
    exact wpAny_pure hq
  · refine wpAny_bind (wpAny_pure ?_)
    simp only [Bool.false_eq_true, if_false]
    refine wpAny_bind (wpAny_mono last (fun r s2 z => ?_) fun _ _ e => e)
    obtain ⟨v, rfl, hq⟩ := z
    exact wpAny_pure hq
/-- what the class says of +, - with an int on the right -/
structure Arith (K : PySem.W.Frag) (C : Addr) (op : Operator) (f : Addr) : Prop where
  first : PySem.W.selfFirst K C = true
  own : PySem.W.findIn K (.ref C) (PySem.dunder op.info.2) = some (some (.ref f))
  fn : PySem.W.isFn K (.ref f) = true
  back : ∃ rc, PySem.W.findIn K (.ref C) (dunderR op.info.2) = some rc ∧ (rc = none ∨ ∃ g : Addr, rc = some (.ref g))
  io : ∃ fo, PySem.W.findIn K (.type "int") (PySem.dunder op.info.2) = some fo
  ir : ∃ ro, PySem.W.findIn K (.type "int") (dunderR op.info.2) = some ro
  sub : PySem.W.subIn K (.type "int") (.ref C) = some false
theorem op_binO {op : Operator} (F : FnOk X.prog X.w X.K X.mg X.base CX0 k f fd ps sp) (hr : Room k X.A) (hb : Binds X.K fd ps []) (T : Arith X.K C op f) :
    OpR X (binaryOp op) (fun x y H Q => ∃ a dx fs i, x = .ref a ∧ y = .int i ∧ H a = some (.ins C dx fs) ∧ sp [.ref a, y] H (fun v H2 => (∃ p, v = .ref p) ∧ Q v H2) E0) := by
  intro pins s σ H x y v u Q I rx ry h
  obtain ⟨a, dx, fs, i, rfl, rfl, ha, q⟩ := h
  obtain rfl : v = Value.ref a := rx
  obtain ⟨t, rfl⟩ := ry
  obtain ⟨mA, O, _⟩ := ins_get I.hok ha
  obtain ⟨od, J, _⟩ := O.look
  obtain ⟨m, hF⟩ := I.fr
  obtain ⟨rc, b1, b2⟩ := T.back
  obtain ⟨fo, c1⟩ := T.io
  obtain ⟨ro, c2⟩ := T.ir
  refine PySem.W.ksp_binT (T := "int") hF I.ok.mod.kin J rfl T.first T.own T.fn b1 b2 c1 c2 T.sub (wpAny_mono (run_at (E := E0) (vs := [.ref a, .int i]) (us := [.ref a, .int i t]) F hr I.env0 hb (fun _ _ z => z.elim) I (.cons rfl (.cons ⟨t, rfl⟩ .nil)) q) (fun r s2 hv => ?_) fun _ _ z => z)
  obtain ⟨v, H2, I2, rv, ⟨p, rfl⟩, q2⟩ := hv
  obtain rfl : r = Value.ref p := rv
  exact ⟨.ref p, H2, I2, rfl, q2⟩
end
end Mz
set_option Elab.async false
set_option linter.all false
set_option maxRecDepth 100000
set_option maxHeartbeats 4000000
/-! a small int in a field of an f-string with its sign written -/
namespace Mz
open PySem PySem.Spec PyProof.Rows L2 PySem.W
def signS (i : Int) : Str := if i = 1 then "+1" else if i = 2 then "+2" else if i = 3 then "+3" else if i = -1 then "-1" else if i = -2 then "-2" else "-3"
theorem small_six {i : Int} (h0 : -3 ≤ i) (h1 : i ≤ 3) (h : i ≠ 0) : i = 1 ∨ i = 2 ∨ i = 3 ∨ i = -1 ∨ i = -2 ∨ i = -3 := by omega
theorem fmt_plus {prog : Program} {w : World} {A : Around} {E : Value → Shared → Prop} {s : Shared} {i : Int} {t : Tok} {Q : Value → Shared → Prop} (h0 : -3 ≤ i) (h1 : i ≤ 3) (hz : i ≠ 0) (h : ∀ u k, Q (.str (signS i) u) { s with toks := k }) :
    wpAny (model prog w) A (formatField (.int i t) ("+d" : Str)) Q E s := by
  rcases small_six h0 h1 hz with rfl | rfl | rfl | rfl | rfl | rfl
  · exact KXf.field_int (y := "+1") rfl (by decide +kernel) (by decide +kernel) (by kxf_run_i) h
  · exact KXf.field_int (y := "+2") rfl (by decide +kernel) (by decide +kernel) (by kxf_run_i) h
  · exact KXf.field_int (y := "+3") rfl (by decide +kernel) (by decide +kernel) (by kxf_run_i) h
  · exact KXf.field_int (y := "-1") rfl (by decide +kernel) (by decide +kernel) (by kxf_run_i) h
  · exact KXf.field_int (y := "-2") rfl (by decide +kernel) (by decide +kernel) (by kxf_run_i) h
  · exact KXf.field_int (y := "-3") rfl (by decide +kernel) (by decide +kernel) (by kxf_run_i) h
section
variable {X : Cx}
theorem pe_fmtP {e : Expr} {te : TE} {j : Nat} {p1 p2 pos : Pos} (he : PE X e te) : PE X (.FormattedValue e (-1) (some (.JoinedStr [.Constant (.str "+d") j p1] p2)) pos)
    (fun σ H Q => te σ H fun x H1 => ∃ i : Int, x = .int i ∧ -3 ≤ i ∧ i ≤ 3 ∧ i ≠ 0 ∧ Q (.str (signS i)) H1) := by
  refine ⟨fun pins s σ H Q I h => ?_⟩
  refine wpAny_FormattedValue_spec (thn (he.run pins s σ H _ I h) fun v s1 hv => ?_)
  obtain ⟨x, H1, I1, r1, i, rfl, h0, h1, hz, q⟩ := hv
  obtain ⟨t, rfl⟩ := r1
  have sp : PE X (.JoinedStr [.Constant (.str "+d") j p1] p2) (tC (.str "+d")) := pe_joined1 pe_str
  refine wpAny_mono (sp.run pins s1 σ H1 (fun y H2 => y = .str "+d" ∧ Q (.str (signS i)) H2) I1 ⟨rfl, q⟩) (fun u s2 hv => ?_) fun _ _ z => z
  obtain ⟨y, H2, I2, r2, rfl, q2⟩ := hv
  obtain ⟨u2, rfl⟩ := r2
  exact ⟨_, u2, rfl, fmt_plus h0 h1 hz fun u k => ⟨.str (signS i), H2, I2.tok _, ⟨u, rfl⟩, q2⟩⟩
end
end Mz
set_option Elab.async false
set_option linter.all false
set_option maxRecDepth 100000
set_option maxHeartbeats 4000000
/-! a class held by a parameter, called; a classmethod called by keywords alone -/
namespace Mz
open PySem PySem.Spec PyProof.Rows L2
section
variable {X : Cx} {CX : CXT} {k n i : Nat} {f C : Addr} {fd : FuncData} {ps ks : List Str} {sp : Sp} {E : XK} {x : Str} {p pos : Pos} {e : Expr} {es : List Expr} {kws : List Keyword} {t tk : TA} {g : List Value → List Value → List Value} {gV : List V → List V → List V}
/-- cls(k = v, ..), cls a local name that holds the class at C -/
theorem pe_makeL0 (hN : X.N[i]? = some x) (hv : Vis X.env.scope x) (M : Mk X.K C f) (F : FnOk X.prog X.w X.K X.mg X.base CX k f fd ps sp) (hr : Room (k + 1) X.A) (hb : KBn X.K fd ps 1 ks g gV) (hx : Passes CX X E) (hkw : PK X kws tk)
    (hall : (backToKw pos (keywordEach kws X.env)).all (·.1.isSome) = true := by rfl) (hks : (backToKw pos (keywordEach kws X.env)).filterMap (·.1) = ks := by rfl) (hdb : (x == ("__debug__" : Str)) = false := by decide) (hcd : (x == ("__classdict__" : Str)) = false := by decide)
    (hpl : ((backTo pos (starEach [] X.env)).any (·.1) || (backToKw pos (keywordEach kws X.env)).any (·.1.isNone)) = false := by rfl) :
    PE X (.Call (.Name x p) [] kws pos) (fun σ H Q => σ[i]? = some (some (.ref C)) ∧ tMakeK C 0 ks.length sp gV E tNil tk σ H Q) := by
  refine ⟨fun pins s σ H Q I h => ?_⟩
  obtain ⟨hσ, h⟩ := h
  have ld : PE X (.Name x p) (tVar i) := pe_var hN hv hdb hcd
  refine wpAny_Call_Name_kw (wpAny_mono (ld.run pins s σ H (fun v H2 => v = .ref C ∧ tMakeK C 0 ks.length sp gV E tNil tk σ H2 Q) I ⟨_, hσ, rfl, h⟩) (fun u s1 hv => ?_) fun _ _ z => z)
  obtain ⟨v, H1, I1, rv, rfl, q⟩ := hv
  obtain rfl : u = Value.ref C := rv
  refine PySem.W.callWith_KW0 (h₀ := X.base) I.ok.mod.kin M.kp hall (thn (hkw.run pos pins s1 σ H1 _ I1 q) fun ws s2 hw => ?_) hpl
  obtain ⟨zs, H2, I2, rz, l1, l2, q2⟩ := hw
  rw [hks]
  exact ⟨I2.kIn, run_makeK (us := []) (vs := []) M F hr hb hx I2 .nil rz rfl l2 q2⟩
/-- cls(e, .., k = v, ..) -/
theorem pe_makeL (hN : X.N[i]? = some x) (hv : Vis X.env.scope x) (M : Mk X.K C f) (F : FnOk X.prog X.w X.K X.mg X.base CX k f fd ps sp) (hr : Room (k + 1) X.A) (hb : KBn X.K fd ps (n + 1) ks g gV) (hx : Passes CX X E) (ha : PA X (e :: es) t) (hkw : PK X kws tk)
    (hall : (backToKw pos (keywordEach kws X.env)).all (·.1.isSome) = true := by rfl) (hks : (backToKw pos (keywordEach kws X.env)).filterMap (·.1) = ks := by rfl) (hdb : (x == ("__debug__" : Str)) = false := by decide) (hcd : (x == ("__classdict__" : Str)) = false := by decide)
    (he : starEach (e :: es) X.env = (false, eval e X.env) :: starEach es X.env := by rfl) (hpl : ((backTo pos (starEach (e :: es) X.env)).any (·.1) || (backToKw pos (keywordEach kws X.env)).any (·.1.isNone)) = false := by rfl) :
    PE X (.Call (.Name x p) (e :: es) kws pos) (fun σ H Q => σ[i]? = some (some (.ref C)) ∧ tMakeK C n ks.length sp gV E t tk σ H Q) := by
  refine ⟨fun pins s σ H Q I h => ?_⟩
  obtain ⟨hσ, h⟩ := h
  have ld : PE X (.Name x p) (tVar i) := pe_var hN hv hdb hcd
  refine wpAny_Call_Name_kw (wpAny_mono (ld.run pins s σ H (fun v H2 => v = .ref C ∧ tMakeK C n ks.length sp gV E t tk σ H2 Q) I ⟨_, hσ, rfl, h⟩) (fun u s1 hv => ?_) fun _ _ z => z)
  obtain ⟨v, H1, I1, rv, rfl, q⟩ := hv
  obtain rfl : u = Value.ref C := rv
  refine PySem.W.callWith_KW (h₀ := X.base) I.ok.mod.kin M.kp hall (thn (ha.run pos pins s1 σ H1 _ I1 q) fun us s2 hw => ?_) hpl he
  obtain ⟨vs, H2, I2, r2, q2⟩ := hw
  refine thn (hkw.run pos pins s2 σ H2 _ I2 q2) fun ws s3 hw => ?_
  obtain ⟨zs, H3, I3, rz, l1, l2, q3⟩ := hw
  rw [hks]
  exact ⟨I3.kIn, run_makeK M F hr hb hx I3 r2 rz l1 l2 q3⟩
/-- C.m(k = v, ..), m a classmethod, keywords alone -/
theorem pe_cmethK0 {o : Expr} {ta : TE} {m : Str} {q g0 : Addr} {mc : Value} {apos : Pos} {pl : Sem Bool} {ES : L2.St → XK} (ho : PE X o ta) (r : ClX.CRead X.K C mc) (c : ClX.CMet X.K C mc m q g0) (F : FnOk X.prog X.w X.K X.mg X.base CX k g0 fd ps sp) (hr : Room k X.A) (hb : KBn X.K fd ps 1 ks g gV) (hx : ∀ σ, PassesAt CX X σ (ES σ)) (hkw : PK X kws tk)
    (hall : (backToKw pos (keywordEach kws X.env)).all (·.1.isSome) = true := by rfl) (hks : (backToKw pos (keywordEach kws X.env)).filterMap (·.1) = ks := by rfl)
    (hpl : ((backTo pos (starEach [] X.env)).any (·.1) || (backToKw pos (keywordEach kws X.env)).any (·.1.isNone)) = false := by rfl)
    (ht : eval (.Call (.Attribute o m apos) [] kws pos) X.env = (do
      let ov ← eval o X.env
      standAt apos.atName
      let (f, first) ← holding [ov] (getMethod ov m pl)
      callWith pos f first (backTo pos (starEach [] X.env)) (backToKw pos (keywordEach kws X.env))) := by rfl) :
    PE X (.Call (.Attribute o m apos) [] kws pos) (fun σ H Q => ta σ H fun x H1 => x = .ref C ∧ tk σ H1 fun zs H2 => zs.length = ks.length ∧ sp (gV [.ref C] zs) H2 Q (ES σ)) := by
  refine ⟨fun pins s σ H Q I h => PySem.W.methodCall_KW (pl := pl) (thn (ho.run pins s σ H _ I h) fun u s1 hv => ?_) ht⟩
  obtain ⟨x, H1, I1, rx, rfl, q1⟩ := hv
  obtain rfl : u = Value.ref C := rx
  refine ClX.getmethcm_ok I1 r c fun s2 I2 => ?_
  refine PySem.W.callWith_of (P := PySem.W.MethP X.K s1.heap.objs.size g0 (.ref C)) hpl (PySem.W.keeps_M c.fi) (evalArgs_kw2_nil hall (thn (hkw.run pos _ s2 σ H1 _ I2 q1) fun ws s3 hw => ?_))
  obtain ⟨zs, H2, I3, rz, l2, q2⟩ := hw
  refine ⟨⟨ClX.pin_at I3, I3.kIn⟩, ?_⟩
  rw [hks]
  have r1 : Vals [V.ref C] [Value.ref C] := .cons rfl .nil
  have z : wpAny (model X.prog X.w) X.A (call (.ref s1.heap.objs.size) [] (ks.zip ws)) (EP X ((s1.heap.objs.size, PySem.W.methodObj (.ref g0) (.ref C)) :: pins) σ Q) X.xe s3 := by
    refine wpAny_call (PySem.W.method_call (ClX.pin_at I3) (codeAny_mono (F.run X.A X.stack s3 H2 ⟨[.ref C], ks.zip ws⟩ (g [.ref C] ws) (gV [.ref C] zs) Q (ES σ) hr I3.env0 (hb.to s3 [.ref C] ws I3.kIn rfl (rz.length.symm.trans l2)) (hb.rel r1 rz) q2) fun r s4 hq => ?_))
    cases r with
    | error e => exact hx σ _ H2 s3 e s4 I3 hq
    | ok fl =>
      cases fl with
      | ret u => exact I3.after hq
      | next => exact hq.elim
      | brk => exact hq.elim
      | cont => exact hq.elim
  exact thn z fun _ _ y => ClX.unpinE y
/-- C.m(e, ..), m a classmethod; what is raised is wished for at the caller's slots -/
theorem pe_cmethS {o : Expr} {ta : TE} {m : Str} {q g0 : Addr} {mc : Value} {apos : Pos} {pl : Sem Bool} {ES : L2.St → XK} (ho : PE X o ta) (r : ClX.CRead X.K C mc) (c : ClX.CMet X.K C mc m q g0) (F : FnOk X.prog X.w X.K X.mg X.base CX k g0 fd ps sp) (hr : Room k X.A) (hb : Binds X.K fd ps [])
    (hx : ∀ σ, PassesAt CX X σ (ES σ)) (ha : PA X (e :: es) t) (hst : starEach (e :: es) X.env = (false, eval e X.env) :: starEach es X.env := by rfl) (hpl : (backTo pos (starEach es X.env)).any (·.1) = false := by rfl)
    (ht : eval (.Call (.Attribute o m apos) (e :: es) [] pos) X.env = (do
      let ov ← eval o X.env
      standAt apos.atName
      let (f, first) ← holding [ov] (getMethod ov m pl)
      callWith pos f first (backTo pos (starEach (e :: es) X.env)) (backToKw pos (keywordEach [] X.env))) := by rfl) :
    PE X (.Call (.Attribute o m apos) (e :: es) [] pos) (fun σ H Q => ta σ H fun x H1 => x = .ref C ∧ t σ H1 fun vs H2 => sp (.ref C :: vs) H2 Q (ES σ)) := by
  refine ⟨fun pins s σ H Q I h => PySem.W.methodCall_KW (pl := pl) (thn (ho.run pins s σ H _ I h) fun u s1 hv => ?_) ht⟩
  obtain ⟨x, H1, I1, rx, rfl, q1⟩ := hv
  obtain rfl : u = Value.ref C := rx
  refine ClX.getmethcm_ok I1 r c fun s2 I2 => ?_
  refine ClX.callwith_cm I2 (ClX.base_none I1 (Nat.le_refl _)) c.fi (thn (ha.run pos _ s2 σ H1 _ I2 q1) fun us s3 hw => ?_) hst hpl
  obtain ⟨vs, H2, I3, rv, q2⟩ := hw
  refine ⟨⟨ClX.pin_at I3, I3.kIn⟩, ?_⟩
  have r1 : Vals (V.ref C :: vs) (Value.ref C :: us) := .cons rfl rv
  have hl : (Value.ref C :: us ++ []).length = ps.length := by
    rw [List.append_nil]
    exact r1.length.symm.trans (F.len _ _ _ _ q2)
  have hbi := hb s3 (Value.ref C :: us) I3.kIn hl
  rw [List.append_nil] at hbi
  have z : wpAny (model X.prog X.w) X.A (call (.ref s1.heap.objs.size) us) (EP X ((s1.heap.objs.size, PySem.W.methodObj (.ref g0) (.ref C)) :: pins) σ Q) X.xe s3 := by
    refine wpAny_call (PySem.W.method_call (ClX.pin_at I3) (codeAny_mono (F.run X.A X.stack s3 H2 ⟨Value.ref C :: us, []⟩ (Value.ref C :: us) (V.ref C :: vs) Q (ES σ) hr I3.env0 hbi r1 q2) fun r s4 hq => ?_))
    cases r with
    | error e => exact hx σ _ H2 s3 e s4 I3 hq
    | ok fl =>
      cases fl with
      | ret u => exact I3.after hq
      | next => exact hq.elim
      | brk => exact hq.elim
      | cont => exact hq.elim
  exact thn z fun _ _ y => ClX.unpinE y
end
end Mz
set_option Elab.async false
set_option linter.all false
set_option maxRecDepth 100000
set_option maxHeartbeats 4000000
/-! repr of lists that hold instances with an own __repr__ -/
namespace Mz
open PySem PySem.Spec PyProof.Rows L2
/-- v is shown as t, under the containers as -/
def ShV (X : Cx) (k : Nat) (as : List Addr) (Pre : Hp → Prop) (v : V) (t : Str) : Prop :=
  ∀ (base : Nat), base + t.length ≤ sizeLine → ∀ (A : Around) (g : List Code) (pins : List (Addr × Obj)) (σ : L2.St) (H : Hp) (s : Shared) (u : Value) (Q : Str → Shared → Prop), A.frames = some X.stack → A.guards = some g → (∀ b ∈ as, Clear g b) → Room k A →
    Inv X pins σ H s → Pre H → RelV v u → (∀ H' s', Inv X pins σ H' s' → Same H H' → Q t s') → wpAny (model X.prog X.w) A (pyReprUnder base u) Q X.xe s
section
variable {X : Cx} {k : Nat} {as : List Addr} {Pre : Hp → Prop}
theorem shv_is {v : V} {t : Str} (h : ∀ u, RelV v u → ReprIs X.prog X.w u t) : ShV X k as Pre v t :=
  fun base hb A g pins σ H s u Q _ _ _ _ I _ r q => (h u r) base hb A X.xe s Q fun tk => q H _ (I.tok _) (Same.refl H)
theorem shv_str {z : Str} (h : (reprText z).length ≤ sizeLine) : ShV X k as Pre (.str z) (reprText z) := shv_is fun u r => by
  obtain ⟨t, rfl⟩ := r
  exact ReprIs.str z t h
theorem shv_int {i : Int} (h : i.natAbs.log2 < 1920) : ShV X k as Pre (.int i) (Str.ofString (toString i)) := shv_is fun u r => by
  obtain ⟨t, rfl⟩ := r
  exact ReprIs.int t h
theorem ifBoundBy_K {M : Model} {A : Around} {E : Value → Shared → Prop} {s : Shared} {K : PySem.W.Frag} {x C f : Addr} {ox : Obj} {od : Option Obj} {name : Str} {last : Value → List Value → Sem Value} {Q : Option Value → Shared → Prop} (KX : K.In s.heap) (I : PySem.W.InstAt s.heap x ox C od)
    (hs : PySem.W.findIn K (.ref C) name = some (some (.ref f))) (hf : PySem.W.isFn K (.ref f) = true)
    (h : wpAny M A (last (.ref f) [.ref x]) (fun v => Q (some v)) E s) : wpAny M A (callSpecialIfBoundBy? last (.ref x) name) Q E s := by
  simp only [callSpecialIfBoundBy?, bindSpecialIfBound?]
  refine wpAny_holding (wpAny_bind (wpAny_bind (wpAny_bind (I.type.here ((PySem.W.looks_findIn KX hs).here ?_)))))
  refine wpAny_bind (wpAny_askSetting (wpAny_ite ?_))
  have fin : wpAny M A (last (.ref f) [.ref x] >>= fun v => pure (some v)) Q E s := wpAny_bind (wpAny_mono h (fun v s' h' => wpAny_pure h') fun _ _ h' => h')
  split
  · exact wpAny_bind ((PySem.W.bind_fn KX _ (beq_iff_eq.mp hf)).here (wpAny_pure (by exact fin)))
  · exact wpAny_tryCatch (wpAny_bind ((PySem.W.bind_fn KX _ (beq_iff_eq.mp hf)).here (wpAny_pure (by exact fin))))
theorem env_at {pins : List (Addr × Obj)} {σ : L2.St} {H : Hp} {s : Shared} {A : Around} (I : Inv X pins σ H s) (h : A.frames = some X.stack) : Env0 X.prog X.w X.K X.mg X.base A X.stack s H := by
  have e := I.env0
  exact ⟨h, e.mod, e.bs, e.bsz, e.funs, e.frf, e.hok, e.bare⟩
theorem shv_own {j : Nat} {f C p : Addr} {fd : FuncData} {sp : Sp} {t : Str} (F : FnOk X.prog X.w X.K X.mg X.base CX0 k f fd ["self"] sp) (hb : Binds X.K fd ["self"] []) (hs : PySem.W.findIn X.K (.ref C) "__repr__" = some (some (.ref f))) (hf : PySem.W.isFn X.K (.ref f) = true)
    (hp : ∀ H, Pre H → ∃ dx fs, H p = some (.ins C dx fs) ∧ sp [.ref p] H (fun v H2 => v = .str t ∧ Same H H2) E0) : ShV X k as Pre (.ref p) t := by
  intro base hbs A g pins σ H s u Q hfr hg hcl hr I pre r q
  obtain rfl : u = Value.ref p := r
  obtain ⟨dx, fs, ha, hsp⟩ := hp H pre
  obtain ⟨mA, O, _⟩ := ins_get I.hok ha
  obtain ⟨od, J, _⟩ := O.look
  refine wpAny_pyReprUnder_ref (by omega) ?_
  unfold pyReprObjUnder pyReprObjBy
  refine wpAny_bind (wpAny_cRoomFor hr.units0 ?_)
  refine wpAny_bind (wpAny_bind (J.type.here ((PySem.W.looks_findIn I.kIn hs).here ?_)))
  refine wpAny_bind (ifBoundBy_K I.kIn J hs hf ?_)
  have run := run_at (Q := fun v H2 => v = .str t ∧ Same H H2) (E := E0) (E2 := X.xe) (vs := [.ref p]) (us := [.ref p]) F hr (env_at I hfr) hb (fun _ _ z => z.elim) I (.cons rfl .nil) hsp
  refine wpAny_mono run (fun v s2 hv => ?_) fun _ _ z => z
  obtain ⟨w, H2, I2, rv, rfl, sm⟩ := hv
  obtain ⟨tk, rfl⟩ := rv
  exact wpAny_bind (wpAny_isInstance (T := "str") (b := true) rfl isSubtype_str_str (wpAny_pure ⟨_, _, rfl, q _ _ I2 sm⟩))
/-- texts, as a tracked list has them -/
theorem strs_done : ∀ {l : List Str} {us : List Value}, Vals (l.map V.str) us → ∃ done : List (Str × Tok), us = strValues done ∧ done.map (·.1) = l
  | [], _, .nil => ⟨[], rfl, rfl⟩
  | z :: l, _, .cons ⟨t, e⟩ r => by
    obtain ⟨done, rfl, e2⟩ := strs_done r
    exact ⟨(z, t) :: done, by rw [e]; rfl, by rw [List.map_cons, e2]⟩
theorem frames_list_loop {A : Around} {l : List Env} {args : Args} (h : A.frames = some l) : (A.under (.builtin "list.__repr__.loop" args)).frames = some l := by
  first | exact h | (simpa [Around.under, Code.envs, Code.isFrame, pushEnvs] using h)
theorem loop_depth {A : Around} {args : Args} : (A.under (.builtin "list.__repr__.loop" args)).depth ≤ A.depth + 1 := by
  first | exact Nat.le_refl _ | (simp [Around.under, Code.weight, Code.isCreation, Code.isGuard, Code.isCaller, Code.frames, Code.isFrame, guardIds])
theorem _root_.L2.Room.list_loop {A : Around} {k : Nat} (r : Room (k + 1) A) (args : Args) : Room k (A.under (.builtin "list.__repr__.loop" args)) :=
  ⟨r.hd, by have := r.dp; have := loop_depth (A := A) (args := args); omega, by have := r.un; rw [units_under_list_loop]; omega⟩
/-- the loop of list.__repr__ -/
theorem loop_own {A : Around} {g : List Code} {pins : List (Addr × Obj)} {σ : L2.St} {a P : Addr} {vs : List V} {ts : List Str} {base : Nat} {R : Result → Shared → Prop} (hfr : A.frames = some X.stack) (hg : A.guards = some g) (hcl : ∀ b ∈ as, Clear g b) (hr : Room (k + 1) A) (hna : a ∉ as)
    (mono : ∀ H H', Same H H' → Pre H → Pre H') (hne : a ≠ P) (hlen : ts.length = vs.length) (hT : ∀ (i : Nat) (v : V), vs[i]? = some v → ∃ t, ts[i]? = some t ∧ ShV X k as Pre v t) (hsz : base + (listText ts).length ≤ sizeLine) (hE : ∀ e s', X.xe e s' → R (.error e) s') :
    ∀ (n i : Nat) (H : Hp) (s : Shared), vs.length - i = n → i ≤ vs.length → Inv X pins σ H s → (∀ H', (∀ p o, p ≠ P → H p = some o → H' p = some o) → Pre H') → H a = some (.lst vs) → H P = some (.lst ((ts.take i).map V.str)) →
    (∀ H' s' u, Inv X pins σ H' s' → (∀ p o, p ≠ P → H p = some o → H' p = some o) → R (.ok (.ret (.str (listText ts) u))) s') →
    codeAny (model X.prog X.w) A (.builtin "list.__repr__.loop" ⟨[.ref a, rawInt i, .ref P, rawInt ((base + piled (ts.take i) : Nat) : Int)], []⟩) R s := by
  have hL := textFrom_len ts 0 "["
  have hX : (listText ts).length = (textFrom 0 "[" ts).length + 1 := by
    show (textFrom 0 "[" ts ++ "]").length = _
    rw [strLen_append]; rfl
  have hsz1 : vs.length ≤ sizeLine := by
    have h1 := hL.1
    rw [if_neg (Nat.lt_irrefl 0)] at h1
    omega
  have hsz2 : ∀ t ∈ ts, t.length ≤ sizeLine := fun t ht => by
    have h2 := hL.2.1 t ht
    omega
  have hsz3 : (listText ts).length ≤ sizeLine := by omega
  have hp3 := piled_le_listText ts
  intro n
  induction n with
  | zero =>
    intro i H s hk hi I pre hA hP q
    obtain ⟨_, its, na, rv, l1, ha⟩ := I.lstM hA
    obtain ⟨_, its2, nc, rv2, l2, hP2⟩ := I.lstM hP
    obtain ⟨done, rfl, hdone⟩ := strs_done rv2
    have hin : i = vs.length := by omega
    refine codeAny_builtin PySem.F.entry_list_repr_loop ?_
    show wpAny _ _ (Builtin.«list.__repr__.loop» ⟨[.ref a, .int i 0, .ref P, .int ((base + piled (ts.take i) : Nat) : Int) 0], []⟩) _ _ s
    rw [repr_loop_tree]
    refine wpAny_bind (wpAny_listItems ha rfl ?_)
    have hnone : its.toArray[(i : Int).toNat]? = none := by simp [hin, l1]
    simp only [hnone]
    unfold reprEnd
    refine wpAny_bind (wpAny_listItems hP2 rfl ?_)
    rw [show (strValues done).toArray.toList = strValues done from rfl, repr_fold]
    refine wpAny_bind (wpAny_pure ?_)
    have hall : done.map (·.1) = ts := by rw [hdone, hin, ← hlen, List.take_length]
    rw [hall]
    refine wpAny_bind (wpAny_mkStr (wpAny_pure ?_) hsz3)
    exact q H _ _ (I.tok _) fun _ _ _ e => e
  | succ n ih =>
    intro i H s hk hi I pre hA hP q
    obtain ⟨_, its, na, rv, l1, ha⟩ := I.lstM hA
    have hlt : i < vs.length := by omega
    obtain ⟨t, ht, hrep⟩ := hT i vs[i] (List.getElem?_eq_getElem hlt)
    obtain ⟨u, hu, rel⟩ := rv.get (List.getElem?_eq_getElem hlt)
    have hp1 := piled_take_succ ht
    have hp2 := piled_take_le ts (i + 1)
    refine codeAny_builtin PySem.F.entry_list_repr_loop ?_
    show wpAny _ _ (Builtin.«list.__repr__.loop» ⟨[.ref a, .int i 0, .ref P, .int ((base + piled (ts.take i) : Nat) : Int) 0], []⟩) _ _ s
    rw [repr_loop_tree]
    refine wpAny_bind (wpAny_listItems ha rfl ?_)
    have hsome : its.toArray[(i : Int).toNat]? = some u := by simpa using hu
    simp only [hsome]
    rw [Int.toNat_natCast]
    have hpre : Pre H := pre H fun _ _ _ e => e
    refine wpAny_bind (wpAny_holding (wpAny_mono (hrep (base + piled (ts.take i) + 1) (by omega) _ _ pins σ H s u (fun t' s' => t' = t ∧ ∃ H', Inv X pins σ H' s' ∧ Same H H') (frames_list_loop hfr) (guards_under_guard (isGuard_list_loop _) hg) (fun b hb => (hcl b hb).cons (a := a) fun e => hna (e ▸ hb)) (hr.list_loop _) I hpre rel fun H' s' I' sm => ⟨rfl, H', I', sm⟩) (fun t' s' hh => ?_) fun e s' z => hE e s' z))
    obtain ⟨rfl, H', I', sm⟩ := hh
    refine wpAny_bind (wpAny_mkStr ?_ (hsz2 t' (List.mem_of_getElem? ht)))
    refine wpAny_bind ?_
    show wpAny _ _ (updateSeq P _) _ _ _
    have hP' := sm _ _ hP
    obtain ⟨_, its2, nc, rv2, l2, hP2⟩ := I'.lstM hP'
    have take_len : (ts.take i).length ≤ i := by rw [List.length_take]; omega
    have asz : its2.toArray.size ≤ sizeLine := by
      rw [List.size_toArray, ← l2, List.length_map]
      omega
    refine wpAny_updateSeq hP2 rfl (wpAny_pure ⟨PySem.F.quiet_list_repr_loop _, ?_⟩) asz
    have e1 : ((i : Int) + 1) = ((i + 1 : Nat) : Int) := by omega
    have e2 : base + piled (ts.take i) + (t'.length + 2) = base + piled (ts.take (i + 1)) := by omega
    rw [e1, e2]
    have e3 : (ts.take i).map V.str ++ [V.str t'] = (ts.take (i + 1)).map V.str := by
      rw [List.take_add_one, ht, List.map_append]
      rfl
    have I2 : Inv X pins σ (upd H' P (.lst ((ts.take (i + 1)).map V.str))) _ := I'.lset (its' := its2 ++ [.str t' s'.toks]) (f := fun xs => xs.push (.str t' s'.toks)) (t' := s'.toks + 1) hP' hP2 (by simp) (by rw [← e3]; exact rv2.append (.cons ⟨_, rfl⟩ .nil)) (by rw [List.length_map, List.length_take]; omega)
    have keepP : ∀ p o, p ≠ P → H p = some o → (upd H' P (.lst ((ts.take (i + 1)).map V.str))) p = some o := fun p o np e => by
      rw [upd_ne np]
      exact sm p o e
    refine ih (i + 1) _ _ (by omega) hlt I2 (fun H2 k2 => pre H2 fun p o np e => k2 p o np (keepP p o np e)) (keepP a _ hne hA) upd_same fun H2 s2 u2 I3 k3 => ?_
    exact q H2 s2 u2 I3 fun p o np e => k3 p o np (keepP p o np e)
/-- repr of a list some of whose items are instances -/
def rReprO (X : Cx) (k : Nat) : List V → Hp → VK → Prop := fun xs H Q => ∃ (a : Addr) (v0 : V) (vr : List V) (ts : List Str) (Pre : Hp → Prop), xs = [.ref a] ∧ H a = some (.lst (v0 :: vr)) ∧ (∀ H H', Same H H' → Pre H → Pre H') ∧ Pre H ∧ ts.length = (v0 :: vr).length ∧
  (∀ (i : Nat) (v : V), (v0 :: vr)[i]? = some v → ∃ t, ts[i]? = some t ∧ ShV X k [] Pre v t) ∧ (listText ts).length ≤ sizeLine ∧ ∀ H', Same H H' → Q (.str (listText ts)) H'
theorem call_reprO (g0 : X.A.guards = some []) (hr : Room (k + 2) X.A) : CallR X (.builtin "repr") (rReprO X k) := by
  intro pins s σ H xs us Q I r h
  obtain ⟨a, v0, vr, ts, Pre, rfl, hA, mono, pre, hlen, hT, hsz, q⟩ := h
  obtain ⟨u, rfl, rx⟩ := vals1 r
  obtain rfl : u = Value.ref a := rx
  obtain ⟨z, its, n, rv, l1, ha⟩ := I.lstM hA
  match its, rv with
  | x :: l, rv =>
  refine call_repr_slot (T := "list") (by have := hr.units; omega) ⟨_, ha, rfl⟩ PySem.F.slot_list_repr.toG ?_
  refine wpAny_call (codeAny_call_builtin PySem.F.slot_list_repr.plain PySem.F.entry_list_repr (PySem.F.slot_list_repr.check _ _ _ _ _ _ _ _ ⟨_, ha, rfl⟩ (PySem.F.args_list_repr_1 _) ?_))
  refine wpAny_list_repr_head (A := X.A.in1.in1) (g := []) (b := 0) g0 (fun v rest kw hm => nomatch hm) ha rfl ?_
  refine wpAny_bind (m := newList []) (wpAny_newObj_type ?_)
  refine wpAny_pure ⟨PySem.F.quiet_list_repr_loop _, ?_⟩
  have I1 := I.lnew (ys := []) (its := []) (t' := s.toks) .nil (Nat.zero_le _)
  have nP : H s.heap.objs.size = none := I.hok.fresh (Nat.le_refl _)
  have neP : a ≠ s.heap.objs.size := ne_of_none hA nP
  have same : ∀ {H' : Hp}, (∀ p o, p ≠ s.heap.objs.size → (upd H s.heap.objs.size (.lst [])) p = some o → H' p = some o) → Same H H' := fun k2 p o e => k2 p o (ne_of_none e nP) (by rw [upd_ne (ne_of_none e nP)]; exact e)
  have pz : piled (ts.take 0) = 0 := rfl
  refine loop_own (X := X) (k := k) (as := []) (Pre := Pre) (A := X.A.in1) (g := []) (pins := pins) (σ := σ) (a := a) (P := s.heap.objs.size) (vs := v0 :: vr) (ts := ts) (base := 0) I.env0.frames g0 (fun b hb => nomatch hb) hr.in1 (fun hb => nomatch hb) mono neP hlen hT (by omega) (fun e s' z => z) _ 0 (upd H s.heap.objs.size (.lst [])) _ rfl (Nat.zero_le _) I1
    (fun H' k2 => mono H H' (same k2) pre) (by rw [upd_ne neP]; exact hA) upd_same fun H' s' u2 I2 k2 => ?_
  exact ⟨_, _, rfl, .str _, H', I2, ⟨u2, rfl⟩, q H' (same k2)⟩
end
end Mz
set_option Elab.async false
set_option linter.all false
set_option maxRecDepth 100000
set_option maxHeartbeats 4000000
/-! repr of a list of a text and a dict of one pair -/
namespace Mz
open PySem PySem.Spec PyProof.Rows L2
def pairText (z : Str) (i : Int) : Str := dictText (List.zipWith (fun k v : Str => k ++ ": " ++ v) [reprText z] [Str.ofString (toString i)])
def twoText (r z : Str) (i : Int) : Str := listText [reprText r, pairText z i]
def rRepr2 : List V → Hp → VK → Prop := fun xs H Q => ∃ (p : Addr) (r : Str) (a : Addr) (z : Str) (i : Int), xs = [.ref p] ∧ H p = some (.lst [.str r, .ref a]) ∧ H a = some (.dK [(.inr z, .int i)]) ∧
  i.natAbs.log2 < 1920 ∧ (reprText r).length ≤ 1000 ∧ (reprText z).length ≤ 1000 ∧ (twoText r z i).length ≤ sizeLine ∧ Q (.str (twoText r z i)) H
theorem call_repr2 {X : Cx} (g0 : X.A.guards = some []) (hu : X.A.units + 64 < cLine) : CallR X (.builtin "repr") rRepr2 := by
  intro pins s σ H xs us Q I rv h
  obtain ⟨p, r, a, z, i, rfl, hp, ha, hi, hr, hz, hsz, q⟩ := h
  obtain ⟨u, rfl, rx⟩ := vals1 rv
  obtain rfl : u = Value.ref p := rx
  have ends : ∀ h' t tk, (∀ b o, s.heap.get? b = some o → h'.get? b = some o) → EP X pins σ Q (.str (twoText r z i) t) { s with heap := h', toks := tk } := fun h' t tk hk => ⟨.str _, H, I.kept hk, ⟨_, rfl⟩, q⟩
  obtain ⟨_, its, n, vl, hl⟩ := (show ObjOk X.prog X.w H s.heap p (.lst [.str r, .ref a]) from I.hok p _ hp)
  obtain ⟨_, hsys, vs, kv, o, es, ep, ho, hx, hd, _, hpair, _⟩ := dk_of I.hok ha
  -- the two items
  match its, vl with
  | [u1, u2], .cons r1 (.cons r2 .nil) =>
  obtain ⟨t1, rfl⟩ := r1
  obtain rfl : u2 = Value.ref a := r2
  -- the one entry
  match vs, kv with
  | [(k2, v2)], .cons ⟨ek, rv2⟩ .nil =>
  obtain ⟨t2, rfl⟩ := rv2
  have ek2 : k2 = Sum.inr z := ek.symm
  subst ek2
  have entry : ∃ e, es.toList = [e] ∧ (∃ t, e.key = .str z t) ∧ e.val = .int i t2 := by
    generalize es.toList = l at hpair ⊢
    cases hpair with
    | cons hk hv hn =>
      cases hn
      obtain ⟨t, et⟩ := Value.isStrOf_shape (x := z) hk
      exact ⟨_, rfl, ⟨t, et⟩, hv⟩
  obtain ⟨e, he, ⟨t3, hkey⟩, hval⟩ := entry
  have kz : ReprK X.prog X.w [] s.heap 0 e.key (reprText z) := by
    rw [hkey]
    exact .of_is (ReprIs.str z t3 (Nat.le_trans hz (by decide))) _ _ _
  have vz : ReprK X.prog X.w [] s.heap 0 e.val (Str.ofString (toString i)) := by
    rw [hval]
    exact .of_is (ReprIs.int t2 hi) _ _ _
  have hE : ReprEntriesK X.prog X.w [] s.heap 0 es.toList (List.zipWith (fun k v : Str => k ++ ": " ++ v) [reprText z] [Str.ofString (toString i)]) := by
    rw [he]
    exact ReprEntriesK.of_two [e] _ _ (.cons kz .nil) (.cons vz .nil)
  have dk : ReprK X.prog X.w [a] s.heap 1 (.ref a) (pairText z i) := ReprK.dict ho hx.1 hd hsys (by simp) hE
  have sk : ReprK X.prog X.w [a] s.heap 1 (.str r t1) (reprText r) := .of_is (ReprIs.str r t1 (Nat.le_trans hr (by decide))) _ _ _
  have npa : p ∉ [a] := by
    intro hm
    rw [List.mem_singleton.mp hm, ha] at hp
    cases hp
  refine call_repr_slot (T := "list") (by omega) ⟨_, hl, rfl⟩ F.slot_list_repr.toG ?_
  refine call_list_reprK (as := [a]) (d := 1) (ts := [reprText r, pairText z i]) hl rfl rfl npa rfl (fun j y hy => ?_) (A := X.A.in1) g0 (fun b _ => Clear.nil b) (by show X.A.units + 1 + 2 < cLine; omega) (fun _ _ z => z) (fun h' t tk hk => ⟨_, _, rfl, ends h' t tk hk⟩) hsz
  match j, hy with
  | 0, hy =>
    cases hy
    exact ⟨_, rfl, sk⟩
  | 1, hy =>
    cases hy
    exact ⟨_, rfl, dk⟩
  | j + 2, hy =>
    exact absurd hy (by simp)
end Mz
set_option Elab.async false
set_option linter.all false
set_option maxRecDepth 100000
set_option maxHeartbeats 4000000
/-! repr of a list of a text and a dict whose values are flat, or lists of a 1 -/
namespace Mz
open PySem PySem.Spec PyProof.Rows L2
def keyT : Key → Str
  | .inl i => Str.ofString (toString i)
  | .inr z => reprText z
def itemT : V → Str
  | .non => PyData.shown .none
  | .bl b => PyData.shown (.bool b)
  | .int i => Str.ofString (toString i)
  | .str z => reprText z
  | _ => listText [Str.ofString (toString (1 : Int))]
/-- a value of such a dict -/
def VOk (qs : List Addr) (H : Hp) (v : V) : Prop := v = .non ∨ (∃ b, v = .bl b) ∨ (∃ i, v = .int i ∧ (i.natAbs.log2 < 1920 ∧ (Str.ofString (toString i)).length ≤ 300)) ∨ (∃ z, v = .str z ∧ (reprText z).length ≤ 300) ∨ ∃ q, v = .ref q ∧ q ∈ qs ∧ H q = some (.lst [.int 1])
def KOk : Key → Prop
  | .inl i => i.natAbs.log2 < 1920 ∧ (Str.ofString (toString i)).length ≤ 300
  | .inr z => (reprText z).length ≤ 300
def entT (kv : Key × V) : Str := keyT kv.1 ++ ": " ++ itemT kv.2
def dkText (r : Str) (kvs : List (Key × V)) : Str := listText [reprText r, dictText (kvs.map entT)]
def rReprDk : List V → Hp → VK → Prop := fun xs H Q => ∃ (p : Addr) (r : Str) (a : Addr) (qs : List Addr) (kvs : List (Key × V)), xs = [.ref p] ∧ H p = some (.lst [.str r, .ref a]) ∧ H a = some (.dK kvs) ∧ p ∉ qs ∧ a ∉ qs ∧ (reprText r).length ≤ 1000 ∧
  (∀ kv ∈ kvs, KOk kv.1 ∧ VOk qs H kv.2) ∧ (dkText r kvs).length ≤ sizeLine ∧ Q (.str (dkText r kvs)) H
section
variable {X : Cx} {pins : List (Addr × Obj)} {σ : L2.St} {H : Hp} {s : Shared} {qs : List Addr}
theorem item_repr (I : Inv X pins σ H s) {v : V} {u : Value} (r : RelV v u) (h : VOk qs H v) : ReprK X.prog X.w qs s.heap 1 u (itemT v) := by
  rcases h with rfl | ⟨b, rfl⟩ | ⟨i, rfl, hi, _⟩ | ⟨z, rfl, hz⟩ | ⟨q, rfl, hq, hH⟩
  · obtain rfl : u = Value.none := r
    exact .of_is (by simpa only [itemT, PyData.shown] using ReprIs.none) _ _ _
  · obtain rfl : u = Value.bool b := r
    exact .of_is (by simpa only [itemT, PyData.shown] using ReprIs.bool b) _ _ _
  · obtain ⟨t, rfl⟩ := r
    exact .of_is (ReprIs.int t hi) _ _ _
  · obtain ⟨t, rfl⟩ := r
    exact .of_is (ReprIs.str z t (Nat.le_trans hz (by decide))) _ _ _
  · obtain rfl : u = Value.ref q := r
    obtain ⟨_, its, n, vl, hl⟩ := (show ObjOk X.prog X.w H s.heap q (.lst [.int 1]) from I.hok q _ hH)
    match its, vl with
    | [u1], .cons r1 .nil =>
    obtain ⟨t1, rfl⟩ := r1
    refine (ReprK.list (as := []) (d := 0) hl rfl rfl (by simp) rfl fun i y hy => ?_).more fun b hb => by
      rw [List.mem_singleton.mp hb]
      exact hq
    match i, hy with
    | 0, hy =>
      cases hy
      exact ⟨_, rfl, .of_is (ReprIs.int t1 (by decide +kernel)) _ _ _⟩
    | i + 1, hy => exact absurd hy (by simp)
theorem key_repr {k : Key} {u : Value} (e : keyIs k u = true) (h : KOk k) : ReprK X.prog X.w qs s.heap 1 u (keyT k) := by
  rcases keyIs_shape e with ⟨i, t, rfl, rfl⟩ | ⟨z, t, rfl, rfl⟩
  · exact .of_is (ReprIs.int t h.1) _ _ _
  · exact .of_is (ReprIs.str z t (Nat.le_trans h (by decide))) _ _ _
end
theorem item_len {qs : List Addr} {H : Hp} {v : V} (h : VOk qs H v) : (itemT v).length ≤ 300 := by
  rcases h with rfl | ⟨b, rfl⟩ | ⟨i, rfl, _, hi⟩ | ⟨z, rfl, hz⟩ | ⟨q, rfl, hq, hH⟩
  · simp only [itemT, PyData.shown]
    decide +kernel
  · cases b <;> simp only [itemT, PyData.shown] <;> decide +kernel
  · exact hi
  · exact hz
  · show (listText [Str.ofString (toString (1 : Int))]).length ≤ 300
    decide +kernel
theorem key_len {k : Key} (h : KOk k) : (keyT k).length ≤ 300 := by
  cases k with
  | inl i => exact h.2
  | inr z => exact h
theorem ent_sum {qs : List Addr} {H : Hp} : ∀ kvs : List (Key × V), (∀ kv ∈ kvs, KOk kv.1 ∧ VOk qs H kv.2) → ((kvs.map entT).map (·.length)).sum ≤ 602 * kvs.length
  | [], _ => Nat.le_refl _
  | kv :: r, h => by
    obtain ⟨h1, h2⟩ := h kv List.mem_cons_self
    have ih := ent_sum r fun x hx => h x (List.mem_cons_of_mem _ hx)
    have e : (entT kv).length = (keyT kv.1).length + 2 + (itemT kv.2).length := by
      show ((keyT kv.1 ++ ": ") ++ itemT kv.2 : Str).length = _
      rw [strLen_append, strLen_append]
      rfl
    have k1 := key_len h1
    have k2 := item_len h2
    rw [List.map_cons, List.map_cons, List.sum_cons, List.length_cons, e]
    omega
theorem dkText_len {qs : List Addr} {H : Hp} {r : Str} {kvs : List (Key × V)} (h : ∀ kv ∈ kvs, KOk kv.1 ∧ VOk qs H kv.2) (hl : kvs.length ≤ 6) (hr : (reprText r).length ≤ 1000) : (dkText r kvs).length ≤ sizeLine := by
  have e1 := ent_sum kvs h
  have e2 := StrLaws.join_length_le ", " (kvs.map entT)
  have e3 : (dictText (kvs.map entT)).length = 1 + (Str.join ", " (kvs.map entT)).length + 1 := by
    unfold dictText
    rw [strLen_append, strLen_append]
    rfl
  have e4 : (dkText r kvs).length = (reprText r).length + (dictText (kvs.map entT)).length + 4 := by
    show ((("[" ++ ((if 0 > 0 then ", " else "" : String) : Str) ++ reprText r) ++ ((if 1 > 0 then ", " else "" : String) : Str) ++ dictText (kvs.map entT)) ++ "]" : Str).length = _
    rw [if_neg (by decide), if_pos (by decide)]
    simp only [strLen_append]
    have f1 : (("[" : String) : Str).length = 1 := by decide +kernel
    have f2 : (("" : String) : Str).length = 0 := by decide +kernel
    have f3 : ((", " : String) : Str).length = 2 := by decide +kernel
    have f4 : (("]" : String) : Str).length = 1 := by decide +kernel
    rw [f1, f2, f3, f4]
    omega
  have e5 : (", " : Str).length = 2 := by decide +kernel
  rw [e5, List.length_map] at e2
  have e6 : 100000 ≤ sizeLine := by decide
  rw [e4, e3]
  omega
theorem call_reprDk {X : Cx} (g0 : X.A.guards = some []) (hu : X.A.units + 64 < cLine) : CallR X (.builtin "repr") rReprDk := by
  intro pins s σ H xs us Q I rv h
  obtain ⟨p, r, a, qs, kvs, rfl, hp, ha, npq, naq, hr, hall, hsz, q⟩ := h
  obtain ⟨u, rfl, rx⟩ := vals1 rv
  obtain rfl : u = Value.ref p := rx
  have ends : ∀ h' t tk, (∀ b o, s.heap.get? b = some o → h'.get? b = some o) → EP X pins σ Q (.str (dkText r kvs) t) { s with heap := h', toks := tk } := fun h' t tk hk => ⟨.str _, H, I.kept hk, ⟨_, rfl⟩, q⟩
  obtain ⟨_, its, n, vl, hl⟩ := (show ObjOk X.prog X.w H s.heap p (.lst [.str r, .ref a]) from I.hok p _ hp)
  obtain ⟨_, hsys, vs, kv, o, es, ep, ho, hx, hd, _, hpair, _⟩ := dk_of I.hok ha
  match its, vl with
  | [u1, u2], .cons r1 (.cons r2 .nil) =>
  obtain ⟨t1, rfl⟩ := r1
  obtain rfl : u2 = Value.ref a := r2
  have ents : ∀ (kvs : List (Key × V)) (vs : List (Key × Value)) (l : List DictEntry), KV kvs vs → Pairs (mixKind X.prog X.w) l vs → (∀ kv ∈ kvs, KOk kv.1 ∧ VOk qs H kv.2) → ReprEntriesK X.prog X.w qs s.heap 1 l (kvs.map entT) := by
    intro kvs
    induction kvs with
    | nil =>
      intro vs l kv pr _
      match vs, kv, l, pr with
      | [], .nil, _, pr =>
        cases pr
        exact .nil
    | cons x kvs ih =>
      intro vs l kv pr hall
      match vs, kv, pr with
      | (k2, v2) :: vs, .cons ⟨ek, rv2⟩ kr, pr =>
        cases pr with
        | @cons en _ es2 _ hk hv hn =>
          obtain ⟨h1, h2⟩ := hall x List.mem_cons_self
          have ek2 : x.1 = k2 := ek
          have hk2 : keyIs x.1 en.key = true := by
            rw [ek2]
            exact hk
          refine .cons (k := keyT x.1) (v := itemT x.2) (key_repr hk2 h1) ?_ (ih vs es2 kr hn fun y hy => hall y (List.mem_cons_of_mem _ hy))
          rw [hv]
          exact item_repr I rv2 h2
  have dk : ReprK X.prog X.w (a :: qs) s.heap 2 (.ref a) (dictText (kvs.map entT)) := ReprK.dict ho hx.1 hd hsys naq (ents kvs vs es.toList kv hpair hall)
  have sk : ReprK X.prog X.w (a :: qs) s.heap 2 (.str r t1) (reprText r) := .of_is (ReprIs.str r t1 (Nat.le_trans hr (by decide))) _ _ _
  have npa : p ∉ a :: qs := by
    intro hm
    rcases List.mem_cons.mp hm with e | e
    · rw [e, ha] at hp
      cases hp
    · exact npq e
  refine call_repr_slot (T := "list") (by omega) ⟨_, hl, rfl⟩ F.slot_list_repr.toG ?_
  refine call_list_reprK (as := a :: qs) (d := 2) (ts := [reprText r, dictText (kvs.map entT)]) hl rfl rfl npa rfl (fun j y hy => ?_) (A := X.A.in1) g0 (fun b _ => Clear.nil b) (by show X.A.units + 1 + 3 < cLine; omega) (fun _ _ z => z) (fun h' t tk hk => ⟨_, _, rfl, ends h' t tk hk⟩) hsz
  match j, hy with
  | 0, hy =>
    cases hy
    exact ⟨_, rfl, sk⟩
  | 1, hy =>
    cases hy
    exact ⟨_, rfl, dk⟩
  | j + 2, hy => exact absurd hy (by simp)
end Mz
set_option Elab.async false
set_option linter.all false
set_option maxRecDepth 100000
set_option maxHeartbeats 4000000
/-! o[i], o an instance with an own __getitem__ that may raise -/
namespace Mz
open PySem PySem.Spec PyProof.Rows L2
def rSubO (C : Addr) (sp : Sp) (E : XK) : R2 := fun x y H Q => ∃ a dx fs, x = .ref a ∧ H a = some (.ins C dx fs) ∧ sp [.ref a, y] H Q E
theorem pe_subS {X : Cx} {CX : CXT} {k : Nat} {f C : Addr} {fd : FuncData} {ps : List Str} {sp : Sp} {E : L2.St → XK} {ea eb : Expr} {ta tb : TE} {pos : Pos} (F : FnOk X.prog X.w X.K X.mg X.base CX k f fd ps sp) (hr : Room (k + 1) X.A) (hb : Binds X.K fd ps [])
    (iG : PySem.W.findIn X.K (.ref C) "__getitem__" = some (some (.ref f))) (fG : PySem.W.fnIn X.K f = true) (jG : PySem.W.isFn X.K (.ref f) = true) (hx : ∀ σ, PassesAt CX X σ (E σ)) (ha : PE X ea ta) (hb2 : PE X eb tb)
    (hs : ∀ (x : Addr) (i : Value), subscripted eb true (.ref x) i = runValue (.builtin "lifetime.subscript" ⟨[.ref x, i], []⟩) := by intro _ _; rfl) :
    PE X (.Subscript ea eb pos) (fun σ H Q => ta σ H fun x H1 => tb σ H1 fun y H2 => rSubO C sp (E σ) x y H2 Q) := by
  refine ⟨fun pins s σ H Q I h => Subscript_ (binT (f := fun v u => subscriptTail ea eb v u) ha hb2 I h fun v u s2 x y H2 I2 rx ry q => ?_)⟩
  obtain ⟨a, dx, fs, rfl, hH, q⟩ := q
  obtain rfl : v = Value.ref a := rx
  obtain ⟨mA, O, _⟩ := ins_get I2.hok hH
  obtain ⟨od, J, _⟩ := O.look
  obtain ⟨m, hF⟩ := I2.fr
  exact PySem.W.sub_K hF I2.ok.mod.kin J iG fG jG (run_at (vs := [.ref a, y]) (us := [.ref a, u]) F hr.in1 I2.env0.in1 hb (fun e s3 z => hx σ pins H2 s2 e s3 I2 z) I2 (.cons rfl (.cons ry .nil)) q) (hs a u)
/-- o.m(e, ..), an own method that may raise; what it raises is wished for at the caller's slots -/
theorem pe_methSS {X : Cx} {CX : CXT} {k : Nat} {f C : Addr} {fd : FuncData} {ps : List Str} {sp : Sp} {E : L2.St → XK} {o e : Expr} {es : List Expr} {ta : TE} {t : TA} {m : Str} {apos pos : Pos} {pl : Sem Bool} (he : PE X o ta) (c : Cls X.K C) (hm : Meth X.K C m f) (F : FnOk X.prog X.w X.K X.mg X.base CX k f fd ps sp) (hr : Room k X.A)
    (hb : Binds X.K fd ps []) (hx : ∀ σ, PassesAt CX X σ (E σ)) (ha : PA X (e :: es) t) (hst : starEach (e :: es) X.env = (false, eval e X.env) :: starEach es X.env := by rfl) (hpl : (backTo pos (starEach es X.env)).any (·.1) = false := by rfl)
    (ht : eval (.Call (.Attribute o m apos) (e :: es) [] pos) X.env = (do
      let ov ← eval o X.env
      standAt apos.atName
      let (f, first) ← holding [ov] (getMethod ov m pl)
      callWith pos f first (backTo pos (starEach (e :: es) X.env)) (backToKw pos (keywordEach [] X.env))) := by rfl) :
    PE X (.Call (.Attribute o m apos) (e :: es) [] pos) (fun σ H Q => ta σ H fun x H1 => ∃ a dx fs, x = .ref a ∧ H1 a = some (.ins C dx fs) ∧ fs.lookup m = none ∧ t σ H1 fun vs H2 => sp (x :: vs) H2 Q (E σ)) := by
  refine ⟨fun pins s σ H Q I h => PySem.W.methodCall_KW (pl := pl) (thn (he.run pins s σ H _ I h) fun u s1 hv => ?_) ht⟩
  obtain ⟨x, H1, I1, rx, a, dx, fs, rfl, ea, l, q⟩ := hv
  obtain rfl : u = Value.ref a := rx
  refine getmeth_ok I1 ea c hm l (PySem.W.callWith_K (first := [.ref a]) (h₀ := X.base) I.ok.mod.kin hm.kp (thn (ha.run pos pins s1 σ H1 _ I1 q) fun us s2 hw => ?_) hst hpl)
  obtain ⟨vs, H2, I2, r, q2⟩ := hw
  exact ⟨I2.kIn, run_fnS (us := .ref a :: us) (vs := .ref a :: vs) F hr hb (hx σ) I2 (.cons rfl r) q2⟩
end Mz
set_option Elab.async false
set_option linter.all false
set_option maxRecDepth 100000
set_option maxHeartbeats 4000000
/-! + and - with an instance of an own class on one side, where the own def may raise -/
namespace Mz
open PySem PySem.Spec PyProof.Rows L2
section
variable {prog : Program} {w : World} {A : Around} {E : Value → Shared → Prop} {s : Shared} {K : PySem.W.Frag} {x C f : Addr} {ox : Obj} {od : Option Obj} {T : String} {op : Operator}
open PySem.W in
/-- the instance is on the left, on the right is a value of a built-in type -/
theorem bin1_type {b : Value} {fo ro rc : Option Value} {Q : Value → Shared → Prop} (X : K.In s.heap) (J : InstAt s.heap x ox C od) (hb : ∀ h : Heap, s.heap = h → Looks (model prog w) h (typeOf b) (.type T)) (first : selfFirst K C = true)
    (own : findIn K (.ref C) (PySem.dunder op.info.2) = some (some (.ref f))) (fn : isFn K (.ref f) = true) (back : findIn K (.ref C) (dunderR op.info.2) = some rc) (how : rc = none ∨ ∃ g : Addr, rc = some (.ref g))
    (t1 : findIn K (.type T) (PySem.dunder op.info.2) = some fo) (t2 : findIn K (.type T) (dunderR op.info.2) = some ro) (low : subIn K (.type T) (.ref C) = some false)
    (run : wpAny (model prog w) A (call (.ref f) [.ref x, b]) (PySem.W.CmpBack Q) E s) : wpAny (model prog w) A (binaryOp1 op.info.2 (.ref x) b) (fun r s2 => ∃ v, r = some v ∧ Q v s2) E s := by
  obtain ⟨cd, rest, hcd, hm⟩ := ksp_first first
  rcases hi : op.info with ⟨sym, nm⟩
  rw [hi] at own back t1 t2
  have tried := ksp_try X J own fn run
  obtain ⟨hp, gn, dp, tk, os⟩ := s
  have K1 : Looks (model prog w) hp (typeOf (.ref x)) (.ref C) := J.type
  have K2 : Looks (model prog w) hp (typeOf b) (.type T) := hb _ rfl
  have K3 : Looks (model prog w) hp (fillsNumberSlot (.ref C) nm) true := fills_K X hcd hm own
  have K4 := ksp_fillsT (M := model prog w) X t1 t2
  have K5 : Looks (model prog w) hp (isSubtype (.type T) (.ref C)) false := looks_subIn X low
  have K6 : Looks (model prog w) hp (numberSlotInPython (.ref C) nm) true := ksp_inPy X own back how
  have K7 : Looks (model prog w) hp (numberSlotInPython (.type T) nm) false := Looks.of_pure rfl
  have K8 : Looks (model prog w) hp (typeLookup (.type T) (dunderR nm)) ro := looks_findIn X t2
  have unlike : (Value.ref C == Value.type T) = false := by
    cases e : (Value.ref C == Value.type T) with
    | false => rfl
    | true => cases beq_iff_eq.mp e
  revert K4
  generalize ((fo.isSome && !isSeqSlot fo) || (ro.isSome && !isSeqSlot ro)) = fills
  intro K4
  have fin : ∀ r s2, (∃ v, r = some v ∧ Q v s2) → wpAny (model prog w) A (pure r) (fun r s3 => ∃ v, r = some v ∧ Q v s3) E s2 := fun r s2 h => wpAny_pure h
  show wpAny (model prog w) A (binaryOp1 nm (.ref x) b) _ E _
  unfold binaryOp1
  refine wpAny_bind (K1.at (wpAny_bind (K2.at (wpAny_bind (K3.at ?_)))))
  simp only [unlike, Bool.false_eq_true, if_false]
  cases fills
  all_goals
    ksp_lk
    refine wpAny_mono tried (fun r s2 hr => ?_) fun _ _ z => z
    obtain ⟨v, rfl, hq⟩ := hr
    ksp_lk
    exact ⟨v, rfl, hq⟩
open PySem.W in
theorem bin_of1 {a b : Value} {Q : Value → Shared → Prop} (h : wpAny (model prog w) A (binaryOp1 op.info.2 a b) (fun r s2 => ∃ v, r = some v ∧ Q v s2) E s) : wpAny (model prog w) A (binaryOp op a b) Q E s := by
  rcases hi : op.info with ⟨sym, nm⟩
  rw [hi] at h
  simp only [binaryOp, hi]
  refine wpAny_holding (wpAny_bind (wpAny_mono h (fun r s2 hr => ?_) fun _ _ z => z))
  obtain ⟨v, rfl, hq⟩ := hr
  exact wpAny_pure hq
/-- a class whose types ahead of object know no += : it goes as + -/
theorem inp_of1 {b : Value} {Q : Value → Shared → Prop} (X : K.In s.heap) (J : PySem.W.InstAt s.heap x ox C od) (hc : (PySem.W.clsIn K C).map (·.mro) = some [.ref C, .type "object"]) (n1 : PySem.W.findIn K (.ref C) (dunderI op.info.2) = some none) (n2 : PySem.W.findIn K (.type "object") (dunderI op.info.2) = some none)
    (h : wpAny (model prog w) A (binaryOp1 op.info.2 (.ref x) b) (fun r s2 => ∃ v, r = some v ∧ Q v s2) E s) : wpAny (model prog w) A (inplaceOp op (.ref x) b) Q E s := by
  obtain ⟨cd, hcd, hm⟩ := Option.map_eq_some_iff.mp hc
  have no : PySem.W.Looks (model prog w) s.heap (fillsInplaceSlot (.ref C) op.info.2 (op == .Add)) false := by
    intro A2 Q2 E2 s2 k q2
    have Lm : PySem.W.Looks (model prog w) s.heap (mroOf (.ref C)) cd.mro := (PySem.W.looks_clsIn X hcd).andThen (f := fun cd => pure cd.mro) .now
    have L1 : PySem.W.Looks (model prog w) s.heap (typeLookup (.ref C) (dunderI op.info.2)) none := PySem.W.looks_findIn X n1
    have L2' : PySem.W.Looks (model prog w) s.heap (typeLookup (.type "object") (dunderI op.info.2)) none := PySem.W.looks_findIn X n2
    have M1 := Lm.keeps k
    have M2 := L1.keeps k
    have M3 := L2'.keeps k
    obtain ⟨hp, gn, dp, tk, os⟩ := s2
    unfold fillsInplaceSlot
    refine wpAny_bind (M1.at ?_)
    rw [hm, List.anyM_cons]
    refine wpAny_bind (wpAny_bind (M2.at (wpAny_pure ?_)))
    rw [if_neg Bool.false_ne_true, List.anyM_cons]
    refine wpAny_bind (wpAny_bind (M3.at (wpAny_pure ?_)))
    exact wpAny_pure q2
  unfold inplaceOp
  refine wpAny_holding (wpAny_bind (J.type.here (wpAny_bind (no.here ?_))))
  simp only [Bool.false_eq_true, if_false]
  refine wpAny_bind (wpAny_mono h (fun r s2 hr => ?_) fun _ _ z => z)
  obtain ⟨v, rfl, hq⟩ := hr
  exact wpAny_pure hq
open PySem.W in
/-- both sides are of the class -/
theorem bin_own {b : Value} {Q : Value → Shared → Prop} (X : K.In s.heap) (J : InstAt s.heap x ox C od) (hb : ∀ h : Heap, s.heap = h → Looks (model prog w) h (typeOf b) (.ref C)) (first : selfFirst K C = true)
    (own : findIn K (.ref C) (PySem.dunder op.info.2) = some (some (.ref f))) (fn : isFn K (.ref f) = true)
    (run : wpAny (model prog w) A (call (.ref f) [.ref x, b]) (PySem.W.CmpBack Q) E s) : wpAny (model prog w) A (binaryOp op (.ref x) b) Q E s := by
  obtain ⟨cd, rest, hcd, hm⟩ := ksp_first first
  rcases hi : op.info with ⟨sym, nm⟩
  rw [hi] at own
  have tried := ksp_try X J own fn run
  obtain ⟨hp, gn, dp, tk, os⟩ := s
  have K1 : Looks (model prog w) hp (typeOf (.ref x)) (.ref C) := J.type
  have K2 : Looks (model prog w) hp (typeOf b) (.ref C) := hb _ rfl
  have K3 : Looks (model prog w) hp (fillsNumberSlot (.ref C) nm) true := fills_K X hcd hm own
  have like : (Value.ref C == Value.ref C) = true := beq_self_eq_true _
  simp only [binaryOp, hi]
  refine wpAny_holding (wpAny_bind ?_)
  unfold binaryOp1
  refine wpAny_bind (K1.at (wpAny_bind (K2.at (wpAny_bind (K3.at ?_)))))
  simp only [like, if_true]
  ksp_lk
  refine wpAny_mono tried (fun r s2 hr => ?_) fun _ _ z => z
  obtain ⟨v, rfl, hq⟩ := hr
  ksp_lk
  exact hq
/-- int.__add__ declines what is an instance -/
theorem add_declines {b : Value} {dx : Addr} {Q : Value → Shared → Prop} (hx : s.heap.get? x = some (PySem.W.instObj C dx)) (hb : (∃ i t, b = .int i t) ∨ ∃ y, b = .bool y) (q : Q .notImplemented s) :
    wpAny (model prog w) A (call (.builtin "int.__add__") [b, .ref x]) Q E s := by
  have body : ∀ (A2 : Around) (E2 : Value → Shared → Prop) (Q2 : Fin → Shared → Prop), Q2 (.done (.ret .notImplemented)) s → wpAny (model prog w) A2 (Builtin.«int.__add__» ⟨[b, .ref x], []⟩) Q2 E2 s := by
    intro A2 E2 Q2 q2
    obtain ⟨hp, gn, dp, tk, os⟩ := s
    rcases hb with ⟨i, t, rfl⟩ | ⟨y, rfl⟩
    all_goals
      unfold Builtin.«int.__add__» Builtin.Int.intBinary
      refine wpAny_bind (m := slotArgs "__add__" 1 _) (wpAny_pure ?_)
      refine wpAny_bind (wpAny_pure ?_)
      refine wpAny_bind ?_
      show wpAny _ _ (asInt? (.ref x)) _ _ _
      unfold asInt?
      refine wpAny_bind (wpAny_load hx ?_)
      refine wpAny_pure ?_
      exact wpAny_bind (wpAny_rule (wpAny_pure q2))
  rcases hb with ⟨i, t, rfl⟩ | ⟨y, rfl⟩
  · exact wpAny_call (codeAny_call_builtin F.slot_int_add.plain F.entry_int_add (F.slot_int_add.check _ _ _ _ _ _ _ _ (typeIs_int s i t) (F.args_int_add_2 _ _) (body _ _ _ q)))
  · exact wpAny_call (codeAny_call_builtin F.slot_bool_add.plain F.entry_int_add (F.slot_bool_add.check _ _ _ _ _ _ _ _ rfl (F.args_int_add_2 _ _) (body _ _ _ q)))
open PySem.W in
/-- an int or a bool on the left, which declines, the instance on the right -/
theorem add_back {b : Value} {dx : Addr} {Q : Value → Shared → Prop} (X : K.In s.heap) (J : InstAt s.heap x ox C od) (hx : s.heap.get? x = some (PySem.W.instObj C dx)) (first : selfFirst K C = true) (own : findIn K (.ref C) (PySem.dunder "add") = some (some (.ref f))) {g : Addr} (back : findIn K (.ref C) (dunderR "add") = some (some (.ref g)))
    (fn : isFn K (.ref g) = true) (lo1 : subIn K (.ref C) (.type "int") = some false) (lo2 : subIn K (.ref C) (.type "bool") = some false) (hb : (∃ i t, b = .int i t) ∨ ∃ y, b = .bool y)
    (run : wpAny (model prog w) A (call (.ref g) [.ref x, b]) (PySem.W.CmpBack Q) E s) : wpAny (model prog w) A (binaryOp .Add b (.ref x)) Q E s := by
  obtain ⟨cd, rest, hcd, hm⟩ := ksp_first first
  have tried := ksp_try X J back fn run
  have no : ∀ {Q2 : Option Value → Shared → Prop}, Q2 none s → wpAny (model prog w) A (tryMethod b (PySem.dunder "add") (.ref x)) Q2 E s := by
    intro Q2 q
    have dec : wpAny (model prog w) A (call (.builtin "int.__add__") [b, .ref x]) (fun v s2 => v = .notImplemented ∧ Q2 none s2) E s := add_declines hx hb ⟨rfl, q⟩
    rcases id hb with ⟨i, t, e⟩ | ⟨y, e⟩
    · have ty : s.TypeIs b "int" := by
        rw [e]
        exact typeIs_int s i t
      exact wpAny_tryMethod_declines ty F.slot_int_add dec
    · have ty : s.TypeIs b "bool" := by
        rw [e]
        exact rfl
      exact wpAny_tryMethod_declines ty F.slot_bool_add dec
  have main : ∀ T : String, typeOf b = pure (.type T) → fillsNumberSlot (.type T) "add" = pure true → subIn K (.ref C) (.type T) = some false → wpAny (model prog w) A (binaryOp .Add b (.ref x)) Q E s := by
    intro T hty hf hlow
    have no2 := @no
    revert tried no2
    obtain ⟨hp, gn, dp, tk, os⟩ := s
    intro tried no2
    have K1 : Looks (model prog w) hp (typeOf b) (.type T) := Looks.of_pure hty
    have K2 : Looks (model prog w) hp (typeOf (.ref x)) (.ref C) := J.type
    have K3 : Looks (model prog w) hp (fillsNumberSlot (.type T) "add") true := Looks.of_pure hf
    have K4 : Looks (model prog w) hp (fillsNumberSlot (.ref C) "add") true := fills_K X hcd hm own
    have K5 : Looks (model prog w) hp (isSubtype (.ref C) (.type T)) false := looks_subIn X hlow
    have K6 : Looks (model prog w) hp (numberSlotInPython (.type T) "add") false := Looks.of_pure rfl
    have unlike : (Value.type T == Value.ref C) = false := by
      cases e : (Value.type T == Value.ref C) with
      | false => rfl
      | true => cases beq_iff_eq.mp e
    simp only [binaryOp, Operator.info]
    refine wpAny_holding (wpAny_bind ?_)
    unfold binaryOp1
    refine wpAny_bind (K1.at (wpAny_bind (K2.at (wpAny_bind (K3.at ?_)))))
    simp only [unlike, Bool.false_eq_true, if_false]
    ksp_lk
    refine no2 ?_
    ksp_lk
    refine wpAny_mono tried (fun r s2 hr => ?_) fun _ _ z => z
    obtain ⟨v, rfl, hq⟩ := hr
    ksp_lk
    exact hq
  rcases id hb with ⟨i, t, rfl⟩ | ⟨y, rfl⟩
  · exact main "int" rfl F.fills_int_add lo1
  · exact main "bool" rfl F.fills_bool_add lo2
end
/-! the rules -/
theorem back_of {X : Cx} {pins : List (Addr × Obj)} {σ : L2.St} {Q : VK} {u : Value} {s : Shared} (h : EP X pins σ Q u s) : PySem.W.CmpBack (EP X pins σ Q) u s := by
  cases u
  case notImplemented =>
    obtain ⟨v, H, I, r, q⟩ := h
    exfalso
    cases v <;> first | exact nomatch r | (obtain ⟨_, e⟩ := r; cases e)
  all_goals exact h
/-- what the class says of a operator's def on its left -/
structure Lty (K : PySem.W.Frag) (C : Addr) (op : Operator) (f : Addr) : Prop where
  first : PySem.W.selfFirst K C = true
  own : PySem.W.findIn K (.ref C) (PySem.dunder op.info.2) = some (some (.ref f))
  fn : PySem.W.isFn K (.ref f) = true
  back : ∃ rc, PySem.W.findIn K (.ref C) (dunderR op.info.2) = some rc ∧ (rc = none ∨ ∃ g : Addr, rc = some (.ref g))
/-- what a built-in type on the right says -/
structure Rty (K : PySem.W.Frag) (C : Addr) (op : Operator) (T : String) : Prop where
  io : ∃ fo, PySem.W.findIn K (.type T) (PySem.dunder op.info.2) = some fo
  ir : ∃ ro, PySem.W.findIn K (.type T) (dunderR op.info.2) = some ro
  sub : PySem.W.subIn K (.type T) (.ref C) = some false
def rLeft (K : PySem.W.Frag) (C : Addr) (op : Operator) (sp : Sp) (E : XK) : R2 := fun x y H Q => ∃ a dx fs, x = .ref a ∧ H a = some (.ins C dx fs) ∧ ((∃ T, TyX K H y (.type T) ∧ Rty K C op T) ∨ TyX K H y (.ref C)) ∧ sp [.ref a, y] H Q E
section
variable {X : Cx} {CX : CXT} {k : Nat} {f C : Addr} {fd : FuncData} {ps : List Str} {sp : Sp} {op : Operator} {E : L2.St → XK} {ea eb : Expr} {ta tb : TE} {pos : Pos}
theorem op_leftS (F : FnOk X.prog X.w X.K X.mg X.base CX k f fd ps sp) (hr : Room k X.A) (hb : Binds X.K fd ps []) (T : Lty X.K C op f) (hx : ∀ σ, PassesAt CX X σ (E σ)) (pins : List (Addr × Obj)) (s : Shared) (σ : L2.St) (H : Hp) (x y : V) (v u : Value) (Q : VK) (I : Inv X pins σ H s) (rx : RelV x v) (ry : RelV y u)
    (h : rLeft X.K C op sp (E σ) x y H Q) : wpAny (model X.prog X.w) X.A (binaryOp op v u) (EP X pins σ Q) X.xe s := by
  obtain ⟨a, dx, fs, rfl, ha, hy, q⟩ := h
  obtain rfl : v = Value.ref a := rx
  obtain ⟨mA, O, _⟩ := ins_get I.hok ha
  obtain ⟨od, J, _⟩ := O.look
  have run : wpAny (model X.prog X.w) X.A (call (.ref f) [.ref a, u]) (PySem.W.CmpBack (EP X pins σ Q)) X.xe s := wpAny_mono (run_fnS (vs := [.ref a, y]) (us := [.ref a, u]) F hr hb (hx σ) I (.cons rfl (.cons ry .nil)) q) (fun _ _ z => back_of z) fun _ _ z => z
  rcases hy with ⟨T2, ty, R⟩ | ty
  · obtain ⟨P, Z, hp, _⟩ := kit_of I ry ty
    obtain ⟨rc, b1, b2⟩ := T.back
    obtain ⟨fo, c1⟩ := R.io
    obtain ⟨ro, c2⟩ := R.ir
    exact bin_of1 (bin1_type I.kIn J (fun h e => by rw [← e]; exact Z.ty _ _ I.kIn hp) T.first T.own T.fn b1 b2 c1 c2 R.sub run)
  · obtain ⟨P, Z, hp, _⟩ := kit_of I ry ty
    exact bin_own I.kIn J (fun h e => by rw [← e]; exact Z.ty _ _ I.kIn hp) T.first T.own T.fn run
theorem pe_leftS {K : PySem.W.Frag} (F : FnOk X.prog X.w X.K X.mg X.base CX k f fd ps sp) (hr : Room k X.A) (hb : Binds X.K fd ps []) (T : Lty K C op f) (hx : ∀ σ, PassesAt CX X σ (E σ)) (ha : PE X ea ta) (hb2 : PE X eb tb) (hK : X.K = K := by rfl) :
    PE X (.BinOp ea op eb pos) (fun σ H Q => ta σ H fun x H1 => tb σ H1 fun y H2 => rLeft K C op sp (E σ) x y H2 Q) := by
  subst hK
  exact ⟨fun pins s σ H Q I h => wpAny_BinOp (binT ha hb2 I h fun v u s2 x y H2 I2 rx ry q => op_leftS F hr hb T hx pins s2 σ H2 x y v u Q I2 rx ry q)⟩
/-- += at a name that holds an instance -/
theorem pip_left (F : FnOk X.prog X.w X.K X.mg X.base CX k f fd ps sp) (hr : Room k X.A) (hb : Binds X.K fd ps []) (T : Lty X.K C op f) (R : Rty X.K C op "int") (hc : (PySem.W.clsIn X.K C).map (·.mro) = some [.ref C, .type "object"]) (n1 : PySem.W.findIn X.K (.ref C) (dunderI op.info.2) = some none) (n2 : PySem.W.findIn X.K (.type "object") (dunderI op.info.2) = some none)
    (hx : ∀ σ, PassesAt CX X σ E0) : InOp X op (fun x y H Q => ∃ a dx fs i, x = .ref a ∧ y = .int i ∧ H a = some (.ins C dx fs) ∧ sp [.ref a, y] H Q E0) := by
  intro pins s σ H x y v u Q I rx ry h
  obtain ⟨a, dx, fs, i, rfl, rfl, ha, q⟩ := h
  obtain rfl : v = Value.ref a := rx
  obtain ⟨mA, O, _⟩ := ins_get I.hok ha
  obtain ⟨od, J, _⟩ := O.look
  have run : wpAny (model X.prog X.w) X.A (call (.ref f) [.ref a, u]) (PySem.W.CmpBack (EP X pins σ Q)) X.xe s := wpAny_mono (run_fnS (E := fun _ => E0) (vs := [.ref a, .int i]) (us := [.ref a, u]) F hr hb (hx σ) I (.cons rfl (.cons ry .nil)) q) (fun _ _ z => back_of z) fun _ _ z => z
  obtain ⟨P, Z, hp, _⟩ := kit_of I ry (.base (.int i))
  obtain ⟨rc, b1, b2⟩ := T.back
  obtain ⟨fo, c1⟩ := R.io
  obtain ⟨ro, c2⟩ := R.ir
  exact inp_of1 I.kIn J hc n1 n2 (bin1_type I.kIn J (fun h e => by rw [← e]; exact Z.ty _ _ I.kIn hp) T.first T.own T.fn b1 b2 c1 c2 R.sub run)
def rBack (C : Addr) (sp : Sp) (E : XK) : R2 := fun x y H Q => ∃ a dx fs, y = .ref a ∧ H a = some (.ins C dx fs) ∧ ((∃ i, x = .int i) ∨ ∃ b, x = .bl b) ∧ sp [.ref a, x] H Q E
/-- int + instance -/
theorem pe_backS {fA : Addr} (F : FnOk X.prog X.w X.K X.mg X.base CX k f fd ps sp) (hr : Room k X.A) (hb : Binds X.K fd ps []) (first : PySem.W.selfFirst X.K C = true) (own : PySem.W.findIn X.K (.ref C) (PySem.dunder "add") = some (some (.ref fA))) (back : PySem.W.findIn X.K (.ref C) (dunderR "add") = some (some (.ref f))) (fn : PySem.W.isFn X.K (.ref f) = true)
    (lo1 : PySem.W.subIn X.K (.ref C) (.type "int") = some false) (lo2 : PySem.W.subIn X.K (.ref C) (.type "bool") = some false) (hx : ∀ σ, PassesAt CX X σ (E σ)) (ha : PE X ea ta) (hb2 : PE X eb tb) :
    PE X (.BinOp ea .Add eb pos) (fun σ H Q => ta σ H fun x H1 => tb σ H1 fun y H2 => rBack C sp (E σ) x y H2 Q) := by
  refine ⟨fun pins s σ H Q I h => wpAny_BinOp (binT ha hb2 I h fun v u s2 x y H2 I2 rx ry q => ?_)⟩
  obtain ⟨a, dx, fs, rfl, hH, hx2, q⟩ := q
  obtain rfl : u = Value.ref a := ry
  obtain ⟨mA, O, _⟩ := ins_get I2.hok hH
  obtain ⟨od, J, _⟩ := O.look
  have run : wpAny (model X.prog X.w) X.A (call (.ref f) [.ref a, v]) (PySem.W.CmpBack (EP X pins σ Q)) X.xe s2 := wpAny_mono (run_fnS (vs := [.ref a, x]) (us := [.ref a, v]) F hr hb (hx σ) I2 (.cons rfl (.cons rx .nil)) q) (fun _ _ z => back_of z) fun _ _ z => z
  refine add_back I2.kIn J O.1 first own back fn lo1 lo2 ?_ run
  rcases hx2 with ⟨i, rfl⟩ | ⟨b, rfl⟩
  · obtain ⟨t, rfl⟩ := rx
    exact .inl ⟨i, t, rfl⟩
  · exact .inr ⟨b, rx⟩
/-- a call that raises nothing here -/
theorem pass_no {σ : L2.St} : PassesAt (L2.CX X.prog X.w) X σ E0 := by
  intro pins H s e s2 I c
  obtain ⟨_, _, _, _, _, _, _, _, _, _, _, _, z⟩ := c
  exact z.elim
end
end Mz
set_option Elab.async false
set_option linter.all false
set_option maxRecDepth 100000
set_option maxHeartbeats 4000000
/-! what an own class says of in -/
namespace Mz
open PySem PySem.Spec PyProof.Rows L2
section
variable {X : Cx} {k : Nat} {f C : Addr} {fd : FuncData} {ps : List Str} {sp : Sp}
theorem op_inO (F : FnOk X.prog X.w X.K X.mg X.base CX0 k f fd ps sp) (hr : Room k X.A) (hb : Binds X.K fd ps []) (hs : PySem.W.findIn X.K (.ref C) "__contains__" = some (some (.ref f))) (hf : PySem.W.isFn X.K (.ref f) = true) :
    OpR X (compareOp .In) (fun x y H Q => ∃ a dx fs, y = .ref a ∧ H a = some (.ins C dx fs) ∧ sp [.ref a, x] H (fun v H2 => ∃ b : Bool, v = .bl b ∧ Q (.bl b) H2) E0) := by
  intro pins s σ H x y v u Q I rx ry h
  obtain ⟨a, dx, fs, rfl, ha, q⟩ := h
  obtain rfl : u = Value.ref a := ry
  obtain ⟨mA, O, _⟩ := ins_get I.hok ha
  obtain ⟨od, J, _⟩ := O.look
  obtain ⟨m, hF⟩ := I.fr
  refine PySem.W.in_K hF I.ok.mod.kin J hs hf (wpAny_mono (run_at (E := E0) (vs := [.ref a, x]) (us := [.ref a, v]) F hr I.env0 hb (fun _ _ z => z.elim) I (.cons rfl (.cons rx .nil)) q) (fun r s2 hv => ?_) fun _ _ z => z)
  obtain ⟨v, H2, I2, rv, b, rfl, q2⟩ := hv
  obtain rfl : r = Value.bool b := rv
  exact wpAny_truthy_bool ⟨.bl b, H2, I2, rfl, q2⟩
end
end Mz
set_option Elab.async false
set_option linter.all false
set_option maxRecDepth 100000
set_option maxHeartbeats 4000000
/-! == and != of two tuples (dict, int), == of two dicts of ints: whichever way it goes -/
namespace Mz
open PySem PySem.Spec PyProof.Rows L2
open PySem.SeqAt (EqIn)
open PySem.AutoSeq1 (wpAny_loadPart')
section
variable {prog : Program} {w : World}
theorem tup2_ne (l b : Addr) (u1 u2 w1 w2 : Value) (n n2 : Nat) (dd dd2 : Option Addr) (sl sl2 : Array (Option Value)) (e1 e2 : Bool) :
    MeetsIn prog w (Builtin.«tuple.__ne__» ⟨[.ref l, .ref b], []⟩)
      (fun A R s => s.heap.get? l = some { cls := .type "tuple", dict := dd, data := .seq #[u1, u2] n, slots := sl } ∧ s.heap.get? b = some { cls := .type "tuple", dict := dd2, data := .seq #[w1, w2] n2, slots := sl2 } ∧
        EqIn prog w A.in1 s u1 w1 e1 ∧ EqIn prog w A.in1 s u2 w2 e2 ∧ R (.ok (.ret (.bool (!(e1 && e2))))) s) :=
  .of_wp fun A R s h => by
    obtain ⟨hp, g, d, tk, os⟩ := s
    obtain ⟨hl, hb, h1, h2, h⟩ := h
    have f2 := AutoSeq1.sub_tuple_tuple
    have k1 : ∀ (E : Value → Shared → Prop) (Q : Bool → Shared → Prop), Q e1 ⟨hp, g, d, tk, os⟩ → wpAny (model prog w) A.in1 (eqBool u1 w1) Q E ⟨hp, g, d, tk, os⟩ := h1
    have k2 : ∀ (E : Value → Shared → Prop) (Q : Bool → Shared → Prop), Q e2 ⟨hp, g, d, tk, os⟩ → wpAny (model prog w) A.in1 (eqBool u2 w2) Q E ⟨hp, g, d, tk, os⟩ := h2
    cases e1 with
    | false =>
      wp_walk using wpAny_loadPart' hl, wpAny_loadPart' hb, k1 _ _
      exact ⟨_, rfl, h⟩
    | true =>
      cases e2 with
      | false =>
        wp_walk using wpAny_loadPart' hl, wpAny_loadPart' hb, k1 _ _, k2 _ _
        exact ⟨_, rfl, h⟩
      | true =>
        wp_walk using wpAny_loadPart' hl, wpAny_loadPart' hb, k1 _ _, k2 _ _
        exact ⟨_, rfl, h⟩
end
/-- the dicts hold the same -/
def eqDV (ks ls : List (Key × V)) : Bool := (ks.length == ls.length) && ks.all fun p => decide (valV ls p.1 = some p.2)
def AllI (ks : List (Key × V)) : Prop := ∀ p ∈ ks, ∃ n, p.2 = V.int n
theorem valV_mem {ks : List (Key × V)} {k : Key} {v : V} (h : valV ks k = some v) : ∃ p ∈ ks, p.1 = k ∧ p.2 = v := by
  unfold valV at h
  cases e : ks.find? fun kv => decide (kv.1 = k) with
  | none =>
    rw [e] at h
    cases h
  | some p =>
    rw [e] at h
    exact ⟨p, List.mem_of_find?_eq_some e, of_decide_eq_true (by simpa using List.find?_some e), Option.some.inj h⟩
theorem valV_self : ∀ {ks : List (Key × V)}, (ks.map (·.1)).Nodup → ∀ p ∈ ks, valV ks p.1 = some p.2
  | q :: r, nd, p, hp => by
    rw [List.map_cons, List.nodup_cons] at nd
    rcases List.mem_cons.mp hp with rfl | hp
    · exact valV_pos rfl
    · rw [valV_neg fun e => nd.1 (by rw [e]; exact List.mem_map_of_mem hp)]
      exact valV_self nd.2 p hp
theorem eqDV_self {ks : List (Key × V)} (nd : (ks.map (·.1)).Nodup) : eqDV ks ks = true := by
  unfold eqDV
  rw [beq_self_eq_true, Bool.true_and, List.all_eq_true]
  exact fun p hp => decide_eq_true (valV_self nd p hp)
section
variable {X : Cx} {pins : List (Addr × Obj)} {σ : L2.St} {H : Hp} {s : Shared}
theorem hits_ints {prog : Program} {w : World} {A : Around} {ls : List (Key × V)} {vb : List (Key × Value)} (rb : KV ls vb) (il : AllI ls) {ks : List (Key × V)} {va : List (Key × Value)} (ra : KV ks va) :
    AllI ks → PySem.W.KeqHitsIn prog w A s vb va (ks.all fun p => decide (valV ls p.1 = some p.2)) := by
  unfold KV at ra
  induction ra with
  | nil => exact fun _ => .nil
  | @cons p q ps qs h t ih =>
    intro hi
    obtain ⟨h1, h2⟩ := h
    obtain ⟨key, v⟩ := q
    have hk : p.1 = key := h1
    obtain ⟨n, en⟩ := hi p List.mem_cons_self
    have h2 : RelV p.2 v := h2
    rw [en] at h2
    obtain ⟨t1, rfl⟩ := h2
    have rr := rb.val p.1
    rw [List.all_cons]
    cases e : valV ls p.1 with
    | none =>
      rw [e] at rr
      rw [decide_eq_false (fun x => nomatch x), Bool.false_and]
      refine .miss ?_
      rw [← hk]
      cases x : valueAt vb p.1 with
      | none => rfl
      | some y =>
        rw [x] at rr
        exact absurd rr (fun z => nomatch z)
    | some u =>
      rw [e] at rr
      obtain ⟨y, hy, ry⟩ := RelO.some_of rr
      obtain ⟨m, em⟩ : ∃ m, u = .int m := by
        obtain ⟨q, hq, _, e2⟩ := valV_mem e
        obtain ⟨m, em⟩ := il q hq
        exact ⟨m, by rw [← e2, em]⟩
      subst em
      obtain ⟨t2, rfl⟩ := ry
      have hd : decide (some (V.int m) = some p.2) = (n == m) := by
        rw [en]
        by_cases x : m = n
        · rw [x]
          simp
        · rw [decide_eq_false (fun z => x (V.int.inj (Option.some.inj z)))]
          exact (beq_false_of_ne fun z => x z.symm).symm
      rw [hd]
      exact .hit (by rw [← hk]; exact hy) ((SeqAt.EqAt.int_int _ _ _ _).inModel prog w) (ih fun z hz => hi z (List.mem_cons_of_mem _ hz))
theorem dict_eqIn (I : Inv X pins σ H s) {A : Around} (hu : A.units + 1 < cLine) {a b : Addr} {ks ls : List (Key × V)} (ea : H a = some (.dK ks)) (eb : H b = some (.dK ls)) (ia : AllI ks) (ib : AllI ls) (nd : (ks.map (·.1)).Nodup) :
    EqIn X.prog X.w A s (.ref a) (.ref b) (eqDV ks ls) := by
  by_cases x : a = b
  · subst x
    rw [ea] at eb
    cases eb
    rw [eqDV_self nd]
    exact (SeqAt.EqAt.same _).inModel _ _
  · obtain ⟨_, ya, va, ra, da⟩ := (show ObjOk X.prog X.w H s.heap a (.dK ks) from I.hok a _ ea)
    obtain ⟨_, yb, vb, rb, db⟩ := (show ObjOk X.prog X.w H s.heap b (.dK ls) from I.hok b _ eb)
    refine SeqAt.EqIn.of_refs x fun E Q hq => PySem.W.keq_eqIn (knd := mixKind X.prog X.w) ya yb da db (by omega) (fun _ => hits_ints rb ib ra ia) ?_
    unfold eqDV at hq
    rw [ra.length, rb.length] at hq
    exact hq
def rEqDI : R2 := fun x y H Q => ∃ a b ks ls, x = .ref a ∧ y = .ref b ∧ H a = some (.dK ks) ∧ H b = some (.dK ls) ∧ AllI ks ∧ AllI ls ∧ Q (.bl (eqDV ks ls)) H
theorem op_eqDI (hu : X.A.units + 1 < cLine) : OpR X (compareOp .Eq) rEqDI := by
  intro pins s σ H x y v u Q I rx ry h
  obtain ⟨a, b, ks, ls, rfl, rfl, ea, eb, ia, ib, q⟩ := h
  obtain rfl : v = Value.ref a := rx
  obtain rfl : u = Value.ref b := ry
  obtain ⟨_, ya, va, ra, da⟩ := (show ObjOk X.prog X.w H s.heap a (.dK ks) from I.hok a _ ea)
  obtain ⟨_, yb, vb, rb, db⟩ := (show ObjOk X.prog X.w H s.heap b (.dK ls) from I.hok b _ eb)
  refine PySem.W.keq_eqIn (knd := mixKind X.prog X.w) ya yb da db (by omega) (fun _ => hits_ints rb ib ra ia) ⟨.bl (eqDV ks ls), H, I, ?_, q⟩
  show Value.bool _ = Value.bool _
  unfold eqDV
  rw [ra.length, rb.length]
def rTD (f : Bool → Bool) : R2 := fun x y H Q => ∃ a b d e ks ls i j, x = .ref a ∧ y = .ref b ∧ H a = some (.tup [.ref d, .int i]) ∧ H b = some (.tup [.ref e, .int j]) ∧ H d = some (.dK ks) ∧ H e = some (.dK ls) ∧ AllI ks ∧ AllI ls ∧ (ks.map (·.1)).Nodup ∧ Q (.bl (f (eqDV ks ls && decide (i = j)))) H
theorem int_deq {i j : Int} : (i == j) = decide (i = j) := rfl
theorem op_eqTD (hu : X.A.units + 64 < cLine) : OpR X (compareOp .Eq) (rTD fun b => b) := by
  intro pins s σ H x y v u Q I rx ry h
  obtain ⟨a, b, d, e, ks, ls, i, j, rfl, rfl, ha, hb, hd, he, ia, ib, nd, q⟩ := h
  obtain rfl : v = Value.ref a := rx
  obtain rfl : u = Value.ref b := ry
  obtain ⟨us, r1, p1, _⟩ := I.tuple (SqT.of ha)
  obtain ⟨ws, r2, p2, _⟩ := I.tuple (SqT.of hb)
  obtain ⟨x1, x2, rfl, e1, ⟨t1, rfl⟩⟩ := vals2 r1
  obtain ⟨y1, y2, rfl, e2, ⟨t2, rfl⟩⟩ := vals2 r2
  obtain rfl : x1 = Value.ref d := e1
  obtain rfl : y1 = Value.ref e := e2
  refine SeqAt.rcIn_tuples (e := fun n => if n = 0 then eqDV ks ls else (i == j)) p1 p2 (by omega) (fun n h1 h2 => ?_) ⟨.bl (eqDV ks ls && decide (i = j)), H, I, ?_, q⟩
  · match n, h1, h2 with
    | 0, _, _ => exact dict_eqIn I (by show X.A.units + 1 + 1 < cLine; omega) hd he ia ib nd
    | 1, _, _ => exact (SeqAt.EqAt.int_int _ _ _ _).inModel _ _
    | n + 2, h1, _ => exact absurd h1 (by simp)
  · show Value.bool _ = Value.bool _
    simp [List.range_succ]
    rfl
theorem op_neTD (hu : X.A.units + 64 < cLine) : OpR X (compareOp .NotEq) (rTD fun b => !b) := by
  intro pins s σ H x y v u Q I rx ry h
  obtain ⟨a, b, d, e, ks, ls, i, j, rfl, rfl, ha, hb, hd, he, ia, ib, nd, q⟩ := h
  obtain rfl : v = Value.ref a := rx
  obtain rfl : u = Value.ref b := ry
  obtain ⟨us, r1, p1, _⟩ := I.tuple (SqT.of ha)
  obtain ⟨ws, r2, p2, _⟩ := I.tuple (SqT.of hb)
  obtain ⟨x1, x2, rfl, e1, ⟨t1, rfl⟩⟩ := vals2 r1
  obtain ⟨y1, y2, rfl, e2, ⟨t2, rfl⟩⟩ := vals2 r2
  obtain rfl : x1 = Value.ref d := e1
  obtain rfl : y1 = Value.ref e := e2
  obtain ⟨⟨cls, dd, data, sl⟩, ho, hc, n, hdt⟩ := id p1
  obtain ⟨⟨cls2, dd2, data2, sl2⟩, ho2, hc2, n2, hdt2⟩ := id p2
  simp only at hc hdt hc2 hdt2
  subst hc hdt hc2 hdt2
  refine PySem.W.cmp_ofNotEq (wpAny_richCompare_same_room (T := "tuple") (op := .NotEq) ⟨_, ho, rfl⟩ ⟨_, ho2, rfl⟩ F.slot_tuple_ne (call_meetsIn F.slot_tuple_ne ⟨_, ho, rfl⟩ F.entry_tuple_ne (F.args_tuple_ne_2 _ _) (tup2_ne a b _ _ _ _ n n2 dd dd2 sl sl2 (eqDV ks ls) (i == j))
    ⟨ho, ho2, dict_eqIn I (by show X.A.units + 1 + 1 < cLine; omega) hd he ia ib nd, (SeqAt.EqAt.int_int _ _ _ _).inModel _ _, (show Value.bool _ ≠ Value.notImplemented ∧ _ from ⟨(fun x => nomatch x), .bl (!(eqDV ks ls && decide (i = j))), H, I, rfl, q⟩)⟩) (by omega))
end
end Mz
set_option Elab.async false
set_option linter.all false
set_option maxRecDepth 100000
set_option maxHeartbeats 4000000
/-! sets over any kind of keys that keep what a walk wants; set comprehensions and sorted of texts -/
namespace Mz
open PySem PySem.Spec PyProof.Rows L2
/-- the values of a key kind, and the key that a value has -/
structure KeyIn {P : Program} {w : World} {α : Type} [DecidableEq α] (κ : PySem.KeyKind P w α) (ok : Value → Prop) (rd : Value → α) : Prop where
  self : ∀ v, ok v → κ.is (rd v) v = true
  scan : ∀ v, ok v → v.scannable = true
section
variable {P : Program} {w : World} {α : Type} [DecidableEq α]
/-- the set at a: which keys are in it, how many -/
def SetG (κ : PySem.KeyKind P w α) (ok : Value → Prop) (rd : Value → α) (h : Heap) (a : Addr) (S : α → Bool) (n : Nat) : Prop :=
  ∃ (ob : Obj) (ents : Array (Int × Value)) (age : Nat) (tab : SetTable), h.get? a = some ob ∧ ob.ExactSet ∧ ob.data = .set ents age tab ∧ (∀ e ∈ ents.toList, ok e.2 ∧ e.1 = κ.hash (rd e.2)) ∧
    (ents.toList.map fun e => rd e.2).Nodup ∧ (∀ k, S k = true ↔ k ∈ ents.toList.map fun e => rd e.2) ∧ ents.size < scanBound ∧ tab.fits ents.size = true ∧ ents.size = n ∧ Ris tab.place.toList ∧
    (w.params.followText "set-order" = true ∨ tab.led = true)
variable {κ : PySem.KeyKind P w α} {ok : Value → Prop} {rd : Value → α}
theorem SetG.at {h h' : Heap} {a : Addr} {S : α → Bool} {n : Nat} (R : SetG κ ok rd h a S n) (keep : ∀ o, h.get? a = some o → h'.get? a = some o) : SetG κ ok rd h' a S n := by
  obtain ⟨ob, ents, age, tab, hob, more⟩ := R
  exact ⟨ob, ents, age, tab, keep ob hob, more⟩
theorem elems_in (k : KeyIn κ ok rd) {l : List (Int × Value)} (g : ∀ e ∈ l, ok e.2 ∧ e.1 = κ.hash (rd e.2)) : ElemsOf κ l :=
  fun e he => ⟨⟨rd e.2, k.self _ (g e he).1, (g e he).2⟩, k.scan _ (g e he).1⟩
theorem mem_in (ki : KeyIn κ ok rd) {l : List (Int × Value)} (g : ∀ e ∈ l, ok e.2 ∧ e.1 = κ.hash (rd e.2)) (k : α) : (k ∈ l.map fun e => rd e.2) ↔ ∃ e ∈ l, κ.is k e.2 = true := by
  constructor
  · intro h
    obtain ⟨e, he, rfl⟩ := List.mem_map.mp h
    exact ⟨e, he, ki.self _ (g e he).1⟩
  · rintro ⟨e, he, hk⟩
    exact List.mem_map.mpr ⟨e, he, κ.inj e.2 _ _ (ki.self _ (g e he).1) hk⟩
theorem SetG.setOf (ki : KeyIn κ ok rd) {h : Heap} {a : Addr} {S : α → Bool} {n : Nat} (R : SetG κ ok rd h a S n) : h.SetOf κ a S n := by
  obtain ⟨ob, ents, age, tab, h1, h2, h3, g, _, hm, h4, h5, h6, _⟩ := R
  exact ⟨ob, ents, age, tab, h1, h2, h3, elems_in ki g, fun k => (hm k).trans (mem_in ki g k), h4, h5, h6⟩
/-- a new set -/
theorem setG_fresh {h : Heap} : SetG κ ok rd (h.push { cls := .type "set", dict := none, data := .set #[] 0 (.fresh 0 0 (!w.params.followText "set-order")) }) h.objs.size (fun _ => false) 0 := by
  refine ⟨_, #[], 0, _, Heap.get?_push_size _ rfl, ⟨rfl, rfl, rfl⟩, rfl, (fun e he => absurd he (by simp)), by simp, fun k => by simp, by decide, by rfl, rfl, List.Pairwise.nil, ?_⟩
  show _ ∨ (!w.params.followText "set-order") = true
  cases w.params.followText "set-order" <;> simp
variable {A : Around} {E : Value → Shared → Prop} {s : Shared} {a : Addr} {S : α → Bool} {n : Nat}
theorem stored {h : Heap} {ob : Obj} {e1 e2 : Array (Int × Value)} {age : Nat} {t1 t2 : SetTable} (hob : h.get? a = some ob) (hd : ob.data = .set e1 age t1) : (h.update a (Obj.putSet e2 t2)).get? a = some { ob with data := .set e2 (age + 1) t2 } :=
  PpSet.storeB_at hob hd
/-- what stands behind an entry that was laid: stored, and laid anew where the table is too full -/
theorem laid_tail {say : Bool → Sem Unit} (hsay : ∀ (b : Bool) (s1 : Shared) (Q1 : Unit → Shared → Prop), Q1 () s1 → wpAny (model P w) A (say b) Q1 E s1) {ob : Obj} {old : Array (Int × Value)} {age : Nat} {told : SetTable} (hob : s.heap.get? a = some ob)
    (hex : ob.ExactSet) (hd : ob.data = .set old age told) {ents : Array (Int × Value)} {tab : SetTable} {S2 : α → Bool} (g : ∀ e ∈ ents.toList, ok e.2 ∧ e.1 = κ.hash (rd e.2)) (nd : (ents.toList.map fun e => rd e.2).Nodup)
    (hm : ∀ k, S2 k = true ↔ k ∈ ents.toList.map fun e => rd e.2) (hb : ents.size < scanBound) (hf : tab.fits ents.size = true) (hr : Ris tab.place.toList) (hl : w.params.followText "set-order" = true ∨ tab.led = true) {dummy : Bool} {R : Option Bool → Shared → Prop}
    (hR : ∀ h2, Heap.SameBut a s.heap h2 → SetG κ ok rd h2 a S2 ents.size → R (some true) { s with heap := h2 }) :
    wpAny (model P w) A (do
        storeSet a ents tab
        if (!dummy && tab.tooFull) = true then do
            say (relayAll tab ents (SetTable.grown ents.size)).2.2
            storeSet a (relayAll tab ents (SetTable.grown ents.size)).1 (relayAll tab ents (SetTable.grown ents.size)).2.1
            pure (some true)
          else pure (some true)) R E s := by
  have once := Heap.SameBut.update s.heap a (Obj.putSet ents tab)
  have put1 := stored (e2 := ents) (t2 := tab) hob hd
  refine wpAny_bind (wpAny_storeSet_of hob hd ?_ (fits_of_scanBound hb))
  by_cases full : (!dummy && tab.tooFull) = true
  · rw [if_pos full]
    have q1 := relayAll_perm tab ents (SetTable.grown ents.size)
    have q2 := relayAll_fits tab ents (SetTable.grown ents.size)
    have q3 := relayAll_ris tab ents (SetTable.grown ents.size)
    have q4 := relayAll_led tab ents (SetTable.grown ents.size)
    generalize relayAll tab ents (SetTable.grown ents.size) = T at q1 q2 q3 q4 ⊢
    have size2 : T.1.size = ents.size := by rw [← Array.length_toList, q1.length_eq, Array.length_toList]
    refine wpAny_bind (hsay _ _ _ (wpAny_bind (wpAny_storeSet_of put1 rfl (wpAny_pure (hR _ (once.trans (Heap.SameBut.update _ a _)) ?_)) (fits_of_scanBound (by rw [size2]; exact hb)))))
    refine ⟨_, T.1, _, T.2.1, stored (e2 := T.1) (t2 := T.2.1) put1 rfl, hex, rfl, fun e he => g e (q1.mem_iff.mp he), ((q1.map fun e => rd e.2).nodup_iff).mpr nd, fun k => (hm k).trans ((q1.map fun e => rd e.2).mem_iff).symm, by rw [size2]; exact hb, q2, size2, q3, ?_⟩
    rw [q4]
    exact hl
  · rw [if_neg full]
    exact wpAny_pure (hR _ once ⟨_, ents, _, tab, put1, hex, rfl, g, nd, hm, hb, hf, rfl, hr, hl⟩)
/-- an entry laid into the set -/
theorem setG_add_hashed (ki : KeyIn κ ok rd) {v : Value} (hv : ok v) {Q : Bool → Shared → Prop} (R : SetG κ ok rd s.heap a S n) (room : n + 1 < scanBound)
    (hQ : ∀ h2, Heap.SameBut a s.heap h2 → SetG κ ok rd h2 a (fun j => S j || decide (j = rd v)) (if S (rd v) = true then n else n + 1) → Q (!S (rd v)) { s with heap := h2 }) : wpAny (model P w) A (setAddHashed a v (κ.hash (rd v))) Q E s := by
  obtain ⟨ob, ents, age, tab, hob, hex, hd, g, nd, hm, hb, hf, hn, hr, hl⟩ := R
  have isv : κ.is (rd v) v = true := ki.self v hv
  have sv : v.scannable = true := ki.scan v hv
  have els : ElemsOf κ ents.toList := elems_in ki g
  unfold setAddHashed setAddHashedIn
  refine wpAny_holding (wpAny_bind (wpAny_setState_of hob hd hf ?_))
  dsimp only
  rw [byScan_of sv hb els]
  simp only [↓reduceIte]
  unfold setAddByScan
  refine wpAny_bind (wpAny_bind (wpAny_rule (wpAny_bind (wpAny_setScan_of isv hob hd hf els ?_))))
  cases hit : List.findIdx? (fun e => κ.is (rd v) e.2) ents.toList with
  | some j =>
    obtain ⟨lj, pj, _⟩ := List.findIdx?_eq_some_iff_getElem.mp hit
    have inS : S (rd v) = true := (hm _).2 ((mem_in ki g _).2 ⟨ents.toList[j], List.getElem_mem lj, pj⟩)
    have z := hQ s.heap (Heap.SameBut.refl a s.heap) ⟨ob, ents, age, tab, hob, hex, hd, g, nd, fun i => by
      rw [← hm i, Bool.or_eq_true, decide_eq_true_eq]
      exact ⟨fun q => q.elim id fun e => by rw [e]; exact inS, Or.inl⟩, hb, hf, by rw [if_pos inS]; exact hn, hr, hl⟩
    rw [inS] at z
    exact wpAny_pure (wpAny_pure z)
  | none =>
    dsimp only
    have out : rd v ∉ ents.toList.map fun e => rd e.2 := fun q => by
      obtain ⟨e, he, hk⟩ := (mem_in ki g _).1 q
      rw [List.findIdx?_eq_none_iff.mp hit e he] at hk
      exact Bool.false_ne_true hk
    have outS : S (rd v) = false := Bool.eq_false_iff.mpr fun q => out ((hm _).1 q)
    have q1 := layNew_perm tab ents (κ.hash (rd v)) v
    have q2 := layNew_fits tab ents (κ.hash (rd v)) v
    have q3 := layNew_ris tab ents (κ.hash (rd v)) v hr
    have q4 := layNew_led tab ents (κ.hash (rd v)) v
    generalize layNew tab ents (κ.hash (rd v)) v = T at q1 q2 q3 q4 ⊢
    obtain ⟨en2, tab2, dummy, gave⟩ := T
    dsimp only at q1 q2 q3 q4 ⊢
    rw [Array.toList_push] at q1
    have pc : en2.toList.Perm ((κ.hash (rd v), v) :: ents.toList) := q1.trans (List.perm_append_singleton _ _)
    have pk : (en2.toList.map fun e => rd e.2).Perm (rd v :: ents.toList.map fun e => rd e.2) := pc.map fun e => rd e.2
    have g2 : ∀ e ∈ en2.toList, ok e.2 ∧ e.1 = κ.hash (rd e.2) := fun e he => by
      rcases List.mem_cons.mp (pc.mem_iff.mp he) with rfl | q
      · exact ⟨hv, rfl⟩
      · exact g e q
    have nd2 : (en2.toList.map fun e => rd e.2).Nodup := pk.nodup_iff.mpr (List.nodup_cons.mpr ⟨out, nd⟩)
    have m2 : ∀ i, (S i || decide (i = rd v)) = true ↔ i ∈ en2.toList.map fun e => rd e.2 := fun i => by
      rw [pk.mem_iff, List.mem_cons, ← hm i, Bool.or_eq_true, decide_eq_true_eq]
      exact Or.comm
    have sz : en2.size = n + 1 := by rw [← Array.length_toList, pc.length_eq, List.length_cons, Array.length_toList, hn]
    have b2 : en2.size < scanBound := by rw [sz]; exact room
    have led2 : w.params.followText "set-order" = true ∨ tab2.led = true := by rw [q4]; exact hl
    have done : ∀ h2, Heap.SameBut a s.heap h2 → SetG κ ok rd h2 a (fun j => S j || decide (j = rd v)) en2.size → Q true { s with heap := h2 } := fun h2 sb r => by
      have z := hQ h2 sb
      rw [outS, if_neg Bool.false_ne_true, ← sz] at z
      exact z r
    have say : ∀ (b : Bool) (s1 : Shared) (Q1 : Unit → Shared → Prop), Q1 () s1 → wpAny (model P w) A (match b with | true => rule "set.scan.the-table-gave-way" | false => pure ()) Q1 E s1 := fun b s1 Q1 q => by
      cases b with
      | true => exact wpAny_rule q
      | false => exact wpAny_pure q
    refine wpAny_bind (say _ _ _ ?_)
    split
    · refine wpAny_bind ?_
      rw [hashByValue_scannable 8 sv]
      refine wpAny_pure (laid_tail ?_ hob hex hd g2 nd2 m2 b2 ?_ ?_ ?_ fun h2 sb r => ?_)
      · exact fun b s1 Q1 q => by cases b <;> first | exact wpAny_rule q | exact wpAny_pure q
      · first | exact q2 | (split <;> first | exact q2 | exact SetTable.fits_plain_off q2)
      · first | exact q3 | (split <;> exact q3)
      · first | exact led2 | (split <;> exact led2)
      · dsimp only
        exact wpAny_pure (done h2 sb r)
    · refine wpAny_bind (wpAny_pure ?_)
      simp only [↓reduceIte]
      refine laid_tail ?_ hob hex hd g2 nd2 m2 b2 q2 q3 led2 fun h2 sb r => ?_
      · exact fun b s1 Q1 q => by cases b <;> first | exact wpAny_rule q | exact wpAny_pure q
      · dsimp only
        exact wpAny_pure (done h2 sb r)
theorem setG_add (ki : KeyIn κ ok rd) {v : Value} (hv : ok v) {Q : Value → Shared → Prop} (R : SetG κ ok rd s.heap a S n) (room : n + 1 < scanBound)
    (hQ : ∀ h2, Heap.SameBut a s.heap h2 → SetG κ ok rd h2 a (fun j => S j || decide (j = rd v)) (if S (rd v) = true then n else n + 1) → Q .none { s with heap := h2, toks := s.toks + 1 }) :
    wpAny (model P w) A (call (.builtin "set.add") [.ref a, v]) Q E s := by
  refine wpAny_call_entry F.slot_set_add (R.setOf ki).typeIs F.entry_set_add ?_ (F.args_set_add_2 _ _)
  unfold Builtin.«set.add» Builtin.Frozenset.oneOther Builtin.Frozenset.addrOf
  simp only [List.isEmpty_nil, bind_assoc]
  refine wpAny_bind (wpAny_pure ?_)
  try dsimp only
  unfold setAdd
  refine wpAny_bind (wpAny_pure ?_)
  try dsimp only
  refine wpAny_bind (wpAny_holding (wpAny_bind (κ.pyHash (ki.self v hv) ?_)))
  refine setG_add_hashed ki hv (s := { s with toks := s.toks + 1 }) R room fun h2 sb r => ?_
  show wpAny _ _ (ret Value.none) _ _ _
  exact wpAny_pure ⟨_, rfl, hQ h2 sb r⟩
end
/-! ### sets of texts -/
def txtV : Value → Str
  | .str z _ => z
  | _ => Str.empty
def isTxt (v : Value) : Prop := ∃ z t, v = .str z t
theorem txt_in (P : Program) (w : World) : KeyIn (PySem.strKind P w) isTxt txtV :=
  ⟨fun v ⟨z, t, e⟩ => by rw [e]; exact PySem.strKind_is P w z t, fun v ⟨z, t, e⟩ => by rw [e]; rfl⟩
def SetS (P : Program) (w : World) (a : Addr) (S : Str → Bool) (n : Nat) : HO := .ext fun h => SetG (PySem.strKind P w) isTxt txtV h a S n
theorem setS_new {w : World} {P : Program} {H : Hp} {h : Heap} {a : Addr} {S : Str → Bool} {n : Nat} (R : SetG (PySem.strKind P w) isTxt txtV h a S n) : ObjOk P w H h a (SetS P w a S n) := by
  have ⟨ob, _, _, _, hob, _⟩ := R
  exact ⟨R, ⟨ob, hob⟩, fun h1 h2 p k => SetG.at p k⟩
theorem strs_txt : ∀ vs : List Value, (∀ v ∈ vs, isTxt v) → StrsAre vs (vs.map txtV)
  | [], _ => .nil
  | v :: r, h => by
    obtain ⟨z, t, e⟩ := h v (List.mem_cons_self ..)
    rw [e]
    exact .cons z t (strs_txt r fun u hu => h u (List.mem_cons_of_mem _ hu))
section
variable {X : Cx} {pins : List (Addr × Obj)} {σ : L2.St} {H : Hp} {s : Shared} {a : Addr} {S : Str → Bool} {n : Nat}
theorem setS_get (I : Inv X pins σ H s) (ha : H a = some (SetS X.prog X.w a S n)) : SetG (PySem.strKind X.prog X.w) isTxt txtV s.heap a S n := (I.hok a _ ha).1
theorem addS_ok {E : Value → Shared → Prop} {z : Str} {tk : Tok} {Q : Value → Shared → Prop} (I : Inv X pins σ H s) (ha : H a = some (SetS X.prog X.w a S n)) (room : n + 1 < scanBound)
    (h : ∀ s2, Inv X pins σ (upd H a (SetS X.prog X.w a (fun j => S j || decide (j = z)) (if S z = true then n else n + 1))) s2 → Q .none s2) : wpAny (model X.prog X.w) X.A (call (.builtin "set.add") [.ref a, .str z tk]) Q E s := by
  refine setG_add (txt_in X.prog X.w) ⟨z, tk, rfl⟩ (setS_get I ha) room fun h2 sb new => ?_
  have there : ∃ u, h2.get? a = some u := by
    have ⟨ob, _, _, _, hob, _⟩ := new
    exact ⟨ob, hob⟩
  exact h _ (I.write (e := a) (t' := s.toks + 1) (by rw [ha]; trivial) (.inl rfl) (fun b u hb hu => (sb.2 b hb).trans hu) there (setS_new new))
/-- sorted(a set of texts) -/
def rSortSet (P : Program) (w : World) : List V → Hp → VK → Prop := fun vs H Q => ∃ (a : Addr) (S : Str → Bool) (n : Nat), vs = [V.ref a] ∧ H a = some (SetS P w a S n) ∧ n < 64 ∧
  ∀ (ys : List Str) (p : Addr), sortedS ys = true → ys.Nodup → (∀ z, z ∈ ys ↔ S z = true) → ys.length = n → H p = none → Q (.ref p) (upd H p (.lst (ys.map V.str)))
theorem cr_sortSet (hc : X.calm = true) : CallR X (.builtin "sorted") (rSortSet X.prog X.w) := by
  intro pins s σ H vs us Q I r h
  obtain ⟨a, S, n, rfl, ha, h64, q⟩ := h
  rw [Vals.ref1 r]
  obtain ⟨ob, ents, age, tab, hob, hex, hd, g, nd, hm, hb, hf, hn, hr, hl⟩ := setS_get I ha
  refine Calls.call_function_entry kind_sorted plain_sorted entry_sorted (args_sorted1 _) ?_
  unfold Builtin.«sorted»
  refine wpAny_bind (m := checkCount "sorted" 1 1 _) (wpAny_pure ?_)
  refine wpAny_bind (collect_set (A := X.A.in1) (I.ok.hd hc) ⟨ob, hob, hex.1, hd⟩ hf hb hr hl fun s1 vals k1 big g1 o1 pm => ?_)
  have lenv : vals.length = n := by rw [pm.length_eq, List.length_map, Array.length_toList]; exact hn
  have hS : StrsAre vals (vals.map txtV) := strs_txt vals fun v hv => by
    obtain ⟨e, he, rfl⟩ := List.mem_map.mp (pm.mem_iff.mp hv)
    exact (g e he).1
  have pk : (vals.map txtV).Perm (ents.toList.map fun e => txtV e.2) := by
    have z := pm.map txtV
    rw [List.map_map] at z
    exact z
  refine wpAny_bind (wpAny_newList ?_ (by rw [lenv, sizeLine_eq]; omega))
  have hoL : (s1.heap.push (seqObj "list" vals.toArray 0)).get? s1.heap.objs.size = some (seqObj "list" vals.toArray 0) := Heap.get?_push_size _ rfl
  refine wpAny_bind (wpAny_holding (wpAny_call_entry slot_list_sort ⟨_, hoL, rfl⟩ entry_list_sort
    (list_sort_treeK strKind_oneLt hoL hS.keysOf (fun v1 v2 rest e => keyKind_strs (by rw [← e]; exact hS)) (by rw [lenv]; exact h64) fun st a1 a2 => ⟨_, rfl, ?_⟩) (args_list_sort _)))
  obtain ⟨ys, h1, h2, h3⟩ := sorted_out_str hS a1 a2
  obtain ⟨c, hc2⟩ := sortedHeap_at (vs := vals) (out := (arrOf st).map (·.2)) hoL
  have py : ys.Perm (ents.toList.map fun e => txtV e.2) := h2.trans pk
  have ly : ys.length = n := by rw [py.length_eq, List.length_map, Array.length_toList]; exact hn
  have kall : ∀ b u, s.heap.get? b = some u → (sortedHeap (s1.heap.push (seqObj "list" vals.toArray 0)) s1.heap.objs.size vals ((arrOf st).map (·.2))).get? b = some u := fun b u e => by
    have z := k1 b u e
    have lt := Heap.lt_size z
    rw [sortedHeap_old (Nat.ne_of_lt lt) (by rw [size_push']; exact Nat.lt_succ_of_lt lt)]
    exact Heap.get?_push_of_some _ z
  have hp : H s1.heap.objs.size = none := I.hok.fresh big
  have lenY : (ys.map V.str).length ≤ sizeLine := by rw [List.length_map, ly, sizeLine_eq]; omega
  generalize hs3 : ({ s1 with heap := sortedHeap (s1.heap.push (seqObj "list" vals.toArray 0)) s1.heap.objs.size vals ((arrOf st).map (·.2)) } : Shared) = s3
  have hh : s3.heap = sortedHeap (s1.heap.push (seqObj "list" vals.toArray 0)) s1.heap.objs.size vals ((arrOf st).map (·.2)) := by rw [← hs3]
  have gg : s3.gens = s.gens := by rw [← hs3]; exact g1
  have oo : s3.os = s.os := by rw [← hs3]; exact o1
  have J : Inv X pins σ (upd H s1.heap.objs.size (.lst (ys.map V.str))) { s with heap := s3.heap, gens := s3.gens, drawn := s3.drawn, toks := s3.toks } :=
    I.call (ch := []) (Un.laid (by rw [hh]; exact kall) big hp) (I.hok.laid (by rw [hh]; exact kall) big ⟨lenY, _, c, vals_of_strs h1, by rw [hh]; exact hc2⟩) (by rw [gg]; exact I.bare) (fun _ z => nomatch z)
  have es : s3 = { s with heap := s3.heap, gens := s3.gens, drawn := s3.drawn, toks := s3.toks } := by
    clear J hs3 hh gg
    cases s3
    cases s
    cases oo
    rfl
  refine wpAny_pure ⟨_, rfl, ?_⟩
  show EP X pins σ Q (.ref s1.heap.objs.size) _
  have fin : EP X pins σ Q (.ref s1.heap.objs.size) s3 := by
    rw [es]
    exact ⟨.ref _, _, J, rfl, q ys _ h3 (py.nodup_iff.mpr nd) (fun z => by rw [py.mem_iff, ← hm z]) ly hp⟩
  exact fin
/-! ### a set comprehension of texts -/
def tScS (P : Program) (w : World) (wi : TI) (g : TG) (tt : TT) (te : TE) (vs : List Nat) : TE := fun σ H Q => wi σ H fun J H1 => ∀ D, H1 D = none → ∃ W : Nat → Nat → Hp → Prop, (∃ m, W 0 m (upd H1 D (SetS P w D (fun _ => false) 0))) ∧ ∀ i m H, W i m H →
  (J.stop i H ∧ Q (.ref D) H) ∨ (J.go i H ∧ ∃ Nx : Hp → Prop, (∀ H', Nx H' → ∃ m', m' < m ∧ W (i + 1) m' H') ∧ ∀ x H', J.yld i H x H' → g x (wipe σ vs) H' fun σ2 H2 => wipe σ2 vs = wipe σ vs ∧ tt σ2 H2 fun b H3 =>
    if b = true then te σ2 H3 fun y H4 => ∃ (z : Str) (S : Str → Bool) (n : Nat), y = .str z ∧ H4 D = some (SetS P w D S n) ∧ n + 1 < scanBound ∧ Nx (upd H4 D (SetS P w D (fun j => S j || decide (j = z)) (if S z = true then n else n + 1))) else Nx H3)
theorem pe_scS {elt tg iter : Expr} {ifs : List Expr} {scope : Scope} {own : List (PySem.Str × Nat)} {pos : Pos} {wi : TI} {g : TG} {tt : TT} {te : TE} (hc : X.calm = true) (hN : X.N.Nodup) (hi : PI X tg iter wi) (ok : BlkOk X.N X.env.scope scope own)
    (hg : ∀ (s : Shared) (H : Hp) (C : Addr) (cl : List (PySem.Str × Addr)) (fp : List Addr), PG (X.blk s H scope (compEnvC scope cl C X.env) fp) tg g) (ht : ∀ (s : Shared) (H : Hp) (C : Addr) (cl : List (PySem.Str × Addr)) (fp : List Addr), PTs (X.blk s H scope (compEnvC scope cl C X.env) fp) ifs tt)
    (he : ∀ (s : Shared) (H : Hp) (C : Addr) (cl : List (PySem.Str × Addr)) (fp : List Addr), PE (X.blk s H scope (compEnvC scope cl C X.env) fp) elt te) (hs : ∀ x, foldedSetIterable iter X.env x = pure x := by intro _; rfl) :
    PE X (.SetComp elt [⟨tg, iter, ifs, 0⟩] scope pos) (tScS X.prog X.w wi g tt te (own.map (·.2))) := by
  refine ⟨fun pins s σ H Q I h => ?_⟩
  rw [PpSet.eval_SetComp]
  have closed : ∀ y ∈ scope.names, y.2 = .free → ∃ c, X.env.cells.lookup y.1 = some c := fun y hy e => (ok.free y hy e).elim (fun k => I.ok.has _ (.inl k)) fun k => I.ok.has _ (.inr k)
  refine wpAny_comprehension_free (use := none) rfl hs (closure_ok closed) ok.kind (fun y hy e => by rw [ok.uniq y hy, e]) (thn (hi.run pins s σ H _ I h) fun xv s1 hx => thn hx fun itv s2 h2 => ?_)
  obtain ⟨it, fp, tn, J, H2, e, I2, T, st2, f2, q⟩ := h2
  subst e
  refine PpSet.newSet_ok (newEnv_comp ?_)
  generalize hD : s2.heap.objs.size = D
  obtain ⟨W, ⟨m0, w0⟩, turn⟩ := q D (I2.hok.fresh (Nat.le_of_eq hD))
  generalize hs3 : ({ s2 with heap := s2.heap.push { cls := .type "set", dict := none, data := .set #[] 0 (.fresh 0 0 (!X.w.params.followText "set-order")) } } : Shared) = s3
  have h3 : s3.heap = s2.heap.push { cls := .type "set", dict := none, data := .set #[] 0 (.fresh 0 0 (!X.w.params.followText "set-order")) } := by rw [← hs3]
  generalize hH3 : upd H2 D (SetS X.prog X.w D (fun _ => false) 0) = H3 at w0
  have I3 : Inv X pins σ H3 s3 := by
    rw [← hH3, ← hs3]
    refine I2.laid (t' := s2.toks) (fun b o e => Heap.get?_push_of_some _ e) (Nat.le_of_eq hD) ?_
    rw [← hD]
    exact setS_new setG_fresh
  have f3 : ∀ b ∈ fp, FpOk X pins H3 b ∧ b < s3.heap.objs.size := fun b hb => by
    have lt : b < s2.heap.objs.size := by
      obtain ⟨o, e, _⟩ := T.obj _ _ st2 b hb
      exact Heap.lt_size e
    refine ⟨⟨?_, (f2 b hb).2⟩, by rw [h3, Heap.size_push]; exact Nat.lt_succ_of_lt lt⟩
    rw [← hH3, upd_ne (by rw [← hD]; exact Nat.ne_of_lt lt)]
    exact (f2 b hb).1
  have I4 := block_start I3 ok hN f3
  have pg := hg s3 H3 s3.heap.objs.size (cellsFrom (s3.heap.objs.size + 1) scope.names (cloFrom X.env.cells scope.names [])) fp
  have pt := ht s3 H3 s3.heap.objs.size (cellsFrom (s3.heap.objs.size + 1) scope.names (cloFrom X.env.cells scope.names [])) fp
  have pe := he s3 H3 s3.heap.objs.size (cellsFrom (s3.heap.objs.size + 1) scope.names (cloFrom X.env.cells scope.names [])) fp
  have nfp : ∀ b ∈ fp, H3 b = none := fun b hb => (f3 b hb).1.1
  show codeAny _ _ (.compStart (.SetComp elt [⟨tg, iter, ifs, 0⟩] scope pos) 0 (.ref it) (.ref D) (compEnvC scope (cellsFrom (s3.heap.objs.size + 1) scope.names (cloFrom X.env.cells scope.names [])) s3.heap.objs.size X.env))
    (compPost (model X.prog X.w) X.A X.xe none (EP X pins σ Q) (.ref D) s3.heap.objs.size) { s3 with heap := pushCells (s3.heap.push { cls := .type "dict", data := .dict #[] }) scope.names }
  generalize hce : compEnvC scope (cellsFrom (s3.heap.objs.size + 1) scope.names (cloFrom X.env.cells scope.names [])) s3.heap.objs.size X.env = ce at I4 pg pt pe ⊢
  have locE : ce.locals = s3.heap.objs.size := by
    rw [← hce]
    rfl
  generalize hs4 : ({ s3 with heap := pushCells (s3.heap.push { cls := .type "dict", data := .dict #[] }) scope.names } : Shared) = s4 at I4 ⊢
  have st4 : tn 0 s4.heap := by
    refine T.keep _ s3.heap s4.heap (T.keep _ s2.heap s3.heap st2 fun b _ o e => ?_) fun b _ o e => ?_
    · rw [h3]
      exact Heap.get?_push_of_some _ e
    · rw [← hs4]
      exact pushCells_keeps _ _ _ _ (Heap.get?_push_of_some _ e)
  have walked : ∀ {σ1 : L2.St} {H1 : Hp} {s1 : Shared}, Inv (X.blk s3 H3 scope ce fp) [] σ1 H1 s1 → (∀ b ∈ fp, H1 b = none) → ∀ b ∈ fp, FpOk (X.blk s3 H3 scope ce fp) [] H1 b := fun {σ1 H1 s1} J1 free b hb =>
    ⟨free b hb, (J1.ok.exf b hb).1, J1.ok.exfs b hb, .inl hb, fun x c e => (J1.ok.exf b hb).2 x c e, fun y hy => absurd hy (by simp)⟩
  have loop : codeAny (model X.prog X.w) X.A (.compLoop (.SetComp elt [⟨tg, iter, ifs, 0⟩] scope pos) 0 (.ref it) (.ref D) ce) (compPost (model X.prog X.w) X.A X.xe none (EP X pins σ Q) (.ref D) s3.heap.objs.size) s4 := by
    refine PpSet.compLoopS_any (fun m s5 => ∃ i H5, Inv (X.blk s3 H3 scope ce fp) [] (wipe σ (own.map (·.2))) H5 s5 ∧ tn i s5.heap ∧ (∀ b ∈ fp, H5 b = none) ∧ W i m H5) ?_ m0 ⟨0, H3, I4, st4, nfp, w0⟩
    rintro m s5 ⟨i, H5, I5, st5, n5, w5⟩
    rcases turn i m H5 w5 with ⟨stop, qd⟩ | ⟨go, Nx, less, step⟩
    · refine thnF (T.done (X.blk s3 H3 scope ce fp) rfl rfl rfl hc i [] s5 _ H5 (fun _ _ => False) I5 (walked I5 n5) st5 stop) fun r s6 ⟨er, I6⟩ => ?_
      rw [er]
      have I7 : Inv X pins σ H5 s6 := I3.call' (ch := fp) I6.os I6.base I6.hok I6.bare fun b hb => ⟨(f3 b hb).1.2.2.2.1, (f3 b hb).1.2.1, (f3 b hb).1.2.2.2.2.1, (f3 b hb).1.2.2.2.2.2⟩
      have free : H5 s3.heap.objs.size = none := by
        rw [← locE]
        exact I6.free
      obtain ⟨names, hns, _⟩ := I6.loc
      have hns : s6.heap.Ns ce.locals names := hns
      rw [locE] at hns
      obtain ⟨p0, p1, p2, p3, p4, p5⟩ := I3.fpOk (Nat.le_refl _) free
      exact ⟨names, hns, fun h9 sb => ⟨.ref D, H5, I7.turned (t' := s6.toks) (fun b o hb e => (sb.2 b hb).trans e) p0 p1 p3 p4 p5, rfl, qd⟩⟩
    · refine thnF (T.item (X.blk s3 H3 scope ce fp) rfl rfl rfl hc i [] s5 _ H5 (fun _ _ => False) I5 (walked I5 n5) st5 go) fun r s6 ⟨u, er, h6⟩ => ?_
      rw [er]
      refine thnF h6 fun _ s7 ⟨x, H7, I7, r7, y7, st7, n7⟩ => ?_
      refine thnF (pg.run _ s7 _ H7 x u _ (I7.pinned (walked I7 n7) (T.obj _ _ st7)) r7 (step x H7 y7)) fun _ s8 ⟨σ8, H8, I8, wip, q8⟩ => ?_
      refine thnF (pt.run _ s8 σ8 H8 _ I8 q8) fun b s9 ⟨H9, I9, q9⟩ => ?_
      have turned : ∀ {sE : Shared} {HE : Hp}, Inv (X.blk s3 H3 scope ce fp) ([] ++ pinsAt fp s7.heap) σ8 HE sE → Nx HE → ∃ m2, m2 < m ∧ ∃ i2 H2, Inv (X.blk s3 H3 scope ce fp) [] (wipe σ (own.map (·.2))) H2 sE ∧ tn i2 sE.heap ∧ (∀ b ∈ fp, H2 b = none) ∧ W i2 m2 H2 := fun {sE HE} JE nx => by
        obtain ⟨m2, lt, wE⟩ := less HE nx
        have stay : ∀ b ∈ fp, ∀ o, s7.heap.get? b = some o → sE.heap.get? b = some o ∧ HE b = none := fun b hb o e =>
          have z := JE.pin (b, o) (List.mem_append_right _ (List.mem_append_right _ (mem_pinsAt hb e)))
          ⟨z.1, z.2.1⟩
        refine ⟨m2, lt, i + 1, HE, (JE.unpinned (pins := [])).weak (by rw [← wip, wipe_length]) (fun j v e => ?_), T.keep _ _ _ st7 fun b hb o e => (stay b hb o e).1, fun b hb => ?_, wE⟩
        · rw [← wip] at e
          exact (wipe_some e).1
        · obtain ⟨o, e, _⟩ := T.obj _ _ st7 b hb
          exact (stay b hb o e).2
      cases b with
      | false =>
        rw [if_neg Bool.false_ne_true] at q9 ⊢
        exact turned I9 q9
      | true =>
        rw [if_pos rfl] at q9 ⊢
        refine thnF (pe.run _ s9 σ8 H9 _ I9 q9) fun yv s10 ⟨y, H10, I10, r10, z, S0, k0, ey, at10, room, nx⟩ => ?_
        subst ey
        obtain ⟨tk, rfl⟩ := r10
        exact addS_ok (X := X.blk s3 H3 scope ce fp) I10 at10 room fun s11 I11 => turned I11 nx
  exact PpSet.codeAny_compStart_set loop (T.self X.A 0 _ _ _ st4 loop)
end
/-- the reading of such a comprehension over what is walked -/
theorem scS_it {P : Program} {w : World} {J : It} {k : Nat} {G : Hp → Prop} {Y : Nat → Hp → V → Hp → Prop} (wk : L2.Walk J k G Y) {g : TG} {tt : TT} {te : TE} {vs : List Nat} {σ : L2.St} {H1 : Hp} {D : Addr} {Qd : Hp → Prop} (Pv : Nat → Hp → Prop)
    (h0 : Pv 0 (upd H1 D (SetS P w D (fun _ => false) 0))) (hG : ∀ i H, i ≤ k → Pv i H → G H)
    (hs : ∀ i x H H2, i < k → Pv i H → Y i H x H2 → g x (wipe σ vs) H2 fun σ2 H3 => wipe σ2 vs = wipe σ vs ∧ tt σ2 H3 fun b H4 =>
      if b = true then te σ2 H4 fun y H5 => ∃ (z : Str) (S : Str → Bool) (n : Nat), y = .str z ∧ H5 D = some (SetS P w D S n) ∧ n + 1 < scanBound ∧ Pv (i + 1) (upd H5 D (SetS P w D (fun j => S j || decide (j = z)) (if S z = true then n else n + 1))) else Pv (i + 1) H4)
    (hd : ∀ H, Pv k H → Qd H) : ∃ W : Nat → Nat → Hp → Prop, (∃ m, W 0 m (upd H1 D (SetS P w D (fun _ => false) 0))) ∧ ∀ i m H, W i m H →
      (J.stop i H ∧ Qd H) ∨ (J.go i H ∧ ∃ Nx : Hp → Prop, (∀ H', Nx H' → ∃ m', m' < m ∧ W (i + 1) m' H') ∧ ∀ x H', J.yld i H x H' → g x (wipe σ vs) H' fun σ2 H2 => wipe σ2 vs = wipe σ vs ∧ tt σ2 H2 fun b H3 =>
        if b = true then te σ2 H3 fun y H4 => ∃ (z : Str) (S : Str → Bool) (n : Nat), y = .str z ∧ H4 D = some (SetS P w D S n) ∧ n + 1 < scanBound ∧ Nx (upd H4 D (SetS P w D (fun j => S j || decide (j = z)) (if S z = true then n else n + 1))) else Nx H3) := by
  refine ⟨fun i m H => m + i = k ∧ Pv i H, ⟨k, by omega, h0⟩, fun i m H ⟨hm, p⟩ => ?_⟩
  have gs := hG i H (by omega) p
  rcases Nat.lt_or_ge i k with lt | ge
  · exact .inr ⟨wk.goes i H lt gs, Pv (i + 1), fun H' p' => ⟨m - 1, by omega, by omega, p'⟩, fun x H' y => hs i x H H' lt p (wk.yields i H x H' lt gs y)⟩
  · have e : i = k := by omega
    subst e
    exact .inl ⟨wk.stops H gs, hd H p⟩
end Mz
set_option Elab.async false
set_option linter.all false
set_option maxRecDepth 100000
set_option maxHeartbeats 4000000
/-! == where a side is empty, whatever the items -/
namespace Mz
open PySem PySem.Spec PyProof.Rows L2
section
variable {X : Cx}
/-- tuples, one of them empty -/
def rEqT0 (K : PySem.W.Frag) : R2 := fun x y H Q => ∃ a b xs, x = .ref a ∧ y = .ref b ∧ SqT K H a xs ∧ SqT K H b [] ∧ Q (.bl xs.isEmpty) H
theorem op_eqT0 (hu : X.A.units + 64 < cLine) : OpR X (compareOp .Eq) (rEqT0 X.K) := by
  intro pins s σ H x y v u Q I rx ry h
  obtain ⟨a, b, xs, rfl, rfl, ha, hb, q⟩ := h
  obtain rfl : v = Value.ref a := rx
  obtain rfl : u = Value.ref b := ry
  obtain ⟨us, r1, p1, _⟩ := I.tuple ha
  obtain ⟨ws, r2, p2, _⟩ := I.tuple hb
  cases r2
  refine SeqAt.eq_tupleAt (e := fun _ => true) p1 p2 (by omega) (fun j h1 h2 => absurd h2 (by simp)) ⟨.bl xs.isEmpty, H, I, ?_, q⟩
  show Value.bool _ = Value.bool _
  cases r1 <;> rfl
theorem isl {h : Heap} {a : Addr} {its : Array Value} (p : PlainL h a its) : h.IsList a its := by
  obtain ⟨o, n, h1, h2, _, h3⟩ := p
  exact ⟨o, h1, h2, n, h3⟩
/-- lists, one of them empty -/
def rEqL0 (K : PySem.W.Frag) : R2 := fun x y H Q => ∃ a b xs, x = .ref a ∧ y = .ref b ∧ SqL K H a xs ∧ SqL K H b [] ∧ Q (.bl xs.isEmpty) H
theorem op_eqL0 (hu : X.A.units + 64 < cLine) : OpR X (compareOp .Eq) (rEqL0 X.K) := by
  intro pins s σ H x y v u Q I rx ry h
  obtain ⟨a, b, xs, rfl, rfl, ha, hb, q⟩ := h
  obtain rfl : v = Value.ref a := rx
  obtain rfl : u = Value.ref b := ry
  obtain ⟨us, r1, p1, _⟩ := I.list ha
  obtain ⟨ws, r2, p2, _⟩ := I.list hb
  cases r2
  cases r1 with
  | nil => exact SeqAt.eq_listAt (e := fun _ => true) (isl p1) (isl p2) rfl (by omega) (fun j h1 h2 => absurd h2 (by simp)) ⟨.bl true, H, I, rfl, q⟩
  | cons r1 t => exact SeqAt.eq_list_lengthsAt (isl p1) (isl p2) (by simp) (by omega) ⟨.bl false, H, I, rfl, q⟩
end
end Mz
set_option Elab.async false
set_option linter.all false
set_option maxRecDepth 100000
set_option maxHeartbeats 4000000
/-! classes made by a positional promise of their __init__ (a star parameter): C(), C(*xs); len of an own instance -/
namespace Mz
open PySem PySem.Spec PyProof.Rows L2
section
variable {X : Cx} {CX : CXT} {k : Nat} {f C : Addr} {fd : FuncData} {ps : List Str} {sp : Sp} {E : XK} {x : Str} {e : Expr} {te : TE} {p sp_ pos : Pos}
theorem pe_makeR0 (M : Mk X.K C f) (F : FnR X.prog X.w X.K X.mg X.base CX k f sp) (hr : Room (k + 1) X.A) (hg : Gl X x) (hm : X.mg x = some (.ref C)) (hx : Passes CX X E) (hdb : (x == ("__debug__" : Str)) = false := by decide) : PE X (.Call (.Name x p) [] [] pos) (StX.tMakeR C sp E tNil) := by
  refine ⟨fun pins s σ H Q I h => wpAny_Call_Name_kw (ld_glob I hg hm ?_ hdb)⟩
  exact PySem.W.callWith_K0 I.kIn M.kp (StX.run_makeR (us := []) M F hr hx I .nil h)
theorem pe_makeRS (M : Mk X.K C f) (F : FnR X.prog X.w X.K X.mg X.base CX k f sp) (hr : Room (k + 1) X.A) (hg : Gl X x) (hm : X.mg x = some (.ref C)) (hx : Passes CX X E) (he : PE X e te) (hdb : (x == ("__debug__" : Str)) = false := by decide)
    (hst : starEach [.Starred e sp_] X.env = [(true, eval e X.env)] := by rfl) :
    PE X (.Call (.Name x p) [.Starred e sp_] [] pos) (fun σ H Q => te σ H fun y H1 => ∃ a xs, y = V.ref a ∧ (SqT X.K H1 a xs ∨ SqL X.K H1 a xs) ∧ StX.tMakeR C sp E (fun _ H2 R => R xs H2) σ H1 Q) := by
  refine ⟨fun pins s σ H Q I h => wpAny_Call_Name_kw (ld_glob I hg hm ?_ hdb)⟩
  refine PySem.W.callWith_S (h₀ := X.base) I.ok.mod.kin M.kp (thn (he.run pins s σ H _ I h) fun v s1 ⟨y, H1, I1, ry, a, xs, ey, hxs, q⟩ => ?_) hst
  subst ey
  obtain rfl : v = Value.ref a := ry
  exact StX.star_any I1 hxs fun us s2 I2 rv => ⟨I2.kIn, StX.run_makeR M F hr hx I2 rv q⟩
/-- len(o), o an instance with an own __len__ -/
def rLenO (C : Addr) (sp : Sp) : List V → Hp → VK → Prop := fun xs H Q => ∃ a dx fs, xs = [.ref a] ∧ H a = some (.ins C dx fs) ∧ sp [.ref a] H (fun v H2 => ∃ n : Nat, v = .int n ∧ n ≤ sizeLine ∧ Q (.int n) H2) E0
theorem call_lenO (F : FnOk X.prog X.w X.K X.mg X.base CX0 k f fd ps sp) (hr : Room (k + 1) X.A) (hb : Binds X.K fd ps []) (hs : PySem.W.findIn X.K (.ref C) "__len__" = some (some (.ref f))) (hf : PySem.W.isFn X.K (.ref f) = true) : CallR X (.builtin "len") (rLenO C sp) := by
  intro pins s σ H xs us Q I r h
  obtain ⟨a, dx, fs, rfl, ha, q⟩ := h
  rw [Vals.ref1 r]
  obtain ⟨mA, O, _⟩ := ins_get I.hok ha
  obtain ⟨od, J, _⟩ := O.look
  obtain ⟨m, hF⟩ := I.fr
  refine PySem.W.len_K hF I.ok.mod.kin J hs hf (wpAny_mono (run_at (E := E0) (vs := [.ref a]) (us := [.ref a]) F hr.in1 I.env0.in1 hb (fun _ _ z => z.elim) I (.cons rfl .nil) q) (fun r s2 hv => ?_) fun _ _ z => z)
  obtain ⟨v, H2, I2, rv, n, rfl, hn, q2⟩ := hv
  obtain ⟨t, rfl⟩ := rv
  have big : (sizeLine : Int) < 2 ^ 63 := by rw [sizeLine_eq]; decide
  exact ⟨⟨by omega, by omega⟩, ⟨.int n, H2, I2.tok _, ⟨_, rfl⟩, q2⟩⟩
end
end Mz
set_option Elab.async false
set_option linter.all false
set_option maxRecDepth 100000
set_option maxHeartbeats 4000000
namespace Mz
open PySem L2
/-! the text by places -/
def top (i : Nat) : Stmt := PySem.Challenge.pw_mapsizes_k08_facts_kept.main.body.getD i (.Pass ⟨0, 0, 0, 0⟩)
abbrev sMapError : Stmt := top 2
abbrev sInvInt : Stmt := top 3
abbrev sInvPlace : Stmt := top 5
abbrev sInvFact : Stmt := top 6
abbrev sInvFacts : Stmt := top 7
abbrev sInvSet : Stmt := top 8
abbrev sWhole : Stmt := top 16
abbrev sIsInt : Stmt := top 17
abbrev sIsFrom : Stmt := top 18
abbrev sIsName : Stmt := top 19
abbrev sIsPlace : Stmt := top 20
abbrev sUnkOf : Stmt := top 21
abbrev sLeast : Stmt := top 22
abbrev sParts : Stmt := top 23
abbrev sPlace : Stmt := top 24
abbrev sHasSizes : Stmt := top 28
abbrev sAreSizes : Stmt := top 29
abbrev sSetting : Stmt := top 30
abbrev sIsFact : Stmt := top 33
abbrev sPlacedRow : Stmt := top 34
abbrev sPlacesOf : Stmt := top 35
abbrev sKeeps : Stmt := top 36
abbrev sFacts : Stmt := top 37
abbrev sCell : Stmt := top 39
abbrev sBox : Stmt := top 40
abbrev sTake : Stmt := top 41
abbrev sPair6 : Stmt := top 42
abbrev sTold6 : Stmt := top 43
abbrev sRoots6 : Stmt := top 44
abbrev sSize6 : Stmt := top 45
abbrev sRow : Stmt := top 46
abbrev sReal : Stmt := top 47
abbrev sMade : Stmt := top 48
abbrev sChanged : Stmt := top 49
abbrev sPairs : Stmt := top 50
abbrev sLKeeps : Stmt := top 51
abbrev sLSizes : Stmt := top 52
abbrev sLaw : Stmt := top 53
end Mz
set_option Elab.async false
set_option linter.all false
set_option maxRecDepth 100000
set_option maxHeartbeats 4000000
/-! the draws: a cell of the script, its box, a digit out of the box -/
namespace Mz
open PySem PySem.Spec PyProof.Rows L2
/-- all that was tracked, but what stands at b, stands as it stood -/
def Kp (b : Addr) (H H' : Hp) : Prop := ∀ p o, p ≠ b → H p = some o → H' p = some o
theorem Kp.refl {b : Addr} {H : Hp} : Kp b H H := fun _ _ _ e => e
theorem Kp.trans {b : Addr} {H H1 H2 : Hp} (x : Kp b H H1) (y : Kp b H1 H2) : Kp b H H2 := fun p o n e => y p o n (x p o n e)
theorem Kp.fresh {b p : Addr} {H : Hp} {o : HO} (h : H p = none) : Kp b H (upd H p o) := fun q u _ e => by
  rw [upd_ne (ne_of_none e h)]
  exact e
theorem Kp.here {b : Addr} {H : Hp} {o : HO} : Kp b H (upd H b o) := fun q u n e => by
  rw [upd_ne n]
  exact e
/-- a box: what is left of the cell, its seed, how many digits were mixed (at most n) -/
def Bx (H : Hp) (b : Addr) (n : Nat) : Prop := ∃ x y z : Int, H b = some (.lst [.int x, .int y, .int z]) ∧ 0 ≤ x ∧ 0 ≤ y ∧ y < 2147483563 ∧ 0 ≤ z ∧ z ≤ (n : Int)
theorem Bx.upd {H : Hp} {b p : Addr} {n : Nat} {o : HO} (h : Bx H b n) (hp : H p = none) : Bx (upd H p o) b n := by
  obtain ⟨x, y, z, e, r⟩ := h
  exact ⟨x, y, z, by rw [upd_ne (ne_of_none e hp)]; exact e, r⟩
theorem Bx.more {H : Hp} {b : Addr} {n m : Nat} (h : Bx H b n) (le : n ≤ m) : Bx H b m := by
  obtain ⟨x, y, z, e, h1, h2, h3, h4, h5⟩ := h
  exact ⟨x, y, z, e, h1, h2, h3, h4, by omega⟩
def spCell (K : PySem.W.Frag) : Sp := fun vs H Q _ => ∃ (a : Addr) (ns : List Int) (k : Nat), vs = [.ref a, .int k] ∧ SqL K H a (ns.map V.int) ∧ k < 1000 ∧ ∀ i : Int, Q (.int i) H
def spBox : Sp := fun vs H Q _ => ∃ i : Int, vs = [.int i] ∧ ∀ (b : Addr) (H' : Hp), H b = none → Bx H' b 0 → Kp b H H' → Q (.ref b) H'
def spTake : Sp := fun vs H Q _ => ∃ (b : Addr) (n : Nat) (m : Int), vs = [.ref b, .int m] ∧ Bx H b n ∧ n ≤ 1000000 ∧ 0 < m ∧ m < 2 ^ 64 ∧
  ∀ (r : Int) (H' : Hp), 0 ≤ r → r < m → Bx H' b (n + 1) → Kp b H H' → Q (.int r) H'
/-- the built-ins that the draws call -/
structure Blt (mg : Str → Option Value) : Prop where
  len : mg "len" = none
  max : mg "max" = none
  min : mg "min" = none
  int : mg "int" = none
  range : mg "range" = none
section
variable {P : Program} {w : World} {K : PySem.W.Frag} {mg : Str → Option Value} {base : Heap}
theorem scCell : FnScope ["_law_script", "_law_k"] ["_law_script", "_law_k"] (defScope sCell) := ⟨rfl, rfl, rfl, by decide +kernel, rfl, by decide +kernel, by decide +kernel⟩
theorem ok_cell {f : Addr} {fd : FuncData} (F : Fun K "_law_cell" "_law_cell" sCell f fd) (B : Blt mg) : FnOk P w K mg base CX0 1 f fd ["_law_script", "_law_k"] (spCell K) := by
  refine F.ok scCell (fun vs H Q E h => ?_) (fun cdv A outer s H vs Q E hr h => ?_)
  · obtain ⟨a, ns, k, rfl, _⟩ := h
    rfl
  · obtain ⟨a, ns, k, rfl, hS, hk, q⟩ := h
    refine ⟨_, pss_one (ps_ret (pe_ifExp (pt_cmpR op_lt (pv 1) (pe_callB call_len_seq (by rfl) B.len PySem.boot_len (pa_cons (pv 0) pa_nil)) (nomark _))
      (pe_ix ix_list (pv 0) (pv 1) (fun _ _ => rfl)) (pe_op op_add (pe_op op_mul pe_int (pv 1)) pe_int))), ?_⟩
    refine ⟨_, rfl, _, rfl, a, _, rfl, .inl hS, _, _, rfl, rfl, _, rfl, ?_⟩
    refine ite2 (fun hc => ?_) (fun _ => ?_)
    · have hlt : k < ns.length := by
        have z := of_decide_eq_true hc
        rw [List.length_map] at z
        omega
      exact ⟨_, rfl, _, rfl, a, _, _, _, rfl, rfl, hS, atI_nat (v := V.int (ns[k])) (by rw [List.getElem?_map, List.getElem?_eq_getElem hlt]; rfl), q _⟩
    · exact ⟨_, rfl, _, _, rfl, rfl, .inl ⟨by decide, by decide⟩, _, _, rfl, rfl, q _⟩
theorem scBox : FnScope ["_law_cell_here"] ["_law_cell_here"] (defScope sBox) := ⟨rfl, rfl, rfl, by decide +kernel, rfl, by decide +kernel, by decide +kernel⟩
theorem ok_box {f : Addr} {fd : FuncData} (F : Fun K "_law_box" "_law_box" sBox f fd) (B : Blt mg) : FnOk P w K mg base CX0 1 f fd ["_law_cell_here"] spBox := by
  refine F.ok scBox (fun vs H Q E h => ?_) (fun cdv A outer s H vs Q E hr h => ?_)
  · obtain ⟨i, rfl, _⟩ := h
    rfl
  · obtain ⟨i, rfl, q⟩ := h
    refine ⟨_, pss_one (ps_ret (pe_lst (pa_cons (pe_callB (call_max2 rfl) (by rfl) B.max (by decide +kernel) (pa_cons pe_int (pa_cons (pe_op op_sub (pv 0) (pe_op op_pow pe_int pe_int)) pa_nil)))
      (pa_cons (pe_op op_mod (pe_callTy call_int1 (by rfl) B.int (by decide +kernel) (pa_cons (pv 0) pa_nil)) pe_int) (pa_cons pe_int pa_nil))))), ?_⟩
    refine ⟨_, rfl, _, _, rfl, rfl, ⟨by decide, by decide, by decide⟩, _, _, rfl, rfl, _, _, rfl, ?_⟩
    refine ⟨_, rfl, .inl ⟨_, rfl, _, _, rfl, rfl, (by show (0 : Int) < 2147483563; decide), ?_⟩⟩
    refine ⟨(by show 3 ≤ sizeLine; decide), fun p np => q p _ np ⟨_, _, _, upd_same, ?_, ?_, ?_, by decide, by decide⟩ (Kp.fresh np)⟩
    · split <;> omega
    · exact Int.emod_nonneg _ (by decide)
    · exact Int.emod_lt_of_pos _ (by decide)
theorem scTake : FnScope ["_law_box_here", "_law_many", "_law_digit", "_law_mixed"] ["_law_box_here", "_law_many"] (defScope sTake) := ⟨rfl, rfl, rfl, by decide +kernel, rfl, by decide +kernel, by decide +kernel⟩
theorem fmod_low {i j : Int} (h : 0 < j) : 0 ≤ i.fmod j := Int.fmod_nonneg_of_pos i h
theorem fmod_high {i j : Int} (h : 0 < j) : i.fmod j < j := Int.fmod_lt_of_pos i h
theorem small_log {m : Int} (h0 : 0 < m) (h : m < 2 ^ 64) : m.natAbs.log2 < 9000 := by
  have h1 : m.natAbs < 2 ^ 64 := by omega
  exact Nat.lt_of_lt_of_le (PySem.Flt.log2_lt_of (by decide) h1) (by decide)
theorem ok_take {f : Addr} {fd : FuncData} (F : Fun K "_law_take" "_law_take" sTake f fd) (B : Blt mg) : FnOk P w K mg base CX0 1 f fd ["_law_box_here", "_law_many"] spTake := by
  refine F.ok scTake (fun vs H Q E h => ?_) (fun cdv A outer s H vs Q E hr h => ?_)
  · obtain ⟨b, n, m, rfl, _⟩ := h
    rfl
  · obtain ⟨b, n, m, rfl, ⟨x, y, z, hb, x0, y0, y1, z0, z1⟩, hn, m0, m1, q⟩ := h
    have nd := scTake.nd
    refine ⟨_, pss_cons (ps_if (pt_cmpR op_gt (pe_ix ix_list (pv 0) pe_int (fun _ _ => rfl)) pe_int (nomark _))
        (pss_cons (ps_set (i := 2) nd rfl (Or.inl rfl) (pe_op op_modN (pe_callTy call_int1 (by rfl) B.int (by decide +kernel) (pa_cons (pe_ix ix_list (pv 0) pe_int (fun _ _ => rfl)) pa_nil)) (pv 1)))
        (pss_cons (ps_asg (pe_op op_fdivW (pe_ix ix_list (pv 0) pe_int (fun _ _ => rfl)) (pv 1)) (pg_sub (pv 0) pe_int set_list))
        (pss_one (ps_ret (pv 2))))) pss_nil)
      (pss_cons (ps_asg (pe_op op_add (pe_ix ix_list (pv 0) pe_int (fun _ _ => rfl)) pe_int) (pg_sub (pv 0) pe_int set_list))
      (pss_cons (ps_set (i := 3) nd rfl (Or.inl rfl) (pe_op op_mod (pe_op op_pow (pe_callTy call_int1 (by rfl) B.int (by decide +kernel) (pa_cons (pe_op op_add (pe_op op_add (pe_ix ix_list (pv 0) pe_int (fun _ _ => rfl)) (pe_op op_mul pe_int (pe_ix ix_list (pv 0) pe_int (fun _ _ => rfl)))) pe_int) pa_nil)) pe_int) pe_int))
      (pss_cons (ps_set (i := 3) nd rfl (Or.inl rfl) (pe_op op_mod (pe_op op_pow (pe_callTy call_int1 (by rfl) B.int (by decide +kernel) (pa_cons (pe_op op_add (pv 3) (pe_op op_mul pe_int (pe_ix ix_list (pv 0) pe_int (fun _ _ => rfl)))) pa_nil)) pe_int) pe_int))
      (pss_one (ps_ret (pe_op op_modN (pe_op op_fdiv (pv 3) pe_int) (pv 1))))))), ?_⟩
    have a0 : ∀ {u v t : V}, atI [u, v, t] (0 : Int) = some u := rfl
    refine ⟨_, rfl, b, _, _, _, rfl, rfl, SqL.of hb, a0, _, _, rfl, rfl, _, rfl, ?_⟩
    refine ite2 (fun hc => ?_) (fun _ => ?_)
    · refine ⟨_, rfl, b, _, _, _, rfl, rfl, SqL.of hb, a0, .inl ⟨_, rfl, _, rfl, _, _, rfl, rfl, by omega, ?_⟩⟩
      refine ⟨_, rfl, b, _, _, _, rfl, rfl, SqL.of hb, a0, _, rfl, _, _, rfl, rfl, ⟨m0, small_log m0 m1⟩, ?_⟩
      refine ⟨_, rfl, b, _, _, _, rfl, rfl, hb, rfl, ?_⟩
      refine ⟨_, rfl, q _ _ (fmod_low m0) (fmod_high m0) ⟨_, y, z, upd_same, Int.ediv_nonneg x0 (by omega), y0, y1, z0, by omega⟩ Kp.here⟩
    · refine ⟨_, rfl, b, _, _, _, rfl, rfl, SqL.of hb, rfl, _, _, rfl, rfl, _, rfl, b, _, _, _, rfl, rfl, hb, rfl, ?_⟩
      have hb1 : upd H b (.lst [.int x, .int y, .int (z + 1)]) b = some (.lst [.int x, .int y, .int (z + 1)]) := upd_same
      refine ⟨_, rfl, b, _, _, _, rfl, rfl, SqL.of hb1, rfl, ?_⟩
      refine ⟨_, rfl, b, _, _, _, rfl, rfl, SqL.of hb1, rfl, ?_⟩
      refine ⟨_, _, rfl, rfl, .inl ⟨by decide, by decide⟩, _, _, rfl, rfl, _, _, rfl, rfl, .inl ⟨_, rfl, _, _, rfl, rfl, ⟨by decide, by decide, by omega⟩, ?_⟩⟩
      refine ⟨_, _, rfl, rfl, (by show (0 : Int) < 2147483647; decide), ?_⟩
      refine ⟨_, rfl, _, rfl, b, _, _, _, rfl, rfl, SqL.of hb1, rfl, ?_⟩
      have l1 := Int.emod_nonneg ((y + 7417 * (z + 1) + 241) ^ (5 : Int).toNat) (b := 2147483647) (by decide)
      have h1 := Int.emod_lt_of_pos ((y + 7417 * (z + 1) + 241) ^ (5 : Int).toNat) (b := 2147483647) (by decide)
      refine ⟨_, _, rfl, rfl, .inl ⟨by decide, by decide⟩, _, _, rfl, rfl, .inl ⟨_, rfl, _, _, rfl, rfl, ⟨by decide, by decide, by omega⟩, ?_⟩⟩
      refine ⟨_, _, rfl, rfl, (by show (0 : Int) < 2147483587; decide), ?_⟩
      refine ⟨_, rfl, _, _, rfl, rfl, ⟨by decide, by decide⟩, _, rfl, _, _, rfl, rfl, by omega, ?_⟩
      exact q _ _ (fmod_low m0) (fmod_high m0) ⟨x, y, z + 1, upd_same, x0, y0, y1, by omega, by omega⟩ Kp.here
end
end Mz
set_option Elab.async false
set_option linter.all false
set_option maxRecDepth 100000
set_option maxHeartbeats 4000000
/-! the program's own defs: integers, names, marks -/
namespace Mz
open PySem PySem.Spec PyProof.Rows L2
/-- any value, by what isinstance says of it -/
inductive Kd (K : PySem.W.Frag) (H : Hp) : V → Prop
  | int (i : Int) : Kd K H (.int i)
  | bl (b : Bool) : Kd K H (.bl b)
  | str (z : Str) (h : z.length ≤ 1000) (ok : PyData.strOk z = true) : Kd K H (.str z)
  | non : Kd K H .non
  | oth (a : Addr) (t : Value) (ty : TyX K H (.ref a) t) (ki : PySem.W.kitOne K t (.type "int") = some false) (ks : PySem.W.kitOne K t (.type "str") = some false) : Kd K H (.ref a)
def wholeV : V → Bool
  | .int _ => true
  | _ => false
def inB (lo hi : Int) : V → Bool
  | .int i => decide (lo ≤ i) && decide (i ≤ hi)
  | _ => false
abbrev abc : Str := "abcdefghijklmnopqrstuvwxyz"
/-- a name, as the program says it -/
def nameS (z : Str) : Bool := (decide (1 ≤ (z.length : Int)) && decide ((z.length : Int) ≤ 6)) && z.cps.toList.all fun c => decide (c ∈ abc.cps.toList)
def nameV : V → Bool
  | .str z => nameS z
  | _ => false
def noMarks : List V := [.str "old", .str "zero", .str "end", .str "fails", .str "more", .str "done", .str "none"]
def markV : V → Bool
  | .str z => nameS z && !inV (.str z) noMarks
  | _ => false
def spWhole (K : PySem.W.Frag) : Sp := fun vs H Q _ => ∃ v, vs = [v] ∧ Kd K H v ∧ Q (.bl (wholeV v)) H
def spIsInt (K : PySem.W.Frag) : Sp := fun vs H Q _ => ∃ v lo hi, vs = [v, .int lo, .int hi] ∧ Kd K H v ∧ Q (.bl (inB lo hi v)) H
/-- the list of the letters' answers is left behind -/
def spIsName (K : PySem.W.Frag) : Sp := fun vs H Q _ => ∃ v, vs = [v] ∧ Kd K H v ∧ ∀ H', Same H H' → Q (.bl (nameV v)) H'
def spIsMark (K : PySem.W.Frag) : Sp := fun vs H Q _ => ∃ v, vs = [v] ∧ Kd K H v ∧ ∀ H', Same H H' → Q (.bl (markV v)) H'
structure Blp (mg : Str → Option Value) : Prop where
  isi : mg "isinstance" = none
  bool : mg "bool" = none
  str : mg "str" = none
  all : mg "all" = none
section
variable {P : Program} {w : World} {K : PySem.W.Frag} {mg : Str → Option Value} {base : Heap}
theorem scWhole : FnScope ["value"] ["value"] (defScope sWhole) := ⟨rfl, rfl, rfl, by decide +kernel, rfl, by decide +kernel, by decide +kernel⟩
theorem ok_whole {f : Addr} {fd : FuncData} (F : Fun K "_is_whole" "_is_whole" sWhole f fd) (B : Blt mg) (D : Blp mg) : FnOk P w K mg base CX0 1 f fd ["value"] (spWhole K) := by
  refine F.ok scWhole (fun vs H Q E h => ?_) (fun cdv A outer s H vs Q E hr h => ?_)
  · obtain ⟨v, rfl, _⟩ := h
    rfl
  · obtain ⟨v, rfl, hk, q⟩ := h
    refine ⟨_, pss_one (ps_ret (pe_and (pe_callB call_isi (by rfl) D.isi (by decide +kernel) (pa_cons (pv 0) (pa_cons (pe_bltn (v := .ty "int") (by rfl) B.int (by decide +kernel) rfl) pa_nil)))
      (pe_one (pe_not (pe_callB call_isi (by rfl) D.isi (by decide +kernel) (pa_cons (pv 0) (pa_cons (pe_bltn (v := .ty "bool") (by rfl) D.bool (by decide +kernel) rfl) pa_nil))))))), ?_⟩
    refine ⟨_, rfl, ?_⟩
    cases hk with
    | int i => exact ⟨_, _, _, _, true, rfl, .ty _, .base (.int i), kit_ty (by decide +kernel), true, rfl, iteT ⟨_, rfl, _, _, _, _, false, rfl, .ty _, .base (.int i), kit_ty (by decide +kernel), false, rfl, q⟩⟩
    | bl b => exact ⟨_, _, _, _, true, rfl, .ty _, .base (.bl b), kit_ty (by decide +kernel), true, rfl, iteT ⟨_, rfl, _, _, _, _, true, rfl, .ty _, .base (.bl b), kit_ty (by decide +kernel), true, rfl, q⟩⟩
    | str z _ _ => exact ⟨_, _, _, _, false, rfl, .ty _, .base (.str z), kit_ty (by decide +kernel), false, rfl, iteF q⟩
    | non => exact ⟨_, _, _, _, false, rfl, .ty _, .base .non, kit_ty (by decide +kernel), false, rfl, iteF q⟩
    | oth a t ty ki ks => exact ⟨_, _, _, _, false, rfl, .ty _, ty, ki, false, rfl, iteF q⟩
theorem scIsInt : FnScope ["value", "low", "high"] ["value", "low", "high"] (defScope sIsInt) := ⟨rfl, rfl, rfl, by decide +kernel, rfl, by decide +kernel, by decide +kernel⟩
theorem ok_isInt {f f1 : Addr} {fd fd1 : FuncData} (F : Fun K "is_integer" "is_integer" sIsInt f fd) (G : FnOk P w K mg base CX0 1 f1 fd1 ["value"] (spWhole K)) (m1 : mg "_is_whole" = some (.ref f1)) (k1 : PySem.W.keepIn K (.ref f1) = true) (b1 : Binds K fd1 ["value"] []) :
    FnOk P w K mg base CX0 2 f fd ["value", "low", "high"] (spIsInt K) := by
  refine F.ok scIsInt (fun vs H Q E h => ?_) (fun cdv A outer s H vs Q E hr h => ?_)
  · obtain ⟨v, lo, hi, rfl, _⟩ := h
    rfl
  · obtain ⟨v, lo, hi, rfl, hk, q⟩ := h
    refine ⟨_, pss_one (ps_ret (pe_and (pe_call G hr (by rfl) m1 k1 b1 .nil pass0 (pa_cons (pv 0) pa_nil)) (pe_one (pe_chain op_le op_le (pv 1) (pv 0) (pv 2))))), ?_⟩
    refine ⟨_, rfl, v, rfl, hk, _, rfl, ?_⟩
    cases hk with
    | int i =>
      refine iteT ⟨_, rfl, _, rfl, _, _, rfl, rfl, _, rfl, ite2 (fun hc => ?_) (fun hc => ?_)⟩
      · refine ⟨_, rfl, _, _, rfl, rfl, ?_⟩
        have e : inB lo hi (.int i) = decide (i ≤ hi) := by
          show (decide (lo ≤ i) && decide (i ≤ hi)) = _
          rw [hc, Bool.true_and]
        rw [e] at q
        exact q
      · have e : inB lo hi (.int i) = false := by
          show (decide (lo ≤ i) && decide (i ≤ hi)) = _
          rw [Bool.eq_false_iff.mpr hc, Bool.false_and]
        rw [e] at q
        exact q
    | bl b => exact iteF q
    | str z _ _ => exact iteF q
    | non => exact iteF q
    | oth a t ty ki ks => exact iteF q
theorem scIsName : FnScope ["value", "letter"] ["value"] (defScope sIsName) := ⟨rfl, rfl, rfl, by decide +kernel, rfl, by decide +kernel, by decide +kernel⟩
theorem ok_isName {f : Addr} {fd : FuncData} {t1 t2 : Tok} (F : Fun K "is_name" "is_name" sIsName f fd) (B : Blt mg) (D : Blp mg) (mL : mg "_LONGEST_NAME" = some (.int 6 t1)) (mA : mg "_LETTERS" = some (.str abc t2)) : FnOk P w K mg base CX0 1 f fd ["value"] (spIsName K) := by
  refine F.ok scIsName (fun vs H Q E h => ?_) (fun cdv A outer s H vs Q E hr h => ?_)
  · obtain ⟨v, rfl, _⟩ := h
    rfl
  · obtain ⟨v, rfl, hk, q⟩ := h
    have nd := scIsName.nd
    refine ⟨_, pss_cons (ps_if (PW.pt (pw_or (pt_not (pt_val (pe_callB call_isi (by rfl) D.isi (by decide +kernel) (pa_cons (pv 0) (pa_cons (pe_bltn (v := .ty "str") (by rfl) D.str (by decide +kernel) rfl) pa_nil)))))
        (pw_or1 (pt_not (pt_chain op_le op_le pe_int (pe_callB call_len_str (by rfl) B.len PySem.boot_len (pa_cons (pv 0) pa_nil)) (pe_glob (v := .int 6) rfl mL ⟨_, rfl⟩)))))) (pss_one (ps_ret pe_bl)) pss_nil)
      (pss_one (ps_ret (pe_callB (cr_all rfl) (by rfl) D.all (by decide +kernel) (pa_cons (pe_lc (own := [("letter", 1)]) (g := gName 1) (tt := tYes) rfl nd (pi_str (pv 0)) (blkOk_by (N := ["value", "letter"]) (sc := defScope sIsName) (by decide +kernel))
        (fun _ _ _ _ _ => pg_name (i := 1) nd rfl (Or.inl rfl)) (fun _ _ _ _ _ => pts_nil) (fun _ _ _ _ _ => pe_cmpR op_in_sign (pv 1) (pe_glob (v := .str abc) rfl mA ⟨_, rfl⟩) (by rfl))) pa_nil)))), ?_⟩
    refine ⟨_, rfl, ?_⟩
    have no : ∀ {v : V}, nameV v = false → (∀ H', Same H H' → Q (.bl (nameV v)) H') → Q (.bl false) H := fun e q => by
      rw [← e]
      exact q _ fun _ _ z => z
    cases hk with
    | int i => exact ⟨_, _, _, _, false, rfl, .ty _, .base (.int i), kit_ty (by decide +kernel), false, rfl, iteT (iteT (no rfl q))⟩
    | bl b => exact ⟨_, _, _, _, false, rfl, .ty _, .base (.bl b), kit_ty (by decide +kernel), false, rfl, iteT (iteT (no rfl q))⟩
    | non => exact ⟨_, _, _, _, false, rfl, .ty _, .base .non, kit_ty (by decide +kernel), false, rfl, iteT (iteT (no rfl q))⟩
    | oth a t ty ki ks => exact ⟨_, _, _, _, false, rfl, .ty _, ty, ks, false, rfl, iteT (iteT (no rfl q))⟩
    | str z hz ok =>
      refine ⟨_, _, _, _, true, rfl, .ty _, .base (.str z), kit_ty (by decide +kernel), true, rfl, iteF ?_⟩
      have zl : z.length ≤ sizeLine := Nat.le_trans hz (by decide)
      refine ⟨_, rfl, _, rfl, zl, _, _, rfl, rfl, _, rfl, ite2 (fun h1 => ?_) (fun h1 => ?_)⟩
      · refine ⟨_, _, rfl, rfl, _, rfl, ?_⟩
        cases h6 : decide ((z.length : Int) ≤ 6) with
        | false =>
          refine iteT ?_
          have e : nameV (.str z) = false := by
            show ((decide (1 ≤ (z.length : Int)) && decide ((z.length : Int) ≤ 6)) && z.cps.toList.all fun c => decide (c ∈ abc.cps.toList)) = false
            rw [h6, Bool.and_false, Bool.false_and]
          exact no e q
        | true =>
          refine iteF ?_
          refine ⟨_, rfl, z, rfl, fun p np => lc_it walk_str (fun i H' => H' = upd H p (.lst ((z.cps.toList.take i).map fun c => V.bl (decide (c ∈ abc.cps.toList))))) rfl (fun _ _ _ _ => trivial) ?_ ?_⟩
          · rintro i x H0 H' hi rfl ⟨rfl, c, hc, rfl⟩
            refine ⟨rfl, ?_⟩
            unfold tYes
            refine iteT ⟨_, rfl, c, abc, rfl, rfl, _, upd_same, ?_, ?_⟩
            · rw [List.length_map, List.length_take]
              exact Nat.lt_of_le_of_lt (Nat.min_le_left _ _) (Nat.lt_of_lt_of_le hi zl)
            · rw [upd_upd]
              have hc2 : z.cps.toList[i]? = some c := by
                rw [Array.getElem?_toList]
                exact hc
              rw [List.take_succ, hc2, List.map_append]
              rfl
          · rintro H' rfl
            have sz : z.cps.toList.take z.cps.size = z.cps.toList := by
              rw [← Array.length_toList, List.take_length]
            refine ⟨p, (z.cps.toList.take z.cps.size).map fun c => decide (c ∈ abc.cps.toList), rfl, SqL.of (by rw [List.map_map]; exact upd_same), ?_⟩
            have e : nameV (.str z) = ((z.cps.toList.take z.cps.size).map fun c => decide (c ∈ abc.cps.toList)).all id := by
              show ((decide (1 ≤ (z.length : Int)) && decide ((z.length : Int) ≤ 6)) && z.cps.toList.all fun c => decide (c ∈ abc.cps.toList)) = _
              rw [h1, h6, sz, List.all_map]
              rfl
            rw [← e]
            refine q _ fun b o z => ?_
            rw [upd_ne (ne_of_none z np)]
            exact z
      · have e : nameV (.str z) = false := by
          show ((decide (1 ≤ (z.length : Int)) && decide ((z.length : Int) ≤ 6)) && z.cps.toList.all fun c => decide (c ∈ abc.cps.toList)) = false
          rw [Bool.eq_false_iff.mpr h1, Bool.false_and, Bool.false_and]
        exact ⟨_, rfl, iteT (no e q)⟩
end
end Mz
set_option Elab.async false
set_option linter.all false
set_option maxRecDepth 100000
set_option maxHeartbeats 4000000
namespace Mz
open PySem PySem.Spec PyProof.Rows L2
def lowS (z : Str) : Int := if z = "" then 0 else -3
def spLeast : Sp := fun vs H Q _ => ∃ z : Str, vs = [.str z] ∧ Q (.int (lowS z)) H
/-- a place's fields -/
def plF (z : Str) (k : Int) : List (Str × V) := putF "_shift" (.int k) (putF "_base" (.str z) [])
/-- a place that can be made: no error -/
def spInit (C : Addr) : Sp := fun vs H Q _ => ∃ (p dx : Addr) (z : Str) (k : Int), vs = [.ref p, .str z, .int k] ∧ H p = some (.ins C dx []) ∧ z.length ≤ 1000 ∧ PyData.strOk z = true ∧ (z = "" ∨ nameS z = true) ∧ lowS z ≤ k ∧ k ≤ 3 ∧
  ∀ H', (∀ q o, q ≠ p → H q = some o → H' q = some o) → H' p = some (.ins C dx (plF z k)) → Q .non H'
structure Cpl (K : PySem.W.Frag) (mg : Str → Option Value) (C : Addr) : Prop where
  cl : Cls K C
  nB : NoAttr K C "_base"
  nS : NoAttr K C "_shift"
  mgC : mg "Place" = some (.ref C)
section
variable {P : Program} {w : World} {K : PySem.W.Frag} {mg : Str → Option Value} {base : Heap}
theorem scLeast : FnScope ["base"] ["base"] (defScope sLeast) := ⟨rfl, rfl, rfl, by decide +kernel, rfl, by decide +kernel, by decide +kernel⟩
theorem ok_least {f : Addr} {fd : FuncData} {t : Tok} (F : Fun K "_least_shift" "_least_shift" sLeast f fd) (mM : mg "_MOST" = some (.int 3 t)) : FnOk P w K mg base CX0 1 f fd ["base"] spLeast := by
  refine F.ok scLeast (fun vs H Q E h => ?_) (fun cdv A outer s H vs Q E hr h => ?_)
  · obtain ⟨z, rfl, _⟩ := h
    rfl
  · obtain ⟨z, rfl, q⟩ := h
    refine ⟨_, pss_one (ps_ret (pe_ifExp (pt_cmpR op_eq (pv 0) pe_str (nomark _)) pe_int (pe_un un_neg (pe_glob (v := .int 3) rfl mM ⟨_, rfl⟩)))), ?_⟩
    refine ⟨_, rfl, rfl, _, rfl, ite2 (fun hc => ?_) (fun hc => ?_)⟩
    · have e : lowS z = 0 := if_pos (V.str.inj (of_decide_eq_true hc))
      rw [e] at q
      exact q
    · have e : lowS z = -3 := if_neg fun x => hc (decide_eq_true (by rw [x]))
      rw [e] at q
      exact ⟨_, rfl, q⟩
theorem scInit : FnScope ["self", "base", "shift"] ["self", "base", "shift"] (defScope (inClass sPlace 0)) := ⟨rfl, rfl, rfl, by decide +kernel, rfl, by decide +kernel, by decide +kernel⟩
theorem ok_init {f f1 f2 f3 C : Addr} {fd fd1 fd2 fd3 : FuncData} {t : Tok} {dvs : List V} {kws : List (Str × V)} {pa : Arguments} (F : FunD K "__init__" "Place.__init__" pa (defBody (inClass sPlace 0)) (defScope (inClass sPlace 0)) dvs kws f fd) (T : Cpl K mg C)
    (G1 : FnOk P w K mg base CX0 1 f1 fd1 ["value"] (spIsName K)) (m1 : mg "is_name" = some (.ref f1)) (k1 : PySem.W.keepIn K (.ref f1) = true) (b1 : Binds K fd1 ["value"] [])
    (G2 : FnOk P w K mg base CX0 2 f2 fd2 ["value", "low", "high"] (spIsInt K)) (m2 : mg "is_integer" = some (.ref f2)) (k2 : PySem.W.keepIn K (.ref f2) = true) (b2 : Binds K fd2 ["value", "low", "high"] [])
    (G3 : FnOk P w K mg base CX0 1 f3 fd3 ["base"] spLeast) (m3 : mg "_least_shift" = some (.ref f3)) (k3 : PySem.W.keepIn K (.ref f3) = true) (b3 : Binds K fd3 ["base"] [])
    (mM : mg "_MOST" = some (.int 3 t)) : FnOk P w K mg base CX0 3 f fd ["self", "base", "shift"] (spInit C) := by
  refine F.ok scInit (fun vs H Q E h => ?_) (fun cdv A outer s H vs Q E hr h => ?_)
  · obtain ⟨p, dx, z, k, rfl, _⟩ := h
    rfl
  · obtain ⟨p, dx, z, k, rfl, hp, hz, ok, hn, h1, h2, q⟩ := h
    refine ⟨_, PSs.nox (pss_cons (ps_if (PW.pt (pw_and (pt_cmpR op_ne (pv 1) pe_str (nomark _)) (pw_and1 (pt_not (pt_val (pe_call G1 (hr.mono (by decide)) (by rfl) m1 k1 b1 .nil pass0 (pa_cons (pv 1) pa_nil))))))) (pss_one ps_never) pss_nil)
      (pss_cons (ps_if (pt_not (pt_val (pe_call G2 hr (by rfl) m2 k2 b2 .nil pass0 (pa_cons (pv 2) (pa_cons (pe_call G3 (hr.mono (by decide)) (by rfl) m3 k3 b3 .nil pass0 (pa_cons (pv 1) pa_nil)) (pa_cons (pe_glob (v := .int 3) rfl mM ⟨_, rfl⟩) pa_nil)))))) (pss_one ps_never) pss_nil)
      (pss_cons (ps_fld (pv 0) (pv 1) rfl) (pss_one (ps_fld (pv 0) (pv 2) rfl))))), ?_⟩
    generalize hT : tSeq (tIfS (tNot _) _ _) (tSeq (sFld _ _ _ _) (sFld _ _ _ _)) = T2
    have rest : ∀ H1, Same H H1 → T2 { nx := fun _ H' => Q .non H', rt := Q } (start ["self", "base", "shift"] [V.ref p, V.str z, V.int k]) H1 := by
      intro H1 sm
      rw [← hT]
      have hp1 := sm _ _ hp
      refine ⟨_, rfl, _, rfl, z, rfl, .int k, lowS z, 3, rfl, Kd.int k, _, rfl, ?_⟩
      have e : inB (lowS z) 3 (.int k) = true := by
        show (decide (lowS z ≤ k) && decide (k ≤ 3)) = true
        rw [decide_eq_true h1, decide_eq_true h2]
        rfl
      rw [e]
      refine iteF ⟨_, rfl, _, rfl, p, C, dx, [], rfl, hp1, T.cl, T.nB, (by show 0 < 1000; decide), _, rfl, _, rfl, p, C, dx, _, rfl, upd_same, T.cl, T.nS, (by show 1 < 1000; decide), ?_⟩
      refine q _ (fun r o n e => ?_) upd_same
      rw [upd_ne n, upd_ne n]
      exact sm _ _ e
    have kd : Kd K H (.str z) := .str z hz ok
    by_cases hz0 : z = ""
    · subst hz0
      exact ⟨_, rfl, rfl, _, rfl, iteF (iteF (rest H (Same.refl H)))⟩
    · have hnm : nameS z = true := hn.resolve_left hz0
      have e : decide (V.str z = V.str "") = false := decide_eq_false fun x => hz0 (V.str.inj x)
      refine ⟨_, rfl, rfl, _, rfl, ?_⟩
      rw [e]
      refine iteT ⟨_, rfl, .str z, rfl, kd, fun H1 sm => ⟨_, rfl, ?_⟩⟩
      have e2 : nameV (.str z) = true := hnm
      rw [e2]
      exact iteF (rest H1 sm)
end
end Mz
set_option Elab.async false
set_option linter.all false
set_option maxRecDepth 100000
set_option maxHeartbeats 4000000
namespace Mz
open PySem PySem.Spec PyProof.Rows L2
theorem plF_base {z : Str} {k : Int} : (plF z k).lookup ("_base" : Str) = some (.str z) := by
  unfold plF
  rw [lookup_putF, if_neg (by decide +kernel), lookup_putF, if_pos rfl]
theorem plF_shift {z : Str} {k : Int} : (plF z k).lookup ("_shift" : Str) = some (.int k) := by
  unfold plF
  rw [lookup_putF, if_pos rfl]
/-- a place stands at a -/
def Pl (C : Addr) (H : Hp) (a : Addr) (z : Str) (k : Int) : Prop := ∃ dx, H a = some (.ins C dx (plF z k))
/-- a base and a shift that go together -/
def Good (z : Str) (k : Int) : Prop := z.length ≤ 1000 ∧ PyData.strOk z = true ∧ (z = "" ∨ nameS z = true) ∧ lowS z ≤ k ∧ k ≤ 3
theorem Good.lo {z : Str} {k : Int} (g : Good z k) : -3 ≤ k := by
  have h := g.2.2.2.1
  unfold lowS at h
  split at h <;> omega
theorem Good.hi {z : Str} {k : Int} (g : Good z k) : k ≤ 3 := g.2.2.2.2
theorem int_small {k : Int} (h0 : -3 ≤ k) (h1 : k ≤ 3) : k.natAbs.log2 < 1920 := by
  have h : k.natAbs < 2 ^ 3 := by omega
  exact Nat.lt_trans (PySem.Flt.log2_lt_of (by decide) h) (by decide)
/-- str of a place -/
def strP (z : Str) (k : Int) : Str := if z = "" then Str.ofString (toString k) else if k = 0 then z else "" ++ z ++ signS k
def spBase (C : Addr) : Sp := fun vs H Q _ => ∃ a z k, vs = [.ref a] ∧ Pl C H a z k ∧ Q (.str z) H
def spShift (C : Addr) : Sp := fun vs H Q _ => ∃ a z k, vs = [.ref a] ∧ Pl C H a z k ∧ Q (.int k) H
def spStr (C : Addr) : Sp := fun vs H Q _ => ∃ a z k, vs = [.ref a] ∧ Pl C H a z k ∧ Good z k ∧ Q (.str (strP z k)) H
/-- a value that is no place -/
def Oty (K : PySem.W.Frag) (C : Addr) (H : Hp) (y : V) : Prop := ∃ t, TyX K H y t ∧ PySem.W.kitOne K t (.ref C) = some false
def spEq (K : PySem.W.Frag) (C : Addr) : Sp := fun vs H Q _ => ∃ a z k, Pl C H a z k ∧ ((∃ b y i, vs = [.ref a, .ref b] ∧ Pl C H b y i ∧ Q (.bl (decide (z = y) && decide (k = i))) H) ∨ (∃ y, vs = [.ref a, y] ∧ Oty K C H y ∧ Q (.bl false) H))
def spAdd (C : Addr) : Sp := fun vs H Q _ => ∃ a z k i, vs = [.ref a, .int i] ∧ Pl C H a z k ∧ Good z k ∧ Good z (k + i) ∧ ∀ p H', H p = none → Same H H' → Pl C H' p z (k + i) → Q (.ref p) H'
theorem strlen_sign {k : Int} : (signS k).length = 2 := by
  unfold signS
  repeat' split
  all_goals decide +kernel
section
variable {P : Program} {w : World} {K : PySem.W.Frag} {mg : Str → Option Value} {base : Heap}
theorem scBase : FnScope ["self"] ["self"] (defScope (inClass sPlace 2)) := ⟨rfl, rfl, rfl, by decide +kernel, rfl, by decide +kernel, by decide +kernel⟩
theorem ok_base {f C : Addr} {fd : FuncData} (F : Fun K "base" "Place.base" (inClass sPlace 2) f fd) (T : Cpl K mg C) : FnOk P w K mg base CX0 1 f fd ["self"] (spBase C) := by
  refine F.ok scBase (fun vs H Q E h => ?_) (fun cdv A outer s H vs Q E hr h => ?_)
  · obtain ⟨a, z, k, rfl, _⟩ := h
    rfl
  · obtain ⟨a, z, k, rfl, ⟨dx, ha⟩, q⟩ := h
    exact ⟨_, pss_one (ps_ret (pe_fld (pv 0) rfl)), _, rfl, a, C, dx, _, _, rfl, ha, T.cl, T.nB, plF_base, q⟩
theorem scShift : FnScope ["self"] ["self"] (defScope (inClass sPlace 3)) := ⟨rfl, rfl, rfl, by decide +kernel, rfl, by decide +kernel, by decide +kernel⟩
theorem ok_shift {f C : Addr} {fd : FuncData} (F : Fun K "shift" "Place.shift" (inClass sPlace 3) f fd) (T : Cpl K mg C) : FnOk P w K mg base CX0 1 f fd ["self"] (spShift C) := by
  refine F.ok scShift (fun vs H Q E h => ?_) (fun cdv A outer s H vs Q E hr h => ?_)
  · obtain ⟨a, z, k, rfl, _⟩ := h
    rfl
  · obtain ⟨a, z, k, rfl, ⟨dx, ha⟩, q⟩ := h
    exact ⟨_, pss_one (ps_ret (pe_fld (pv 0) rfl)), _, rfl, a, C, dx, _, _, rfl, ha, T.cl, T.nS, plF_shift, q⟩
theorem scStr : FnScope ["self"] ["self"] (defScope (inClass sPlace 4)) := ⟨rfl, rfl, rfl, by decide +kernel, rfl, by decide +kernel, by decide +kernel⟩
theorem ok_str {f C : Addr} {fd : FuncData} (F : Fun K "__str__" "Place.__str__" (inClass sPlace 4) f fd) (T : Cpl K mg C) (D : Blp mg) : FnOk P w K mg base CX0 1 f fd ["self"] (spStr C) := by
  refine F.ok scStr (fun vs H Q E h => ?_) (fun cdv A outer s H vs Q E hr h => ?_)
  · obtain ⟨a, z, k, rfl, _⟩ := h
    rfl
  · obtain ⟨a, z, k, rfl, ⟨dx, ha⟩, g, q⟩ := h
    refine ⟨_, pss_cons (ps_if (pt_cmpR op_eq (pe_fld (pv 0) rfl) pe_str (nomark _)) (pss_one (ps_ret (pe_callTy call_str_int (by rfl) D.str (by decide +kernel) (pa_cons (pe_fld (pv 0) rfl) pa_nil)))) pss_nil)
      (pss_cons (ps_if (pt_cmpR op_eq (pe_fld (pv 0) rfl) pe_int (nomark _)) (pss_one (ps_ret (pe_joined1 (pe_fmt (pe_fld (pv 0) rfl))))) pss_nil)
      (pss_one (ps_ret (pe_joined (.cons (pe_fmt (pe_fld (pv 0) rfl)) (.cons (pe_fmtP (pe_fld (pv 0) rfl)) .nil)))))), ?_⟩
    have zl : z.length ≤ 1000 := g.1
    refine ⟨_, rfl, a, C, dx, _, _, rfl, ha, T.cl, T.nB, plF_base, rfl, _, rfl, ite2 (fun h1 => ?_) (fun h1 => ?_)⟩
    · have e : strP z k = Str.ofString (toString k) := if_pos (V.str.inj (of_decide_eq_true h1))
      rw [e] at q
      exact ⟨_, rfl, a, C, dx, _, _, rfl, ha, T.cl, T.nS, plF_shift, _, rfl, int_small g.lo g.hi, q⟩
    · have n1 : ¬ z = "" := fun x => h1 (decide_eq_true (by rw [x]))
      refine ⟨_, rfl, a, C, dx, _, _, rfl, ha, T.cl, T.nS, plF_shift, rfl, _, rfl, ite2 (fun h2 => ?_) (fun h2 => ?_)⟩
      · have e : strP z k = z := by
          unfold strP
          rw [if_neg n1, if_pos (V.int.inj (of_decide_eq_true h2))]
        rw [e] at q
        exact ⟨_, rfl, a, C, dx, _, _, rfl, ha, T.cl, T.nB, plF_base, .inl ⟨z, rfl, Nat.le_trans zl (by decide), q⟩⟩
      · have n2 : ¬ k = 0 := fun x => h2 (decide_eq_true (by rw [x]))
        have e : strP z k = "" ++ z ++ signS k := by
          unfold strP
          rw [if_neg n1, if_neg n2]
        rw [e] at q
        refine ⟨_, rfl, a, C, dx, _, _, rfl, ha, T.cl, T.nB, plF_base, .inl ⟨z, rfl, Nat.le_trans zl (by decide), z, rfl, ?_, ?_⟩⟩
        · rw [strLen_append]
          exact Nat.le_trans (Nat.add_le_add (show ("" : Str).length ≤ 0 by decide +kernel) zl) (by decide)
        · refine ⟨_, rfl, a, C, dx, _, _, rfl, ha, T.cl, T.nS, plF_shift, k, rfl, g.lo, g.hi, n2, signS k, rfl, ?_, q⟩
          rw [strLen_append, strLen_append, strlen_sign]
          exact Nat.le_trans (Nat.add_le_add_right (Nat.add_le_add (show ("" : Str).length ≤ 0 by decide +kernel) zl) 2) (by decide)
end
end Mz
set_option Elab.async false
set_option linter.all false
set_option maxRecDepth 100000
set_option maxHeartbeats 4000000
namespace Mz
open PySem PySem.Spec PyProof.Rows L2
section
variable {P : Program} {w : World} {K : PySem.W.Frag} {mg : Str → Option Value} {base : Heap}
/-- isinstance of a place and of no place -/
structure Pty (K : PySem.W.Frag) (C : Addr) : Prop where
  cl : Cls K C
  ha : PySem.W.findIn K (.ref C) "__class__" = some (some (.builtin "object.__class__"))
  hn : PySem.W.specialIn K (.builtin "object.__class__") "__get__" = some (some (.builtin "getset_descriptor.__get__"))
  htk : PySem.W.takesIn K (.builtin "object.__class__") = some true
  hm : PySem.W.mroIn K C (.type "object") = some true
theorem Pl.ty {C : Addr} {H : Hp} {a : Addr} {z : Str} {k : Int} (T : Pty K C) (h : Pl C H a z k) : TyX K H (.ref a) (.ref C) := by
  obtain ⟨dx, ha⟩ := h
  exact .base (.ins ha T.cl T.ha T.hn T.htk T.hm)
theorem kit_self {C : Addr} : PySem.W.kitOne K (.ref C) (.ref C) = some true := by
  unfold PySem.W.kitOne
  rw [if_pos (by simp)]
theorem scEq : FnScope ["self", "other"] ["self", "other"] (defScope (inClass sPlace 6)) := ⟨rfl, rfl, rfl, by decide +kernel, rfl, by decide +kernel, by decide +kernel⟩
theorem ok_eq {f C : Addr} {fd : FuncData} (F : Fun K "__eq__" "Place.__eq__" (inClass sPlace 6) f fd) (T : Cpl K mg C) (Y : Pty K C) (D : Blp mg) : FnOk P w K mg base CX0 1 f fd ["self", "other"] (spEq K C) := by
  refine F.ok scEq (fun vs H Q E h => ?_) (fun cdv A outer s H vs Q E hr h => ?_)
  · obtain ⟨a, z, k, _, ⟨b, y, i, rfl, _⟩ | ⟨y, rfl, _⟩⟩ := h
    · rfl
    · rfl
  · obtain ⟨a, z, k, pa, h⟩ := h
    refine ⟨_, pss_one (ps_ret (pe_and (pe_callB call_isi (by rfl) D.isi (by decide +kernel) (pa_cons (pv 1) (pa_cons (pe_glob (v := .ref C) rfl T.mgC rfl) pa_nil)))
      (pe_and (pe_cmpR op_eq (pe_fld (pv 0) rfl) (pe_fld (pv 1) rfl) (nomark _)) (pe_one (pe_cmpR op_eq (pe_fld (pv 0) rfl) (pe_fld (pv 1) rfl) (nomark _)))))), ?_⟩
    obtain ⟨dx, ha⟩ := id pa
    rcases h with ⟨b, y, i, rfl, pb, q⟩ | ⟨y, rfl, ⟨t, ty, kt⟩, q⟩
    · obtain ⟨dy, hb⟩ := id pb
      refine ⟨_, rfl, .ref b, .ref C, .ref C, .ref C, true, rfl, .own C, pb.ty Y, kit_self, true, rfl, iteT ?_⟩
      refine ⟨_, rfl, a, C, dx, _, _, rfl, ha, T.cl, T.nB, plF_base, _, rfl, b, C, dy, _, _, rfl, hb, T.cl, T.nB, plF_base, rfl, _, rfl, ite2 (fun h1 => ?_) (fun h1 => ?_)⟩
      · refine ⟨_, rfl, a, C, dx, _, _, rfl, ha, T.cl, T.nS, plF_shift, _, rfl, b, C, dy, _, _, rfl, hb, T.cl, T.nS, plF_shift, rfl, ?_⟩
        have e1 : z = y := V.str.inj (of_decide_eq_true h1)
        have e2 : decide (V.int k = V.int i) = decide (k = i) := decide_eq_decide.mpr ⟨fun x => V.int.inj x, fun x => by rw [x]⟩
        rw [decide_eq_true e1, Bool.true_and] at q
        rw [e2]
        exact q
      · have e1 : ¬ z = y := fun x => h1 (decide_eq_true (by rw [x]))
        rw [decide_eq_false e1, Bool.false_and] at q
        exact q
    · exact ⟨_, rfl, y, .ref C, t, .ref C, false, rfl, .own C, ty, kt, false, rfl, iteF q⟩
theorem scAdd : FnScope ["self", "other"] ["self", "other"] (defScope (inClass sPlace 7)) := ⟨rfl, rfl, rfl, by decide +kernel, rfl, by decide +kernel, by decide +kernel⟩
theorem ok_add {f f2 f3 fI C : Addr} {fd fd2 fd3 fdI : FuncData} {t : Tok} {g : List Value → List Value → List Value} (F : Fun K "__add__" "Place.__add__" (inClass sPlace 7) f fd) (T : Cpl K mg C)
    (G2 : FnOk P w K mg base CX0 2 f2 fd2 ["value", "low", "high"] (spIsInt K)) (m2 : mg "is_integer" = some (.ref f2)) (k2 : PySem.W.keepIn K (.ref f2) = true) (b2 : Binds K fd2 ["value", "low", "high"] [])
    (G3 : FnOk P w K mg base CX0 1 f3 fd3 ["base"] spLeast) (m3 : mg "_least_shift" = some (.ref f3)) (k3 : PySem.W.keepIn K (.ref f3) = true) (b3 : Binds K fd3 ["base"] [])
    (mM : mg "_MOST" = some (.int 3 t)) (M : Mk K C fI) (GI : FnOk P w K mg base CX0 3 fI fdI ["self", "base", "shift"] (spInit C)) (kI : KBn K fdI ["self", "base", "shift"] 2 ["shift"] g (fun vs zs => vs ++ zs)) :
    FnOk P w K mg base CX0 5 f fd ["self", "other"] (spAdd C) := by
  refine F.ok scAdd (fun vs H Q E h => ?_) (fun cdv A outer s H vs Q E hr h => ?_)
  · obtain ⟨a, z, k, i, rfl, _⟩ := h
    rfl
  · obtain ⟨a, z, k, i, rfl, ⟨dx, ha⟩, g1, g2, q⟩ := h
    refine ⟨_, PSs.nox (pss_cons (ps_if (pt_not (pt_val (pe_call G2 (hr.mono (by decide)) (by rfl) m2 k2 b2 .nil pass0 (pa_cons (pv 1) (pa_cons (pe_op op_sub (pe_call G3 (hr.mono (by decide)) (by rfl) m3 k3 b3 .nil pass0 (pa_cons (pe_fld (pv 0) rfl) pa_nil)) (pe_fld (pv 0) rfl))
        (pa_cons (pe_op op_sub (pe_glob (v := .int 3) rfl mM ⟨_, rfl⟩) (pe_fld (pv 0) rfl)) pa_nil)))))) (pss_one ps_never) pss_nil)
      (pss_one (ps_ret (pe_makeK M GI hr (by rfl) T.mgC kI pass0 (pa_cons (pe_fld (pv 0) rfl) pa_nil) (pk_cons (pe_op op_add (pe_fld (pv 0) rfl) (pv 1)) pk_nil))))), ?_⟩
    refine ⟨_, rfl, _, rfl, a, C, dx, _, _, rfl, ha, T.cl, T.nB, plF_base, z, rfl, _, rfl, a, C, dx, _, _, rfl, ha, T.cl, T.nS, plF_shift, _, _, rfl, rfl, ?_⟩
    refine ⟨_, rfl, a, C, dx, _, _, rfl, ha, T.cl, T.nS, plF_shift, _, _, rfl, rfl, .int i, _, _, rfl, .int i, _, rfl, ?_⟩
    have e : inB (lowS z - k) (3 - k) (.int i) = true := by
      have h1 := g2.2.2.2.1
      have h2 := g2.2.2.2.2
      show (decide (lowS z - k ≤ i) && decide (i ≤ 3 - k)) = true
      rw [decide_eq_true (by omega), decide_eq_true (by omega)]
      rfl
    rw [e]
    refine iteF ⟨_, rfl, a, C, dx, _, _, rfl, ha, T.cl, T.nB, plF_base, _, rfl, a, C, dx, _, _, rfl, ha, T.cl, T.nS, plF_shift, _, rfl, _, _, rfl, rfl, rfl, rfl, fun p dp np ndp nn => ?_⟩
    refine ⟨p, dp, z, k + i, rfl, upd_same, g2.1, g2.2.1, g2.2.2.1, g2.2.2.2.1, g2.2.2.2.2, fun H' u t' => ⟨rfl, q p H' np (fun r o hro => u r o (ne_of_none hro np) ?_) ⟨dp, t'⟩⟩⟩
    rw [upd_ne (ne_of_none hro np), upd_ne (ne_of_none hro ndp)]
    exact hro
end
end Mz
set_option Elab.async false
set_option linter.all false
set_option maxRecDepth 100000
set_option maxHeartbeats 4000000
namespace Mz
open PySem PySem.Spec PyProof.Rows L2
theorem sign_ok {z : Str} {c : Nat} (ok : PyData.strOk z = true) (h : c ∈ z.cps.toList) : PyData.strOk ⟨#[c]⟩ = true := by
  have h1 : c < 0x110000 := by
    unfold PyData.strOk at ok
    rw [Array.all_eq_true_iff_forall_mem] at ok
    exact of_decide_eq_true (ok c (Array.mem_toList_iff.mp h))
  unfold PyData.strOk
  simp only [Array.all_eq_true_iff_forall_mem]
  intro x hx
  have e : x = c := by simpa using hx
  rw [e]
  exact decide_eq_true h1
/-! texts of a bounded length, of signs that are some -/
def Sm (n : Nat) (z : Str) : Prop := z.length ≤ n ∧ PyData.strOk z = true
theorem strOk_iff {z : Str} : PyData.strOk z = true ↔ ∀ c ∈ z.cps.toList, c < 0x110000 := by
  unfold PyData.strOk
  rw [Array.all_eq_true_iff_forall_mem]
  exact ⟨fun h c hc => of_decide_eq_true (h c (Array.mem_toList_iff.mp hc)), fun h c hc => decide_eq_true (h c (Array.mem_toList_iff.mpr hc))⟩
theorem Sm.mono {n m : Nat} {z : Str} (h : Sm n z) (le : n ≤ m) : Sm m z := ⟨Nat.le_trans h.1 le, h.2⟩
theorem Sm.app {n m : Nat} {y z : Str} (hy : Sm n y) (hz : Sm m z) : Sm (n + m) (y ++ z) := by
  refine ⟨by rw [strLen_append]; exact Nat.add_le_add hy.1 hz.1, strOk_iff.mpr fun c hc => ?_⟩
  have hc2 : c ∈ (y.cps ++ z.cps).toList := hc
  rw [Array.toList_append] at hc2
  rcases List.mem_append.mp hc2 with e | e
  · exact strOk_iff.mp hy.2 c e
  · exact strOk_iff.mp hz.2 c e
theorem Sm.cut {n : Nat} {z : Str} (h : Sm n z) (lo hi : Option Int) : Sm n (cutS z lo hi) := by
  unfold cutS
  refine ⟨?_, strOk_iff.mpr fun c hc => ?_⟩
  · show ((z.cps.toList.drop _).take _).toArray.size ≤ n
    rw [List.size_toArray, List.length_take, List.length_drop]
    have e : z.cps.toList.length = z.length := rfl
    have := h.1
    omega
  · exact strOk_iff.mp h.2 c (List.mem_of_mem_drop (List.mem_of_mem_take hc))
theorem sm_sign {z : Str} {c : Nat} (ok : PyData.strOk z = true) (h : c ∈ z.cps.toList) : Sm 1 ⟨#[c]⟩ := ⟨Nat.le_refl _, sign_ok ok h⟩
theorem join_ok : ∀ l : List Str, (∀ y ∈ l, PyData.strOk y = true) → PyData.strOk (Str.join "" l) = true
  | [], _ => by decide +kernel
  | [x], h => h x List.mem_cons_self
  | x :: y :: r, h => by
    have h1 := h x List.mem_cons_self
    have h2 := join_ok (y :: r) fun z hz => h z (List.mem_cons_of_mem _ hz)
    show PyData.strOk (x ++ "" ++ Str.join "" (y :: r)) = true
    exact (Sm.app (Sm.app ⟨Nat.le_refl _, h1⟩ ⟨Nat.le_refl _, by decide +kernel⟩) ⟨Nat.le_refl _, h2⟩).2
theorem sum_ones : ∀ l : List Str, (∀ y ∈ l, Sm 1 y) → (l.map (·.length)).sum ≤ l.length
  | [], _ => Nat.le_refl _
  | x :: r, h => by
    have h1 := (h x List.mem_cons_self).1
    have h2 := sum_ones r fun z hz => h z (List.mem_cons_of_mem _ hz)
    rw [List.map_cons, List.sum_cons, List.length_cons]
    omega
theorem sm_join {l : List Str} (h : ∀ y ∈ l, Sm 1 y) : Sm l.length (Txt.join "" l) := by
  unfold Txt.join
  rw [StrLaws.glued_eq_join]
  refine ⟨?_, join_ok l fun y hy => (h y hy).2⟩
  have e := StrLaws.join_length_le "" l
  have e2 := sum_ones l h
  have e3 : l.length * ("" : Str).length = 0 := by
    rw [show ("" : Str).length = 0 by decide +kernel, Nat.mul_zero]
  omega
theorem atI_in {a : Type} {l : List a} {i : Int} (h0 : 0 ≤ i) (h1 : i < (l.length : Int)) : ∃ c, atI l i = some c ∧ c ∈ l := by
  obtain ⟨k, rfl⟩ := Int.eq_ofNat_of_zero_le h0
  have hk : k < l.length := by omega
  exact ⟨l[k], atI_nat (List.getElem?_eq_getElem hk), List.getElem_mem hk⟩
theorem str_empty {z : Str} (h : z.length = 0) : z = "" := by
  obtain ⟨l⟩ := z
  have e : l = #[] := Array.eq_empty_of_size_eq_zero h
  rw [e]
  rfl
theorem same_nw {H : Hp} {p : Addr} {o : HO} (h : H p = none) : Same H (upd H p o) := fun q u e => by
  rw [upd_ne (ne_of_none e h)]
  exact e
end Mz
set_option Elab.async false
set_option linter.all false
set_option maxRecDepth 100000
set_option maxHeartbeats 4000000
namespace Mz
open PySem PySem.Spec PyProof.Rows L2
def numS (z : Str) : Option Int := if z = "0" then some 0 else if z = "1" then some 1 else if z = "2" then some 2 else if z = "3" then some 3 else none
def shS (z : Str) : Option Int := if z = "-3" then some (-3) else if z = "-2" then some (-2) else if z = "-1" then some (-1) else if z = "+1" then some 1 else if z = "+2" then some 2 else if z = "+3" then some 3 else none
def headS (z : Str) : Str := cutS z none (some (-2))
def tailS (z : Str) : Str := cutS z (some (-2)) none
/-- what the program reads out of a text -/
def partsS (z : Str) : Option (Str × Int) :=
  match numS z with
  | some n => some ("", n)
  | none => if nameS z = true then some (z, 0) else if nameS (headS z) = true then (match shS (tailS z) with | some k => some (headS z, k) | none => none) else none
/-- a written dict from texts to ints -/
def Tab (K : PySem.W.Frag) (w : World) (d : Addr) (f : Str → Option Int) : Prop := ∃ es n, KDict K w d es n ∧ ∀ z : Str, ∃ r, PySem.W.nsIn K d z = some r ∧ ((f z = none ∧ r = none) ∨ ∃ i t, f z = some i ∧ r = some (.int i t))
def spParts : Sp := fun vs H Q _ => ∃ z : Str, vs = [.str z] ∧ Sm 1000 z ∧ (partsS z = none → ∀ H', Same H H' → Q .non H') ∧ ∀ y k, partsS z = some (y, k) → ∀ p H', Same H H' → H p = none → H' p = some (.tup [.str y, .int k]) → Q (.ref p) H'
section
variable {P : Program} {w : World} {K : PySem.W.Frag} {mg : Str → Option Value} {base : Heap}
theorem scParts : FnScope ["text"] ["text"] (defScope sParts) := ⟨rfl, rfl, rfl, by decide +kernel, rfl, by decide +kernel, by decide +kernel⟩
theorem ok_parts {f f1 dN dS : Addr} {fd fd1 : FuncData} (F : Fun K "_parts_of_text" "_parts_of_text" sParts f fd) (G : FnOk P w K mg base CX0 1 f1 fd1 ["value"] (spIsName K)) (m1 : mg "is_name" = some (.ref f1)) (k1 : PySem.W.keepIn K (.ref f1) = true) (b1 : Binds K fd1 ["value"] [])
    (mN : mg "_NUMBERS" = some (.ref dN)) (mS : mg "_SHIFTS" = some (.ref dS)) (tN : Tab K w dN numS) (tS : Tab K w dS shS) : FnOk P w K mg base CX0 2 f fd ["text"] spParts := by
  refine F.ok scParts (fun vs H Q E h => ?_) (fun cdv A outer s H vs Q E hr h => ?_)
  · obtain ⟨z, rfl, _⟩ := h
    rfl
  · obtain ⟨z, rfl, hz, qn, qs⟩ := h
    obtain ⟨esN, nN, DN, lN⟩ := tN
    obtain ⟨esS, nS, DS, lS⟩ := tS
    have zl : z.length ≤ sizeLine := Nat.le_trans hz.1 (by decide)
    refine ⟨_, pss_cons (ps_if (pt_cmpR (op_in_kd DN) (pv 0) (pe_glob (v := .ref dN) rfl mN rfl) (by rfl)) (pss_one (ps_ret (pe_tup (pa_cons pe_str (pa_cons (pe_ix ix_kdict (pe_glob (v := .ref dN) rfl mN rfl) (pv 0) (fun _ _ => rfl)) pa_nil))))) pss_nil)
      (pss_cons (ps_if (pt_val (pe_call G hr (by rfl) m1 k1 b1 .nil pass0 (pa_cons (pv 0) pa_nil))) (pss_one (ps_ret (pe_tup (pa_cons (pv 0) (pa_cons pe_int pa_nil))))) pss_nil)
      (pss_cons (ps_if (PW.pt (pw_and (pt_val (pe_call G hr (by rfl) m1 k1 b1 .nil pass0 (pa_cons (pe_slice sl_str (pv 0) po_none (po_some (pe_un un_neg pe_int))) pa_nil))) (pw_and1 (pt_cmpR (op_in_kd DS) (pe_slice sl_str (pv 0) (po_some (pe_un un_neg pe_int)) po_none) (pe_glob (v := .ref dS) rfl mS rfl) (by rfl)))))
          (pss_one (ps_ret (pe_tup (pa_cons (pe_slice sl_str (pv 0) po_none (po_some (pe_un un_neg pe_int))) (pa_cons (pe_ix ix_kdict (pe_glob (v := .ref dS) rfl mS rfl) (pe_slice sl_str (pv 0) (po_some (pe_un un_neg pe_int)) po_none) (fun _ _ => rfl)) pa_nil))))) pss_nil)
      (pss_one (ps_ret pe_non)))), ?_⟩
    have kd : ∀ {H' : Hp} {y : Str}, Sm 1000 y → Kd K H' (.str y) := fun h => .str _ h.1 h.2
    obtain ⟨r, er, hr1⟩ := lN z
    refine ⟨_, rfl, z, r, rfl, rfl, er, _, rfl, ?_⟩
    rcases hr1 with ⟨e, rfl⟩ | ⟨i, t, e, rfl⟩
    · refine iteF ?_
      refine ⟨_, rfl, .str z, rfl, kd hz, fun H1 s1 => ⟨_, rfl, ite2 (fun hn => ?_) (fun hn => ?_)⟩⟩
      · have ep : partsS z = some (z, 0) := by
          unfold partsS
          rw [e]
          exact if_pos hn
        exact ⟨_, rfl, (by show 2 ≤ sizeLine; decide), fun p np => qs z 0 ep p _ (s1.trans (same_nw np)) (s1.free np) upd_same⟩
      · have nn : ¬ nameS z = true := hn
        have sh := hz.cut none (some (-2))
        have st := hz.cut (some (-2)) none
        refine ⟨_, rfl, _, rfl, _, rfl, z, rfl, zl, .str (headS z), rfl, kd sh, fun H2 s2 => ⟨_, rfl, ite2 (fun hh => ?_) (fun hh => ?_)⟩⟩
        · have nh : nameS (headS z) = true := hh
          obtain ⟨r, er, hr2⟩ := lS (tailS z)
          refine ⟨_, rfl, _, rfl, _, rfl, z, rfl, zl, tailS z, r, rfl, rfl, er, _, rfl, ?_⟩
          rcases hr2 with ⟨e2, rfl⟩ | ⟨i, t, e2, rfl⟩
          · refine iteF (qn ?_ H2 (s1.trans s2))
            unfold partsS
            rw [e]
            show (if nameS z = true then _ else _) = _
            rw [if_neg nn, if_pos nh, e2]
          · have ep : partsS z = some (headS z, i) := by
              unfold partsS
              rw [e]
              show (if nameS z = true then _ else _) = _
              rw [if_neg nn, if_pos nh, e2]
            refine iteT ⟨_, rfl, _, rfl, _, rfl, z, rfl, zl, ?_⟩
            refine ⟨_, rfl, _, rfl, _, rfl, z, rfl, zl, dS, tailS z, .int i, rfl, rfl, ⟨_, _, _, DS.at_, DS.lit, er, ⟨t, rfl⟩⟩, (by show 2 ≤ sizeLine; decide), fun p np => ?_⟩
            exact qs _ _ ep p _ ((s1.trans s2).trans (same_nw np)) ((s1.trans s2).free np) upd_same
        · refine qn ?_ H2 (s1.trans s2)
          unfold partsS
          rw [e]
          show (if nameS z = true then _ else _) = _
          rw [if_neg nn]
          exact if_neg hh
    · have ep : partsS z = some (("" : Str), i) := by
        unfold partsS
        rw [e]
      refine iteT ⟨_, rfl, dN, z, .int i, rfl, rfl, ⟨_, _, _, DN.at_, DN.lit, er, ⟨t, rfl⟩⟩, (by show 2 ≤ sizeLine; decide), fun p np => ?_⟩
      exact qs _ _ ep p _ (same_nw np) np upd_same
end
end Mz
set_option Elab.async false
set_option linter.all false
set_option maxRecDepth 100000
set_option maxHeartbeats 4000000
namespace Mz
open PySem PySem.Spec PyProof.Rows L2
/-- the types of int, bool, str, None are no places -/
structure Npl (K : PySem.W.Frag) (C : Addr) : Prop where
  int : PySem.W.kitOne K (.type "int") (.ref C) = some false
  bool : PySem.W.kitOne K (.type "bool") (.ref C) = some false
  str : PySem.W.kitOne K (.type "str") (.ref C) = some false
  non : PySem.W.kitOne K (.type "NoneType") (.ref C) = some false
/-- a value that is no place -/
def NoPl (K : PySem.W.Frag) (C : Addr) (H : Hp) (v : V) : Prop := Kd K H v ∧ Oty K C H v
/-- what a value that is no place reads as -/
def ofV : V → Option (Str × Int)
  | .int i => if 0 ≤ i ∧ i ≤ 3 then some ("", i) else none
  | .str z => partsS z
  | _ => none
/-- the exception's class, as the written part has it -/
structure Xcl (K : PySem.W.Frag) (mg : Str → Option Value) (x : Str) (C : Addr) (f : Str) : Prop where
  ox : OexC K C
  no : PySem.W.findIn K (.ref C) f = some none
  m : mg x = some (.ref C)
  xf : XfC K C
def spOf (K : PySem.W.Frag) (C cX : Addr) : Sp := fun vs H Q E => ∃ v, vs = [.ref C, v] ∧
  ((∃ a z k, v = .ref a ∧ Pl C H a z k ∧ Q v H) ∨
    (NoPl K C H v ∧ (∀ z k, ofV v = some (z, k) → ∀ p H', H p = none → Same H H' → Pl C H' p z k → Good z k → Q (.ref p) H') ∧
      (ofV v = none → ∀ d H', H d = none → Same H H' → H' d = some (.xd [("value", v)]) → E (.ref cX) (some d) H')))
theorem good_num {i : Int} (h0 : 0 ≤ i) (h1 : i ≤ 3) : Good "" i := ⟨by decide +kernel, by decide +kernel, .inl rfl, h0, h1⟩
theorem low_name {z : Str} (h : nameS z = true) : lowS z = -3 := if_neg fun e => by
  rw [e] at h
  exact absurd h (by decide +kernel)
theorem good_name {z : Str} {k : Int} (hz : Sm 1000 z) (h : nameS z = true) (h0 : -3 ≤ k) (h1 : k ≤ 3) : Good z k := ⟨hz.1, hz.2, .inr h, by rw [low_name h]; exact h0, h1⟩
theorem numS_rng {z : Str} {n : Int} (h : numS z = some n) : 0 ≤ n ∧ n ≤ 3 := by
  unfold numS at h
  repeat' split at h
  all_goals first | (cases h; omega) | cases h
theorem shS_rng {z : Str} {n : Int} (h : shS z = some n) : -3 ≤ n ∧ n ≤ 3 := by
  unfold shS at h
  repeat' split at h
  all_goals first | (cases h; omega) | cases h
theorem parts_good {z y : Str} {k : Int} (hz : Sm 1000 z) (h : partsS z = some (y, k)) : Good y k := by
  unfold partsS at h
  cases e : numS z with
  | some n =>
    rw [e] at h
    cases h
    exact good_num (numS_rng e).1 (numS_rng e).2
  | none =>
    rw [e] at h
    dsimp only at h
    by_cases hn : nameS z = true
    · rw [if_pos hn] at h
      cases h
      exact good_name hz hn (by decide) (by decide)
    · rw [if_neg hn] at h
      by_cases hh : nameS (headS z) = true
      · rw [if_pos hh] at h
        cases e2 : shS (tailS z) with
        | none =>
          rw [e2] at h
          cases h
        | some i =>
          rw [e2] at h
          cases h
          exact good_name (hz.cut _ _) hh (shS_rng e2).1 (shS_rng e2).2
      · rw [if_neg hh] at h
        cases h
section
variable {P : Program} {w : World} {K : PySem.W.Frag} {mg : Str → Option Value} {base : Heap}
theorem scXinit : FnScope ["self", "value"] ["self", "value"] (defScope (inClass sInvPlace 0)) := ⟨rfl, rfl, rfl, by decide +kernel, rfl, by decide +kernel, by decide +kernel⟩
theorem ok_xinit {f C cM : Addr} {fd : FuncData} (F : Fun K "__init__" "InvalidPlace.__init__" (inClass sInvPlace 0) f fd) (T : Xcl K mg "InvalidPlace" C "value") (mM : mg "MapError" = some (.ref cM)) (rd : ClX.CRead K cM (.type "type"))
    (fc : PySem.W.findCls K (.ref cM) (.type "type") "__init__" = some (.val (.builtin "ValueError.__init__"))) : FnOk P w K mg base CX0 1 f fd ["self", "value"] (spX1 K C "value") := by
  refine F.ok scXinit (fun vs H Q E h => ?_) (fun cdv A outer s H vs Q E hr h => ?_)
  · obtain ⟨a, v, rfl, _⟩ := h
    rfl
  · obtain ⟨a, v, rfl, ha, q⟩ := h
    refine ⟨_, pss_cons (ps_expr (pe_meinit (by rfl) mM rd fc (pa_cons (pv 0) (pa_cons pe_str pa_nil)))) (pss_one (ps_ost (pv 0) (pv 1))), ?_⟩
    refine ⟨_, rfl, a, C, _, rfl, (by show 1 ≤ 1000; decide), T.ox, ha, ?_⟩
    exact ⟨_, rfl, _, rfl, a, C, rfl, T.ox, T.no, .inl ⟨ha, fun dx n1 n2 => q dx n1 n2⟩⟩
theorem scOf : FnScope ["cls", "value", "parts", "base", "shift"] ["cls", "value"] (defScope (inClass sPlace 1)) := ⟨rfl, rfl, rfl, by decide +kernel, rfl, by decide +kernel, by decide +kernel⟩
theorem ok_of {f f2 fp fI C cX fX : Addr} {fd fd2 fdp fdI fdX : FuncData} {t : Tok} {g1 g2 : List Value → List Value → List Value} (F : Fun K "of" "Place.of" (inClass sPlace 1) f fd) (T : Cpl K mg C) (Y : Pty K C) (N : Npl K C) (B : Blt mg) (D : Blp mg)
    (G2 : FnOk P w K mg base CX0 2 f2 fd2 ["value", "low", "high"] (spIsInt K)) (m2 : mg "is_integer" = some (.ref f2)) (k2 : PySem.W.keepIn K (.ref f2) = true) (b2 : Binds K fd2 ["value", "low", "high"] [])
    (Gp : FnOk P w K mg base CX0 2 fp fdp ["text"] spParts) (mp : mg "_parts_of_text" = some (.ref fp)) (kp : PySem.W.keepIn K (.ref fp) = true) (bp : Binds K fdp ["text"] [])
    (mM : mg "_MOST" = some (.int 3 t)) (M : Mk K C fI) (GI : FnOk P w K mg base CX0 3 fI fdI ["self", "base", "shift"] (spInit C)) (kI1 : KBn K fdI ["self", "base", "shift"] 1 ["shift"] g1 (fun vs zs => vs ++ [.str ""] ++ zs)) (kI2 : KBn K fdI ["self", "base", "shift"] 2 ["shift"] g2 (fun vs zs => vs ++ zs))
    (TX : Xcl K mg "InvalidPlace" cX "value") (GX : FnOk P w K mg base CX0 1 fX fdX ["self", "value"] (spX1 K cX "value")) (iX : PySem.W.findIn K (.ref cX) "__init__" = some (some (.ref fX))) (tX : PySem.W.typeIn K (.ref fX) = some (.type "function")) (bX : Binds K fdX ["self", "value"] []) :
    FnOk P w K mg base (L2.CX P w) 5 f fd ["cls", "value"] (spOf K C cX) := by
  refine F.okX scOf (fun vs H Q E h => ?_) (fun cdv A outer s H vs Q E hr h => ?_)
  · obtain ⟨v, rfl, _⟩ := h
    rfl
  · obtain ⟨v, rfl, h⟩ := h
    have nd := scOf.nd
    have hr2 : Room 2 _ := hr.mono (by decide)
    refine ⟨_, pss_cons (ps_if (pt_val (pe_callB call_isi (by rfl) D.isi (by decide +kernel) (pa_cons (pv 1) (pa_cons (pe_glob (v := .ref C) rfl T.mgC rfl) pa_nil)))) (pss_one (ps_ret (pv 1))) pss_nil)
      (pss_cons (ps_if (pt_val (pe_call G2 hr2 (by rfl) m2 k2 b2 .nil pass0 (pa_cons (pv 1) (pa_cons pe_int (pa_cons (pe_glob (v := .int 3) rfl mM ⟨_, rfl⟩) pa_nil))))) (pss_one (ps_ret (pe_makeL0 (i := 0) rfl (.inl rfl) M GI hr kI1 pass0 (pk_cons (pv 1) pk_nil)))) pss_nil)
      (pss_cons (ps_set (i := 2) nd rfl (Or.inl rfl) (pe_ifExp (pt_val (pe_callB call_isi (by rfl) D.isi (by decide +kernel) (pa_cons (pv 1) (pa_cons (pe_bltn (v := .ty "str") (by rfl) D.str (by decide +kernel) rfl) pa_nil))))
        (pe_call Gp hr2 (by rfl) mp kp bp .nil pass0 (pa_cons (pv 1) pa_nil)) pe_non))
      (pss_cons (ps_if (pt_cmpR op_isN (pv 2) pe_non (nomark _)) (pss_one (ps_raise rfl (takes_of rfl rfl rfl rfl) (pmk_oex TX.ox iX tX GX (hr.mono (by decide)) bX .nil pass0 (by rfl) TX.m (pa_cons (pv 1) pa_nil)))) pss_nil)
      (pss_cons (ps_asg (pv 2) (pg_tup (by rfl) (pgs_cons (pg_name (i := 3) nd rfl (.inl rfl)) (pgs_cons (pg_name (i := 4) nd rfl (.inl rfl)) pgs_nil))))
      (pss_one (ps_ret (pe_makeL (i := 0) rfl (.inl rfl) M GI hr kI2 pass0 (pa_cons (pv 3) pa_nil) (pk_cons (pv 4) pk_nil)))))))), ?_⟩
    generalize hT4 : tSeq (tIfS (tTest _) (fun _ _ _ => _) _) _ = T4
    have made : ∀ (H1 : Hp), Same H H1 → ∀ y k, Good y k → (∀ p H', H p = none → Same H H' → Pl C H' p y k → Q (.ref p) H') → ∀ x dx, H1 x = none → H1 dx = none → dx ≠ x →
        spInit C [.ref x, .str y, .int k] (upd (upd H1 dx (.own x)) x (.ins C dx [])) (fun v H2 => v = .non ∧ Q (.ref x) H2) E0 := by
      intro H1 s1 y k g qq x dx nx ndx nn
      refine ⟨x, dx, y, k, rfl, upd_same, g.1, g.2.1, g.2.2.1, g.2.2.2.1, g.2.2.2.2, fun H' u t' => ⟨rfl, qq x H' (s1.free nx) (fun r o hro => u r o (ne_of_none (s1 _ _ hro) nx) ?_) ⟨dx, t'⟩⟩⟩
      rw [upd_ne (ne_of_none (s1 _ _ hro) nx), upd_ne (ne_of_none (s1 _ _ hro) ndx)]
      exact s1 _ _ hro
    have rest0 : ∀ H1, Same H H1 → (∀ d H', H d = none → Same H H' → H' d = some (.xd [("value", v)]) → E (.ref cX) (some d) H') → T4 { nx := fun _ H' => Q .non H', rt := Q } [some (.ref C), some v, some .non, none, none] H1 := by
      intro H1 s1 qE
      rw [← hT4]
      refine ⟨_, rfl, rfl, _, rfl, ite2 (fun _ => ?_) (fun x => (x (decide_eq_true rfl)).elim)⟩
      refine ⟨_, rfl, (by show 1 ≤ 1000; decide), fun a na => ⟨a, v, rfl, upd_same, fun dx n1 n2 => ⟨rfl, dx, [("value", v)], upd_same, ?_, ?_, ?_⟩⟩⟩
      · rw [upd_ne n2, upd_same]
      · rw [upd_ne n2] at n1
        exact n1
      · have n3 : H1 dx = none := by
          rw [upd_ne n2] at n1
          exact n1
        refine qE dx _ (s1.free n3) (fun b o hb => ?_) upd_same
        have x1 : b ≠ dx := ne_of_none (s1 _ _ hb) n3
        have x2 : b ≠ a := ne_of_none (s1 _ _ hb) na
        rw [upd_ne x1, del_ne x2, upd_ne x2, upd_ne x1, upd_ne x2]
        exact s1 _ _ hb
    have rest1 : ∀ H1 p y k, Same H H1 → H1 p = some (.tup [.str y, .int k]) → Good y k → (∀ p H', H p = none → Same H H' → Pl C H' p y k → Q (.ref p) H') → T4 { nx := fun _ H' => Q .non H', rt := Q } [some (.ref C), some v, some (.ref p), none, none] H1 := by
      intro H1 p y k s1 hp g qq
      rw [← hT4]
      refine ⟨_, rfl, rfl, _, rfl, ite2 (fun x => ?_) (fun _ => ?_)⟩
      · cases of_decide_eq_true x
      · refine ⟨_, rfl, p, _, rfl, SqT.of hp, rfl, ?_⟩
        exact ⟨_, _, rfl, _, _, rfl, rfl, rfl, _, rfl, _, rfl, rfl, rfl, made H1 s1 y k g qq⟩
    clear hT4
    refine ⟨_, rfl, ?_⟩
    rcases h with ⟨a, z, k, rfl, pa, q⟩ | ⟨⟨hk, t0, ty0, kt0⟩, qs, qE⟩
    · exact ⟨.ref a, .ref C, .ref C, .ref C, true, rfl, .own C, pa.ty Y, kit_self, true, rfl, iteT ⟨_, rfl, q⟩⟩
    · refine ⟨v, .ref C, t0, .ref C, false, rfl, .own C, ty0, kt0, false, rfl, iteF ?_⟩
      refine ⟨_, rfl, v, 0, 3, rfl, hk, _, rfl, ?_⟩
      cases hk with
      | int i =>
        refine ite2 (fun hc => ?_) (fun hc => ?_)
        · have hc2 : (decide (0 ≤ i) && decide (i ≤ 3)) = true := hc
          obtain ⟨h1, h2⟩ := Bool.and_eq_true_iff.mp hc2
          have h1 := of_decide_eq_true h1
          have h2 := of_decide_eq_true h2
          have e : ofV (.int i) = some (("" : Str), i) := if_pos ⟨h1, h2⟩
          exact ⟨rfl, _, rfl, rfl, rfl, made H (Same.refl H) "" i (good_num h1 h2) fun p H' n1 n2 n3 => qs "" i e p H' n1 n2 n3 (good_num h1 h2)⟩
        · have e : ofV (.int i) = none := if_neg fun x => hc (by
            show (decide (0 ≤ i) && decide (i ≤ 3)) = true
            rw [decide_eq_true x.1, decide_eq_true x.2]
            rfl)
          exact ⟨_, rfl, _, _, _, _, false, rfl, .ty _, .base (.int i), kit_ty (by decide +kernel), false, rfl, iteF (rest0 H (Same.refl H) (qE e))⟩
      | bl b => exact iteF ⟨_, rfl, _, _, _, _, false, rfl, .ty _, .base (.bl b), kit_ty (by decide +kernel), false, rfl, iteF (rest0 H (Same.refl H) (qE rfl))⟩
      | non => exact iteF ⟨_, rfl, _, _, _, _, false, rfl, .ty _, .base .non, kit_ty (by decide +kernel), false, rfl, iteF (rest0 H (Same.refl H) (qE rfl))⟩
      | oth a t ty ki ks => exact iteF ⟨_, rfl, _, _, _, _, false, rfl, .ty _, ty, ks, false, rfl, iteF (rest0 H (Same.refl H) (qE rfl))⟩
      | str z hz ok =>
        refine iteF ⟨_, rfl, _, _, _, _, true, rfl, .ty _, .base (.str z), kit_ty (by decide +kernel), true, rfl, iteT ⟨_, rfl, z, rfl, ⟨hz, ok⟩, fun e H1 s1 => rest0 H1 s1 (qE e), fun y k e p H1 s1 np hp => ?_⟩⟩
        have g := parts_good ⟨hz, ok⟩ e
        exact rest1 H1 p y k s1 hp g fun p H' n1 n2 n3 => qs y k e p H' n1 n2 n3 g
end
end Mz
set_option Elab.async false
set_option linter.all false
set_option maxRecDepth 100000
set_option maxHeartbeats 4000000
namespace Mz
open PySem PySem.Spec PyProof.Rows L2
/-! letters, by order and by the alphabet -/
def loC (c : Nat) : Bool := !decide ((⟨#[c]⟩ : Str).cps.toList < ("a" : Str).cps.toList)
def hiC (c : Nat) : Bool := !decide (("z" : Str).cps.toList < (⟨#[c]⟩ : Str).cps.toList)
theorem abc_range : abc.cps.toList = List.range' 97 26 := by decide +kernel
theorem one_lt (a b : Nat) : ([a] : List Nat) < [b] ↔ a < b := by
  rw [List.cons_lt_cons_iff]
  simp
theorem letter_eq (c : Nat) : (loC c && hiC c) = decide (c ∈ abc.cps.toList) := by
  have e1 : loC c = decide (97 ≤ c) := by
    unfold loC
    rw [show ("a" : Str).cps.toList = [97] by decide +kernel]
    show (!decide (([c] : List Nat) < [97])) = _
    rw [decide_eq_decide.mpr (one_lt c 97)]
    by_cases h : c < 97
    · rw [decide_eq_true h, decide_eq_false (by omega)]; rfl
    · rw [decide_eq_false h, decide_eq_true (by omega)]; rfl
  have e2 : hiC c = decide (c ≤ 122) := by
    unfold hiC
    rw [show ("z" : Str).cps.toList = [122] by decide +kernel]
    show (!decide (([122] : List Nat) < [c])) = _
    rw [decide_eq_decide.mpr (one_lt 122 c)]
    by_cases h : 122 < c
    · rw [decide_eq_true h, decide_eq_false (by omega)]; rfl
    · rw [decide_eq_false h, decide_eq_true (by omega)]; rfl
  rw [e1, e2, abc_range, ← Bool.decide_and]
  refine decide_eq_decide.mpr ?_
  rw [List.mem_range'_1]
  omega
theorem dp_strs {K : PySem.W.Frag} {H : Hp} : ∀ l : List Str, DpAll K H (l.map V.str) (l.map PyData.str)
  | [] => .nil
  | z :: l => .cons (.str z) (dp_strs l)
theorem strs_lay : ∀ l : List Str, (∀ z ∈ l, PyData.strOk z = true) → PyData.canLayAll0 (l.map PyData.str) = true ∧ PyData.depthAll (l.map PyData.str) = 0
  | [], _ => ⟨rfl, rfl⟩
  | z :: l, ok => by
    obtain ⟨h1, h2⟩ := strs_lay l fun y hy => ok y (List.mem_cons_of_mem _ hy)
    have h3 := ok z List.mem_cons_self
    rw [List.map_cons]
    refine ⟨?_, ?_⟩
    · simp [PyData.canLayAll0, PyData.canLay0, h1, h3]
    · simp [PyData.depthAll, PyData.depth, h2]
theorem shaped_strs (l : List Str) (ok : ∀ z ∈ l, PyData.strOk z = true) : SeqAt.shaped (.list (l.map PyData.str)) = true := by
  obtain ⟨h1, h2⟩ := strs_lay l ok
  unfold SeqAt.shaped
  simp [PyData.canLay0, PyData.depth, h1, h2]
theorem eqv_nil {xs : List PyData} : PyData.eqv (.list xs) (.list []) = xs.isEmpty := by
  cases xs <;> rfl
end Mz
set_option Elab.async false
set_option linter.all false
set_option maxRecDepth 100000
set_option maxHeartbeats 4000000
/-! a class called in a try: what is raised is wished for at the caller's slots -/
namespace Mz
open PySem PySem.Spec PyProof.Rows L2
section
variable {X : Cx} {CX : CXT} {k n : Nat} {f C : Addr} {fd : FuncData} {ps ks : List Str} {sp : Sp} {x : Str} {p pos : Pos} {e : Expr} {es : List Expr} {kws : List Keyword} {t tk : TA} {g : List Value → List Value → List Value} {gV : List V → List V → List V}
theorem run_makeKS {E : XK} {pins : List (Addr × Obj)} {σ : L2.St} {H : Hp} {s : Shared} {Q : VK} {us ws : List Value} {vs zs : List V} (M : Mk X.K C f) (F : FnOk X.prog X.w X.K X.mg X.base CX k f fd ps sp) (hr : Room (k + 1) X.A) (hb : KBn X.K fd ps (n + 1) ks g gV) (hx : PassesAt CX X σ E)
    (I : Inv X pins σ H s) (r : Vals vs us) (rz : Vals zs ws) (l1 : vs.length = n) (l2 : zs.length = ks.length)
    (h : ∀ x dx, H x = none → H dx = none → dx ≠ x → sp (gV (.ref x :: vs) zs) (upd (upd H dx (.own x)) x (.ins C dx [])) (fun v H2 => v = .non ∧ Q (.ref x) H2) E) :
    wpAny (model X.prog X.w) X.A (call (.ref C) us (ks.zip ws)) (EP X pins σ Q) X.xe s := by
  have hq := h (s.heap.objs.size + 1) s.heap.objs.size (I.hok.fresh (Nat.le_succ _)) (I.hok.fresh (Nat.le_refl _)) (Nat.ne_of_lt (Nat.lt_succ_self _))
  have I2 := Inv.made (C := C) I
  have r1 : Vals (V.ref (s.heap.objs.size + 1) :: vs) (Value.ref (s.heap.objs.size + 1) :: us) := .cons rfl r
  have r2 := hb.rel r1 rz
  have n1 : (Value.ref (s.heap.objs.size + 1) :: us).length = n + 1 := by
    rw [List.length_cons, ← r.length, l1]
  refine wpAny_call (make_map (f := f) I.kIn M.makes M.init (beq_iff_eq.mp M.fn) (codeAny_mono (F.run _ X.stack _ _ ⟨Value.ref (s.heap.objs.size + 1) :: us, ks.zip ws⟩ (g (Value.ref (s.heap.objs.size + 1) :: us) ws) _ _ E (hr.make C us (ks.zip ws))
    (I2.env0.make C us (ks.zip ws)) (hb.to _ (Value.ref (s.heap.objs.size + 1) :: us) ws I2.kIn n1 (rz.length.symm.trans l2)) r2 hq) fun r s' hq' => ?_))
  cases r with
  | error e => exact hx pins _ _ e s' I2 hq'
  | ok fl =>
    cases fl with
    | ret u =>
      obtain ⟨v, H', I3, rv, ev, q3⟩ := I2.after hq'
      subst ev
      exact ⟨rv, ⟨V.ref (s.heap.objs.size + 1), H', I3, rfl, q3⟩⟩
    | next => exact False.elim hq'
    | brk => exact False.elim hq'
    | cont => exact False.elim hq'
/-- C(e, .., k = v, ..) -/
theorem pe_makeKS {ES : L2.St → XK} (M : Mk X.K C f) (F : FnOk X.prog X.w X.K X.mg X.base CX k f fd ps sp) (hr : Room (k + 1) X.A) (hg : Gl X x) (hm : X.mg x = some (.ref C)) (hb : KBn X.K fd ps (n + 1) ks g gV) (hx : ∀ σ, PassesAt CX X σ (ES σ)) (ha : PA X (e :: es) t) (hkw : PK X kws tk)
    (hall : (backToKw pos (keywordEach kws X.env)).all (·.1.isSome) = true := by rfl) (hks : (backToKw pos (keywordEach kws X.env)).filterMap (·.1) = ks := by rfl) (hdb : (x == ("__debug__" : Str)) = false := by decide)
    (he : starEach (e :: es) X.env = (false, eval e X.env) :: starEach es X.env := by rfl) (hpl : ((backTo pos (starEach (e :: es) X.env)).any (·.1) || (backToKw pos (keywordEach kws X.env)).any (·.1.isNone)) = false := by rfl) :
    PE X (.Call (.Name x p) (e :: es) kws pos) (fun σ H Q => tMakeK C n ks.length sp gV (ES σ) t tk σ H Q) := by
  refine ⟨fun pins s σ H Q I h => ?_⟩
  refine wpAny_Call_Name_kw (ld_glob I hg hm ?_ hdb)
  refine PySem.W.callWith_KW (h₀ := X.base) I.ok.mod.kin M.kp hall (thn (ha.run pos pins s σ H _ I h) fun us s1 ⟨vs, H1, I1, r, q⟩ => ?_) hpl he
  refine thn (hkw.run pos pins s1 σ H1 _ I1 q) fun ws s2 ⟨zs, H2, I2, rz, l1, l2, q2⟩ => ⟨I2.kIn, ?_⟩
  rw [hks]
  exact run_makeKS M F hr hb (hx σ) I2 r rz l1 l2 q2
/-- f"{x}", x an instance with an own __str__ -/
theorem pe_fmtO {j : Nat} {te : TE} (he : PE X e te) (F : FnOk X.prog X.w X.K X.mg X.base CX0 j f fd ["self"] sp) (hr : Room (j + 2) X.A) (hb : Binds X.K fd ["self"] []) (hs : PySem.W.findIn X.K (.ref C) "__str__" = some (some (.ref f))) (hf : PySem.W.isFn X.K (.ref f) = true)
    (hfm : PySem.W.findIn X.K (.ref C) "__format__" = some (some (.builtin "object.__format__"))) (hm : PySem.W.mroIn X.K C (.type "object") = some true) :
    PE X (.FormattedValue e (-1) none pos) (fun σ H Q => te σ H fun x H1 => ∃ a dx fs, x = .ref a ∧ H1 a = some (.ins C dx fs) ∧ sp [.ref a] H1 (fun v H2 => ∃ z : Str, v = .str z ∧ z.length ≤ sizeLine ∧ Q (.str z) H2) E0) := by
  refine ⟨fun pins s σ H Q I h => ?_⟩
  refine wpAny_FormattedValue_plain (thn (he.run pins s σ H _ I h) fun v s1 hv => ?_)
  obtain ⟨x, H1, I1, r1, a, dx, fs, rfl, ha, q⟩ := hv
  obtain rfl : v = Value.ref a := r1
  obtain ⟨mA, O, _⟩ := ins_get I1.hok ha
  obtain ⟨od, J, _⟩ := O.look
  refine PySem.W.kfo_fieldS hr.in1.units0 I1.kIn J hfm hm hs hf ?_
  refine wpAny_mono (run_at (E := E0) (E2 := X.xe) (vs := [.ref a]) (us := [.ref a]) (F.mono (Nat.le_refl _)) (hr.in1.mono (Nat.le_succ _)) (I1.tok _).env0.in1 hb (fun _ _ z => z.elim) (I1.tok _) (.cons rfl .nil) q) (fun u s2 hv => ?_) fun _ _ z => z
  obtain ⟨w, H2, I2, rv, z, rfl, _, q2⟩ := hv
  obtain ⟨tk, rfl⟩ := rv
  exact ⟨.str z, H2, I2, ⟨tk, rfl⟩, q2⟩
end
end Mz
set_option Elab.async false
set_option linter.all false
set_option maxRecDepth 100000
set_option maxHeartbeats 4000000
namespace Mz
open PySem PySem.Spec PyProof.Rows L2
theorem pos_len {z : Str} (h : ¬ z = "") : 0 < z.length := Nat.pos_of_ne_zero fun x => h (str_empty x)
theorem int_fits {i : Int} (h0 : 0 ≤ i) (h1 : i < 12) : i.natAbs.log2 < 1920 := by
  have h : i.natAbs < 2 ^ 4 := by omega
  exact Nat.lt_trans (PySem.Flt.log2_lt_of (by decide) h) (by decide)
theorem sm_str12 {i : Int} (h0 : 0 ≤ i) (h1 : i < 12) : Sm 100 (Str.ofString (toString i)) := by
  obtain ⟨k, rfl⟩ := Int.eq_ofNat_of_zero_le h0
  have hk : k < 12 := by omega
  have all : ∀ k : Fin 12, Sm 100 (Str.ofString (toString ((k.val : Nat) : Int))) := by
    unfold Sm
    decide +kernel
  exact all ⟨k, hk⟩
/-- repr of data or of a text with a dict -/
def rReprU (K : PySem.W.Frag) : List V → Hp → VK → Prop := fun xs H Q => rReprD K xs H Q ∨ rRepr2 xs H Q
theorem call_reprU {X : Cx} (g0 : X.A.guards = some []) (hu : X.A.units + 64 < cLine) : CallR X (.builtin "repr") (rReprU X.K) := by
  intro pins s σ H xs us Q I r h
  rcases h with h | h
  · exact call_reprD g0 hu pins s σ H xs us Q I r h
  · exact call_repr2 g0 hu pins s σ H xs us Q I r h
theorem list2_len (a b : Str) : (listText [a, b]).length = a.length + b.length + 4 := by
  show ((("[" ++ ((if 0 > 0 then ", " else "" : String) : Str) ++ a) ++ ((if 1 > 0 then ", " else "" : String) : Str) ++ b) ++ "]" : Str).length = _
  rw [if_neg (by decide), if_pos (by decide)]
  simp only [strLen_append]
  have e1 : (("[" : String) : Str).length = 1 := by decide +kernel
  have e2 : (("" : String) : Str).length = 0 := by decide +kernel
  have e3 : ((", " : String) : Str).length = 2 := by decide +kernel
  have e4 : (("]" : String) : Str).length = 1 := by decide +kernel
  rw [e1, e2, e3, e4]
  omega
theorem list3_len (a b c : Str) : (listText [a, b, c]).length = a.length + b.length + c.length + 6 := by
  show (((("[" ++ ((if 0 > 0 then ", " else "" : String) : Str) ++ a) ++ ((if 1 > 0 then ", " else "" : String) : Str) ++ b) ++ ((if 2 > 0 then ", " else "" : String) : Str) ++ c) ++ "]" : Str).length = _
  rw [if_neg (by decide), if_pos (by decide), if_pos (by decide)]
  simp only [strLen_append]
  have e1 : (("[" : String) : Str).length = 1 := by decide +kernel
  have e2 : (("" : String) : Str).length = 0 := by decide +kernel
  have e3 : ((", " : String) : Str).length = 2 := by decide +kernel
  have e4 : (("]" : String) : Str).length = 1 := by decide +kernel
  rw [e1, e2, e3, e4]
  omega
theorem repr_len {z : Str} {n : Nat} (h : Sm n z) : (reprText z).length ≤ 10 * n + 2 := by
  have h1 := StrLaws.reprText_len z fun c hc => Nat.lt_trans (strOk_iff.mp h.2 c hc) (by decide)
  have h2 := h.1
  omega
theorem kshift_text {k : Int} (h0 : -3 ≤ k) (h1 : k ≤ 3) : (Str.ofString (toString k)).length ≤ 10 := by
  have all : ∀ i : Fin 7, (Str.ofString (toString (((i.val : Nat) : Int) - 3))).length ≤ 10 := by decide +kernel
  obtain ⟨i, hi⟩ := Int.eq_ofNat_of_zero_le (show 0 ≤ k + 3 by omega)
  have e : k = ((i : Nat) : Int) - 3 := by omega
  rw [e]
  exact all ⟨i, by omega⟩
section
variable {P : Program} {w : World} {K : PySem.W.Frag} {mg : Str → Option Value} {base : Heap}
/-- _law_take of the text -/
structure Tk (P : Program) (w : World) (K : PySem.W.Frag) (mg : Str → Option Value) (base : Heap) (f : Addr) (fd : FuncData) : Prop where
  ok : FnOk P w K mg base CX0 1 f fd ["_law_box_here", "_law_many"] spTake
  m : mg "_law_take" = some (.ref f)
  k : PySem.W.keepIn K (.ref f) = true
  b : Binds K fd ["_law_box_here", "_law_many"] []
end
theorem Bx.same {H H' : Hp} {b : Addr} {n : Nat} (s : Same H H') (h : Bx H b n) : Bx H' b n := by
  obtain ⟨x, y, z, e, r⟩ := h
  exact ⟨x, y, z, s _ _ e, r⟩
theorem Kp.same {H H' : Hp} {b : Addr} (s : Same H H') : Kp b H H' := fun p o _ e => s p o e
theorem ty_at {K : PySem.W.Frag} {H H' : Hp} {v : V} {t : Value} (s : ∀ a, v = .ref a → ∀ o, H a = some o → H' a = some o) (h : TyX K H v t) : TyX K H' v t := by
  cases h with
  | base b =>
    cases b with
    | non => exact .base .non
    | bl x => exact .base (.bl x)
    | int i => exact .base (.int i)
    | str x => exact .base (.str x)
    | flt x => exact .base (.flt x)
    | lst e => exact .base (.lst (s _ rfl _ e))
    | frz e => exact .base (.frz (s _ rfl _ e))
    | tup e => exact .base (.tup (s _ rfl _ e))
    | dK e => exact .base (.dK (s _ rfl _ e))
    | dT e => exact .base (.dT (s _ rfl _ e))
    | ins e cl ha hn htk hm => exact .base (.ins (s _ rfl _ e) cl ha hn htk hm)
  | byt b => exact .byt b
  | set e => exact .set (s _ rfl _ e)
  | kList e c => exact .kList e c
  | kTuple e c => exact .kTuple e c
  | kDict e c => exact .kDict e c
  | fTuple e => exact .fTuple (s _ rfl _ e)
  | fDict e => exact .fDict (s _ rfl _ e)
theorem Kd.at {K : PySem.W.Frag} {H H' : Hp} {v : V} (s : ∀ a, v = .ref a → ∀ o, H a = some o → H' a = some o) (h : Kd K H v) : Kd K H' v := by
  cases h with
  | int i => exact .int i
  | bl b => exact .bl b
  | str z h ok => exact .str z h ok
  | non => exact .non
  | oth a t ty ki ks => exact .oth a t (ty_at s ty) ki ks
/-- data that holds no object, or a list or tuple of such -/
inductive Flt : V → PyData → Prop
  | non : Flt .non .none
  | bl (b : Bool) : Flt (.bl b) (.bool b)
  | int (i : Int) : Flt (.int i) (.int i)
  | str (x : Str) : Flt (.str x) (.str x)
inductive FltAll : List V → List PyData → Prop
  | nil : FltAll [] []
  | cons {v : V} {d : PyData} {vs : List V} {ds : List PyData} : Flt v d → FltAll vs ds → FltAll (v :: vs) (d :: ds)
inductive Fl (H : Hp) : V → PyData → Prop
  | flat {v : V} {d : PyData} (h : Flt v d) : Fl H v d
  | lst {a : Addr} {xs : List V} {ds : List PyData} (h : H a = some (.lst xs)) (f : FltAll xs ds) : Fl H (.ref a) (.list ds)
  | tup {a : Addr} {xs : List V} {ds : List PyData} (h : H a = some (.tup xs)) (f : FltAll xs ds) : Fl H (.ref a) (.tuple ds)
theorem Flt.dp {K : PySem.W.Frag} {H : Hp} {v : V} {d : PyData} (h : Flt v d) : Dp K H v d := by
  cases h with
  | non => exact .non
  | bl b => exact .bl b
  | int i => exact .int i
  | str x => exact .str x
theorem FltAll.dp {K : PySem.W.Frag} {H : Hp} : ∀ {vs : List V} {ds : List PyData}, FltAll vs ds → DpAll K H vs ds
  | _, _, .nil => .nil
  | _, _, .cons h r => .cons h.dp r.dp
theorem Fl.dp {K : PySem.W.Frag} {H : Hp} {v : V} {d : PyData} (h : Fl H v d) : Dp K H v d := by
  cases h with
  | flat h => exact h.dp
  | lst h f => exact .lst (SqL.of h) f.dp
  | tup h f => exact .tup (SqT.of h) f.dp
theorem Fl.at {H H' : Hp} {v : V} {d : PyData} (s : ∀ a, v = .ref a → ∀ o, H a = some o → H' a = some o) (h : Fl H v d) : Fl H' v d := by
  cases h with
  | flat h => exact .flat h
  | lst h f => exact .lst (s _ rfl _ h) f
  | tup h f => exact .tup (s _ rfl _ h) f
/-- what can be shown -/
def Fit (d : PyData) : Prop := PyData.showable d = true ∧ PyData.hasDict d = false ∧ PyData.depth d < 50 ∧ (PyData.shown d).length ≤ 2000
/-- data that is no text -/
def Fb (K : PySem.W.Frag) (H : Hp) (v : V) : Prop := (∃ d, Fl H v d ∧ Fit d ∧ SeqAt.shaped d = true ∧ PyData.eqv d (.str "") = false) ∧ Kd K H v ∧ ∀ z, v ≠ .str z
/-- a base -/
def Bs (K : PySem.W.Frag) (C : Addr) (H : Hp) (v : V) : Prop := (∃ z, v = .str z ∧ Sm 100 z) ∨ Fb K H v ∨ ∃ a, v = .ref a ∧ Pl C H a "n" 0
/-- a shift -/
def Sv (K : PySem.W.Frag) (H : Hp) (v : V) : Prop := (∃ d, Fl H v d ∧ Fit d) ∧ Kd K H v
section
variable {K : PySem.W.Frag} {C : Addr} {H H' : Hp} {v : V}
theorem Fb.at (s : ∀ a, v = .ref a → ∀ o, H a = some o → H' a = some o) (h : Fb K H v) : Fb K H' v := by
  obtain ⟨⟨d, h1, h2⟩, h3, h4⟩ := h
  exact ⟨⟨d, h1.at s, h2⟩, h3.at s, h4⟩
theorem Bs.at (s : ∀ a, v = .ref a → ∀ o, H a = some o → H' a = some o) (h : Bs K C H v) : Bs K C H' v := by
  rcases h with h | h | ⟨a, rfl, dx, ha⟩
  · exact .inl h
  · exact .inr (.inl (h.at s))
  · exact .inr (.inr ⟨a, rfl, dx, s a rfl _ ha⟩)
theorem Sv.at (s : ∀ a, v = .ref a → ∀ o, H a = some o → H' a = some o) (h : Sv K H v) : Sv K H' v := by
  obtain ⟨⟨d, h1, h2⟩, h3⟩ := h
  exact ⟨⟨d, h1.at s, h2⟩, h3.at s⟩
theorem Bs.same (s : Same H H') (h : Bs K C H v) : Bs K C H' v := h.at fun a _ o e => s a o e
theorem Sv.same (s : Same H H') (h : Sv K H v) : Sv K H' v := h.at fun a _ o e => s a o e
theorem Bs.kp {b : Addr} (s : Kp b H H') (n : ∀ a, v = .ref a → a ≠ b) (h : Bs K C H v) : Bs K C H' v := h.at fun a e o ho => s a o (n a e) ho
theorem str_ext {a b : Str} (h : a.cps.toList = b.cps.toList) : a = b := by
  obtain ⟨x⟩ := a
  obtain ⟨y⟩ := b
  have e : x = y := Array.toList_inj.mp h
  rw [e]
theorem app_list (a b : Str) : (a ++ b).cps.toList = a.cps.toList ++ b.cps.toList := by
  show (a.cps ++ b.cps).toList = _
  rw [Array.toList_append]
theorem nil_list : ("" : Str).cps.toList = [] := by decide +kernel

def baseOk : V → Bool
  | .str z => decide (z = "") || nameS z
  | _ => false
end
/-- a value held against "" -/
def rNeU (K : PySem.W.Frag) (C : Addr) (sp : Sp) : R2 := fun x y H Q => rNe x y H Q ∨ rNeD K x y H Q ∨ ∃ a dx fs, x = .ref a ∧ H a = some (.ins C dx fs) ∧ Oth K C H y ∧ sp [.ref a, y] H (fun v H2 => ∃ b : Bool, v = .bl b ∧ Q (.bl (!b)) H2) E0
theorem op_neU {X : Cx} {k : Nat} {f C : Addr} {fd : FuncData} {ps : List Str} {sp : Sp} (F : FnOk X.prog X.w X.K X.mg X.base CX0 k f fd ps sp) (hr : Room (k + 1) X.A) (hb : Binds X.K fd ps []) (hs : PySem.W.findIn X.K (.ref C) "__eq__" = some (some (.ref f))) (hf : PySem.W.isFn X.K (.ref f) = true)
    (hn : PySem.W.findIn X.K (.ref C) "__ne__" = some (some (.builtin "object.__ne__"))) (hm : PySem.W.mroIn X.K C (.type "object") = some true) : OpR X (compareOp .NotEq) (rNeU X.K C sp) := by
  intro pins s σ H x y v u Q I rx ry h
  rcases h with h | h | h
  · exact op_ne pins s σ H x y v u Q I rx ry h
  · exact op_neD hr.units pins s σ H x y v u Q I rx ry h
  · exact op_neO F hr hb hs hf hn hm pins s σ H x y v u Q I rx ry h
section
variable {K : PySem.W.Frag} {C : Addr} {H : Hp} {v : V} {Q : VK}
theorem shaped_empty : SeqAt.shaped (.str "") = true := by decide +kernel
/-- what is no text is unlike "" -/
theorem Bs.ne (Y : Pty K C) (N : Npl K C) (h : Bs K C H v) : (∃ z, v = .str z ∧ Sm 100 z) ∨ ((∀ z, v ≠ .str z) ∧ ∀ Q : VK, Q (.bl true) H → rNeU K C (spEq K C) v (.str "") H Q) := by
  rcases h with h | ⟨⟨d, h1, h2, h3, h4⟩, h5, h6⟩ | ⟨a, rfl, pa⟩
  · exact .inl h
  · refine .inr ⟨h6, fun Q q => .inr (.inl ⟨d, .str "", h1.dp, .str "", h3, shaped_empty, ?_⟩)⟩
    rw [h4]
    exact q
  · obtain ⟨dx, ha⟩ := id pa
    exact .inr ⟨fun z e => (nomatch e), fun Q q => .inr (.inr ⟨a, dx, _, rfl, ha, ⟨_, .base (.str ""), by simp [PySem.W.notFirst]; rfl⟩, a, "n", 0, pa, .inr ⟨_, rfl, ⟨_, .base (.str ""), N.str⟩, false, rfl, q⟩⟩)⟩
theorem Bs.kd (Y : Pty K C) (ki : PySem.W.kitOne K (.ref C) (.type "int") = some false) (ks : PySem.W.kitOne K (.ref C) (.type "str") = some false) (h : Bs K C H v) : Kd K H v := by
  rcases h with ⟨z, rfl, h⟩ | ⟨_, h, _⟩ | ⟨a, rfl, pa⟩
  · exact .str z (Nat.le_trans h.1 (by decide)) h.2
  · exact h
  · exact .oth a _ (pa.ty Y) ki ks
end
end Mz
set_option Elab.async false
set_option linter.all false
set_option maxRecDepth 100000
set_option maxHeartbeats 4000000
namespace Mz
open PySem PySem.Spec PyProof.Rows L2
/-- Place.of, as the text has it -/
structure OfM (P : Program) (w : World) (K : PySem.W.Frag) (mg : Str → Option Value) (base : Heap) (C cX po f : Addr) (fd : FuncData) : Prop where
  ok : FnOk P w K mg base (L2.CX P w) 5 f fd ["cls", "value"] (spOf K C cX)
  rd : ClX.CRead K C (.type "type")
  met : ClX.CMet K C (.type "type") "of" po f
  b : Binds K fd ["cls", "value"] []
section
variable {P : Program} {w : World} {K : PySem.W.Frag} {mg : Str → Option Value} {base : Heap}
theorem scXinitI : FnScope ["self", "value"] ["self", "value"] (defScope (inClass sInvInt 0)) := ⟨rfl, rfl, rfl, by decide +kernel, rfl, by decide +kernel, by decide +kernel⟩
theorem ok_xinitI {f C cM : Addr} {fd : FuncData} (F : Fun K "__init__" "InvalidInteger.__init__" (inClass sInvInt 0) f fd) (T : Xcl K mg "InvalidInteger" C "value") (mM : mg "MapError" = some (.ref cM)) (rd : ClX.CRead K cM (.type "type"))
    (fc : PySem.W.findCls K (.ref cM) (.type "type") "__init__" = some (.val (.builtin "ValueError.__init__"))) : FnOk P w K mg base CX0 1 f fd ["self", "value"] (spX1 K C "value") := by
  refine F.ok scXinitI (fun vs H Q E h => ?_) (fun cdv A outer s H vs Q E hr h => ?_)
  · obtain ⟨a, v, rfl, _⟩ := h
    rfl
  · obtain ⟨a, v, rfl, ha, q⟩ := h
    refine ⟨_, pss_cons (ps_expr (pe_meinit (by rfl) mM rd fc (pa_cons (pv 0) (pa_cons pe_str pa_nil)))) (pss_one (ps_ost (pv 0) (pv 1))), ?_⟩
    refine ⟨_, rfl, a, C, _, rfl, (by show 1 ≤ 1000; decide), T.ox, ha, ?_⟩
    exact ⟨_, rfl, _, rfl, a, C, rfl, T.ox, T.no, .inl ⟨ha, fun dx n1 n2 => q dx n1 n2⟩⟩
theorem scXinitS : FnScope ["self", "value"] ["self", "value"] (defScope (inClass sInvSet 0)) := ⟨rfl, rfl, rfl, by decide +kernel, rfl, by decide +kernel, by decide +kernel⟩
theorem ok_xinitS {f C cM : Addr} {fd : FuncData} (F : Fun K "__init__" "InvalidSetting.__init__" (inClass sInvSet 0) f fd) (T : Xcl K mg "InvalidSetting" C "value") (mM : mg "MapError" = some (.ref cM)) (rd : ClX.CRead K cM (.type "type"))
    (fc : PySem.W.findCls K (.ref cM) (.type "type") "__init__" = some (.val (.builtin "ValueError.__init__"))) : FnOk P w K mg base CX0 1 f fd ["self", "value"] (spX1 K C "value") := by
  refine F.ok scXinitS (fun vs H Q E h => ?_) (fun cdv A outer s H vs Q E hr h => ?_)
  · obtain ⟨a, v, rfl, _⟩ := h
    rfl
  · obtain ⟨a, v, rfl, ha, q⟩ := h
    refine ⟨_, pss_cons (ps_expr (pe_meinit (by rfl) mM rd fc (pa_cons (pv 0) (pa_cons pe_str pa_nil)))) (pss_one (ps_ost (pv 0) (pv 1))), ?_⟩
    refine ⟨_, rfl, a, C, _, rfl, (by show 1 ≤ 1000; decide), T.ox, ha, ?_⟩
    exact ⟨_, rfl, _, rfl, a, C, rfl, T.ox, T.no, .inl ⟨ha, fun dx n1 n2 => q dx n1 n2⟩⟩
/-- an exception of one field made -/
theorem mko_x1 {K : PySem.W.Frag} {cE : Addr} {i : Nat} {u : V} {σ : L2.St} {H1 : Hp} {E : XK} (hi : σ[i]? = some (some u)) (q : ∀ d H', H1 d = none → Same H1 H' → H' d = some (.xd [("value", u)]) → E (.ref cE) (some d) H') : tMkO cE (spX1 K cE "value") [] (tCons (tVar i) tNil) σ H1 E := by
  refine ⟨_, hi, (by show 1 ≤ 1000; decide), fun a na => ⟨a, u, rfl, upd_same, fun dx n1 n2 => ⟨rfl, dx, [("value", u)], upd_same, ?_, ?_, ?_⟩⟩⟩
  · rw [upd_ne n2, upd_same]
  · rw [upd_ne n2] at n1
    exact n1
  · have n3 : H1 dx = none := by
      rw [upd_ne n2] at n1
      exact n1
    refine q dx _ n3 (fun b o hb => ?_) upd_same
    have x1 : b ≠ dx := ne_of_none hb n3
    have x2 : b ≠ a := ne_of_none hb na
    rw [upd_ne x1, del_ne x2, upd_ne x2, upd_ne x1, upd_ne x2]
    exact hb
end
/-! settings -/
/-- an integer from lo on -/
def fromB (lo : Int) : V → Bool
  | .int i => decide (lo ≤ i)
  | _ => false
def spIsFrom (K : PySem.W.Frag) : Sp := fun vs H Q _ => ∃ v lo, vs = [v, .int lo] ∧ Kd K H v ∧ Q (.bl (fromB lo v)) H
/-- a key and a value of a dict that is given -/
def KvOk (K : PySem.W.Frag) (H : Hp) (kv : Key × V) : Prop := (∀ z, kv.1 = .inr z → Sm 1000 z) ∧ Kd K H kv.2
def kvB (kv : Key × V) : Bool := nameV (kV kv.1) && fromB 0 kv.2
/-- sizes -/
def sizesB (kvs : List (Key × V)) : Bool := decide (kvs.length ≤ 2) && kvs.all kvB
/-- what is given as sizes: a dict or none -/
def Gv (K : PySem.W.Frag) (H : Hp) (v : V) (r : Option (Addr × List (Key × V))) : Prop := (r = none ∧ ∃ t, TyX K H v t ∧ PySem.W.kitOne K t (.type "dict") = some false) ∨ ∃ a kvs, r = some (a, kvs) ∧ v = .ref a ∧ H a = some (.dK kvs) ∧ ∀ kv ∈ kvs, KvOk K H kv ∧ kv.2 ≠ .ref a
def givenB : Option (Addr × List (Key × V)) → Bool
  | none => false
  | some r => sizesB r.2
def spAre (K : PySem.W.Frag) : Sp := fun vs H Q _ => ∃ v r, vs = [v] ∧ Gv K H v r ∧ ∀ H', Same H H' → Q (.bl (givenB r)) H'
def stF (d : Addr) (pg : Int) : List (Str × V) := putF "_page" (.int pg) (putF "_sizes" (.ref d) [])
theorem stF_sizes {d : Addr} {pg : Int} : (stF d pg).lookup ("_sizes" : Str) = some (.ref d) := by
  unfold stF
  rw [lookup_putF, if_neg (by decide +kernel), lookup_putF, if_pos rfl]
theorem stF_page {d : Addr} {pg : Int} : (stF d pg).lookup ("_page" : Str) = some (.int pg) := by
  unfold stF
  rw [lookup_putF, if_pos rfl]
/-- a setting -/
def Stg (S : Addr) (H : Hp) (s : Addr) (kvs : List (Key × V)) (pg : Int) : Prop := ∃ dx d, H s = some (.ins S dx (stF d pg)) ∧ H d = some (.dK kvs)
structure Scl (K : PySem.W.Frag) (mg : Str → Option Value) (S : Addr) : Prop where
  cl : Cls K S
  nZ : NoAttr K S "_sizes"
  nP : NoAttr K S "_page"
  mgS : mg "Setting" = some (.ref S)
theorem Stg.same {S s : Addr} {H H' : Hp} {kvs : List (Key × V)} {pg : Int} (m : Same H H') (h : Stg S H s kvs pg) : Stg S H' s kvs pg := by
  obtain ⟨dx, d, h1, h2⟩ := h
  exact ⟨dx, d, m _ _ h1, m _ _ h2⟩
/-- a setting just made: its dict is new -/
def StgN (S : Addr) (H0 H : Hp) (s : Addr) (kvs : List (Key × V)) (pg : Int) : Prop := ∃ dx d, H s = some (.ins S dx (stF d pg)) ∧ H d = some (.dK kvs) ∧ H0 d = none
theorem StgN.stg {S s : Addr} {H0 H : Hp} {kvs : List (Key × V)} {pg : Int} (h : StgN S H0 H s kvs pg) : Stg S H s kvs pg := by
  obtain ⟨dx, d, h1, h2, _⟩ := h
  exact ⟨dx, d, h1, h2⟩
def spInitS (K : PySem.W.Frag) (S cS cI : Addr) : Sp := fun vs H Q E => ∃ p dx v m r, vs = [.ref p, v, m] ∧ H p = some (.ins S dx []) ∧ Gv K H v r ∧ Kd K H m ∧
  ((givenB r = true ∧ ∃ pg, m = .int pg ∧ 1 ≤ pg ∧ ∀ H', (∀ q o, q ≠ p → H q = some o → H' q = some o) → (∀ a kvs, r = some (a, kvs) → StgN S H H' p kvs pg) → Q .non H') ∨
    (givenB r = false ∧ ∀ d H', H d = none → Same H H' → H' d = some (.xd [("value", v)]) → E (.ref cS) (some d) H') ∨
    (givenB r = true ∧ fromB 1 m = false ∧ ∀ d H', H d = none → Same H H' → H' d = some (.xd [("value", m)]) → E (.ref cI) (some d) H'))
/-- the value of a place -/
def wtK (kvs : List (Key × V)) (z : Str) (k : Int) : Option Int := if z = "" then some k else match valV kvs (.inr z) with
  | some (.int n) => some (n + k)
  | _ => none
/-- what a value stands for, as a place: its value at a setting -/
def PlV (K : PySem.W.Frag) (C : Addr) (H : Hp) (kvs : List (Key × V)) (v : V) (wt : Option Int) : Prop :=
  (∃ a z k, v = .ref a ∧ Pl C H a z k ∧ wt = wtK kvs z k) ∨ (NoPl K C H v ∧ wt = (ofV v).bind fun x => wtK kvs x.1 x.2)
def KInt (kvs : List (Key × V)) : Prop := ∀ z v, valV kvs (.inr z) = some v → ∃ n, v = .int n
def spGetS (K : PySem.W.Frag) (S C cX : Addr) : Sp := fun vs H Q E => ∃ s v kvs pg wt, vs = [.ref s, v] ∧ Stg S H s kvs pg ∧ KInt kvs ∧ PlV K C H kvs v wt ∧ (∀ n, wt = some n → ∀ H', Same H H' → Q (.int n) H') ∧
  (wt = none → ∀ d H', H d = none → Same H H' → H' d = some (.xd [("value", v)]) → E (.ref cX) (some d) H')
def spSameS (K : PySem.W.Frag) (S C cX : Addr) : Sp := fun vs H Q E => ∃ s v u kvs pg wv wu, vs = [.ref s, v, u] ∧ Stg S H s kvs pg ∧ KInt kvs ∧ 0 < pg ∧ pg.natAbs.log2 < 9000 ∧ PlV K C H kvs v wv ∧ PlV K C H kvs u wu ∧
  (∀ n m, wv = some n → wu = some m → ∀ H', Same H H' → Q (.bl (decide (n / pg = m / pg))) H') ∧
  (wv = none → ∀ d H', H d = none → Same H H' → H' d = some (.xd [("value", v)]) → E (.ref cX) (some d) H') ∧
  (∀ n, wv = some n → wu = none → ∀ d H', H d = none → Same H H' → H' d = some (.xd [("value", u)]) → E (.ref cX) (some d) H')
section
variable {P : Program} {w : World} {K : PySem.W.Frag} {mg : Str → Option Value} {base : Heap}
theorem scIsFrom : FnScope ["value", "low"] ["value", "low"] (defScope sIsFrom) := ⟨rfl, rfl, rfl, by decide +kernel, rfl, by decide +kernel, by decide +kernel⟩
theorem ok_isFrom {f f1 : Addr} {fd fd1 : FuncData} (F : Fun K "is_integer_from" "is_integer_from" sIsFrom f fd) (G : FnOk P w K mg base CX0 1 f1 fd1 ["value"] (spWhole K)) (m1 : mg "_is_whole" = some (.ref f1)) (k1 : PySem.W.keepIn K (.ref f1) = true) (b1 : Binds K fd1 ["value"] []) :
    FnOk P w K mg base CX0 2 f fd ["value", "low"] (spIsFrom K) := by
  refine F.ok scIsFrom (fun vs H Q E h => ?_) (fun cdv A outer s H vs Q E hr h => ?_)
  · obtain ⟨v, lo, rfl, _⟩ := h
    rfl
  · obtain ⟨v, lo, rfl, hk, q⟩ := h
    refine ⟨_, pss_one (ps_ret (pe_and (pe_call G hr (by rfl) m1 k1 b1 .nil pass0 (pa_cons (pv 0) pa_nil)) (pe_one (pe_cmpR op_le (pv 1) (pv 0) (nomark _))))), ?_⟩
    refine ⟨_, rfl, v, rfl, hk, _, rfl, ?_⟩
    cases hk with
    | int i => exact iteT ⟨_, rfl, _, rfl, _, _, rfl, rfl, q⟩
    | bl b => exact iteF q
    | str z _ _ => exact iteF q
    | non => exact iteF q
    | oth a t ty ki ks => exact iteF q
theorem scAre : FnScope ["value", "name", "size"] ["value"] (defScope sAreSizes) := ⟨rfl, rfl, rfl, by decide +kernel, rfl, by decide +kernel, by decide +kernel⟩
theorem ok_are {f f1 f2 : Addr} {fd fd1 fd2 : FuncData} {t : Tok} (F : Fun K "_are_sizes" "_are_sizes" sAreSizes f fd) (B : Blt mg) (D : Blp mg) (mDct : mg "dict" = none) (mU : mg "MOST_UNKNOWNS" = some (.int 2 t))
    (G1 : FnOk P w K mg base CX0 1 f1 fd1 ["value"] (spIsName K)) (m1 : mg "is_name" = some (.ref f1)) (k1 : PySem.W.keepIn K (.ref f1) = true) (b1 : Binds K fd1 ["value"] [])
    (G2 : FnOk P w K mg base CX0 2 f2 fd2 ["value", "low"] (spIsFrom K)) (m2 : mg "is_integer_from" = some (.ref f2)) (k2 : PySem.W.keepIn K (.ref f2) = true) (b2 : Binds K fd2 ["value", "low"] []) :
    FnOk P w K mg base CX0 3 f fd ["value"] (spAre K) := by
  refine F.ok scAre (fun vs H Q E h => ?_) (fun cdv A outer s H vs Q E hr h => ?_)
  · obtain ⟨v, r, rfl, _⟩ := h
    rfl
  · obtain ⟨v, r, rfl, hv, q⟩ := h
    have nd := scAre.nd
    have hr1 : Room 1 _ := hr.mono (by decide)
    refine ⟨_, pss_cons (ps_if (PW.pt (pw_or (pt_not (pt_val (pe_callB call_isi (by rfl) D.isi (by decide +kernel) (pa_cons (pv 0) (pa_cons (pe_bltn (v := .ty "dict") (by rfl) mDct (by decide +kernel) rfl) pa_nil)))))
        (pw_or1 (pt_cmpR op_gt (pe_callB call_lenD (by rfl) B.len PySem.boot_len (pa_cons (pv 0) pa_nil)) (pe_glob (v := .int 2) rfl mU ⟨_, rfl⟩) (nomark _))))) (pss_one (ps_ret pe_bl)) pss_nil)
      (pss_one (ps_ret (pe_callB (cr_all rfl) (by rfl) D.all (by decide +kernel) (pa_cons (pe_lock (pe_lc (own := [("name", 1), ("size", 2)]) (g := gTup K 2 (gCons (gName 1) (gCons (gName 2) gNil))) (tt := tYes) rfl nd (pi_items (pv 0)) (blkOk_by (N := ["value", "name", "size"]) (sc := defScope sAreSizes) (by decide +kernel))
        (fun _ _ _ _ _ => pg_tup (by rfl) (pgs_cons (pg_name (i := 1) nd rfl (Or.inl rfl)) (pgs_cons (pg_name (i := 2) nd rfl (Or.inl rfl)) pgs_nil))) (fun _ _ _ _ _ => pts_nil)
        (fun _ _ _ _ _ => pe_and (pe_call G1 hr1 (by rfl) m1 k1 b1 .nil pass0 (pa_cons (pv 1) pa_nil)) (pe_one (pe_call G2 hr (by rfl) m2 k2 b2 .nil pass0 (pa_cons (pv 2) (pa_cons pe_int pa_nil))))))) pa_nil)))), ?_⟩
    refine ⟨_, rfl, ?_⟩
    rcases hv with ⟨rfl, t0, ty, kt⟩ | ⟨a, kvs, rfl, rfl, ha, hall⟩
    · exact ⟨_, _, _, _, false, rfl, .ty _, ty, kt, false, rfl, iteT (iteT (q H (Same.refl H)))⟩
    · refine ⟨_, _, _, _, true, rfl, .ty _, .base (.dK ha), kit_ty (by decide +kernel), true, rfl, iteF ?_⟩
      refine ⟨_, rfl, a, kvs, rfl, ha, _, _, rfl, rfl, _, rfl, ite2 (fun hc => ?_) (fun hc => ?_)⟩
      · have h2 : (2 : Int) < (kvs.length : Int) := of_decide_eq_true hc
        have e : givenB (some (a, kvs)) = false := by
          show (decide (kvs.length ≤ 2) && _) = false
          rw [decide_eq_false (by omega), Bool.false_and]
        rw [e] at q
        exact q H (Same.refl H)
      · have h2 : ¬ (2 : Int) < (kvs.length : Int) := fun x => hc (decide_eq_true x)
        refine ⟨a, .dK kvs, ha, trivial, fun od => ⟨_, rfl, a, od, kvs, rfl, upd_same, fun D nD => ?_⟩⟩
        have la : upd H a (.frz od (.dK kvs)) a = some (.frz od (.dK kvs)) := upd_same
        have lo : ∀ r o, r ≠ a → H r = some o → upd H a (.frz od (.dK kvs)) r = some o := fun r o n e => by
          rw [upd_ne n]
          exact e
        have nDH : H D = none := by
          cases e : H D with
          | none => rfl
          | some o =>
            by_cases x : D = a
            · subst x
              rw [la] at nD
              cases nD
            · rw [lo D o x e] at nD
              cases nD
        generalize upd H a (.frz od (.dK kvs)) = Hl at la lo nD
        have aD : a ≠ D := fun x => by
          rw [← x, la] at nD
          cases nD
        refine lc_it (walk_items (kvs := kvs)) (fun i H' => Kp D Hl H' ∧ H' D = some (.lst (((kvs.take i).map kvB).map V.bl))) ⟨Kp.fresh nD, upd_same⟩ (fun i H' _ h => h.1 _ _ aD la) ?_ ?_
        · rintro i x H0 H' hi ⟨kp, hD⟩ ⟨T, x1, y1, rfl, nT, rfl, e1, e2⟩
          have hkv : kvs[i]? = some kvs[i] := List.getElem?_eq_getElem hi
          have e1 : (kvs[i]?).map (fun kv => kV kv.1) = some x1 := e1
          have e2 : (kvs[i]?).map Prod.snd = some y1 := e2
          rw [hkv] at e1 e2
          cases e1
          cases e2
          obtain ⟨⟨hk1, hk2⟩, hka⟩ := hall _ (List.getElem_mem hi)
          have TD : T ≠ D := fun x => by
            rw [x, hD] at nT
            cases nT
          have sT : Same H0 (upd H0 T (.tup [kV kvs[i].1, kvs[i].2])) := same_nw nT
          have tT : upd H0 T (.tup [kV kvs[i].1, kvs[i].2]) T = some (.tup [kV kvs[i].1, kvs[i].2]) := upd_same
          generalize upd H0 T (.tup [kV kvs[i].1, kvs[i].2]) = H1 at sT tT
          have kd1 : Kd K H1 (kV kvs[i].1) := by
            cases e : kvs[i].1 with
            | inl n => exact .int n
            | inr z =>
              have h := hk1 z e
              exact .str z h.1 h.2
          refine ⟨T, _, rfl, SqT.of tT, rfl, _, _, rfl, _, _, rfl, rfl, ?_⟩
          refine ⟨rfl, ?_⟩
          unfold tYes
          have fin : ∀ (b : Bool) (H2 : Hp), b = kvB kvs[i] → Same H1 H2 → ∃ acc, H2 D = some (.lst acc) ∧ acc.length < sizeLine ∧ (Kp D Hl (upd H2 D (.lst (acc ++ [V.bl b]))) ∧ upd H2 D (.lst (acc ++ [V.bl b])) D = some (.lst (((kvs.take (i + 1)).map kvB).map V.bl))) := by
            intro b H2 eb s2
            refine ⟨_, s2 _ _ (sT _ _ hD), ?_, ?_, ?_⟩
            · rw [List.length_map, List.length_map, List.length_take]
              have h3 : 10 ≤ sizeLine := by decide
              omega
            · intro r o n e
              rw [upd_ne n]
              exact s2 _ _ (sT _ _ (kp r o n e))
            · rw [upd_same, List.take_succ, hkv, List.map_append, List.map_append, eb]
              rfl
          refine iteT ⟨_, rfl, kV kvs[i].1, rfl, kd1, fun H2 s2 => ⟨_, rfl, ?_⟩⟩
          cases hn : nameV (kV kvs[i].1) with
          | false => exact iteF (fin false H2 (by show _ = (_ && _); rw [hn]; rfl) s2)
          | true =>
            have kd2 : Kd K H2 kvs[i].2 := hk2.at fun r e o ho => by
              have n : r ≠ a := fun x => hka (by rw [e, x])
              exact s2 _ _ (sT _ _ (kp r o (fun z => by rw [z, nDH] at ho; cases ho) (lo r o n ho)))
            exact iteT ⟨_, rfl, kvs[i].2, 0, rfl, kd2, fin _ H2 (by show _ = (_ && _); rw [hn]; rfl) s2⟩
        · rintro H' ⟨kp, hD⟩
          rw [List.take_length] at hD
          refine ⟨kp _ _ aD la, D, kvs.map kvB, rfl, SqL.of (by rw [upd_ne aD.symm]; exact hD), ?_⟩
          have e : givenB (some (a, kvs)) = (kvs.map kvB).all id := by
            show (decide (kvs.length ≤ 2) && kvs.all kvB) = _
            rw [decide_eq_true (by omega), List.all_map]
            rfl
          rw [← e]
          refine q _ fun r o ho => ?_
          by_cases x : r = a
          · subst x
            rw [ha] at ho
            cases ho
            exact upd_same
          · rw [upd_ne x]
            exact kp r o (fun z => by rw [z, nDH] at ho; cases ho) (lo r o x ho)
end
end Mz
set_option Elab.async false
set_option linter.all false
set_option maxRecDepth 100000
set_option maxHeartbeats 4000000
namespace Mz
open PySem PySem.Spec PyProof.Rows L2
theorem Oty.same {K : PySem.W.Frag} {C : Addr} {H H' : Hp} {v : V} (s : Same H H') (h : Oty K C H v) : Oty K C H' v := by
  obtain ⟨t, ty, k⟩ := h
  exact ⟨t, ty_at (fun a _ o e => s a o e) ty, k⟩
theorem Kd.same {K : PySem.W.Frag} {H H' : Hp} {v : V} (s : Same H H') (h : Kd K H v) : Kd K H' v := h.at fun a _ o e => s a o e
theorem PlV.same {K : PySem.W.Frag} {C : Addr} {H H' : Hp} {kvs : List (Key × V)} {v : V} {wt : Option Int} (s : Same H H') (h : PlV K C H kvs v wt) : PlV K C H' kvs v wt := by
  rcases h with ⟨a, z, k, e, ⟨dx, pa⟩, ew⟩ | ⟨⟨k, o⟩, e⟩
  · exact .inl ⟨a, z, k, e, ⟨dx, s _ _ pa⟩, ew⟩
  · exact .inr ⟨⟨k.same s, o.same s⟩, e⟩
section
variable {P : Program} {w : World} {K : PySem.W.Frag} {mg : Str → Option Value} {base : Heap}
theorem scInitS : FnScope ["self", "sizes", "page"] ["self", "sizes", "page"] (defScope (inClass sSetting 0)) := ⟨rfl, rfl, rfl, by decide +kernel, rfl, by decide +kernel, by decide +kernel⟩
theorem ok_initS {f f1 f2 fS fI S cS cI : Addr} {fd fd1 fd2 fdS fdI : FuncData} {dvs : List V} {kws : List (Str × V)} {pa : Arguments} (F : FunD K "__init__" "Setting.__init__" pa (defBody (inClass sSetting 0)) (defScope (inClass sSetting 0)) dvs kws f fd) (T : Scl K mg S) (mDct : mg "dict" = none)
    (G1 : FnOk P w K mg base CX0 3 f1 fd1 ["value"] (spAre K)) (m1 : mg "_are_sizes" = some (.ref f1)) (k1 : PySem.W.keepIn K (.ref f1) = true) (b1 : Binds K fd1 ["value"] [])
    (G2 : FnOk P w K mg base CX0 2 f2 fd2 ["value", "low"] (spIsFrom K)) (m2 : mg "is_integer_from" = some (.ref f2)) (k2 : PySem.W.keepIn K (.ref f2) = true) (b2 : Binds K fd2 ["value", "low"] [])
    (TS : Xcl K mg "InvalidSetting" cS "value") (GS : FnOk P w K mg base CX0 1 fS fdS ["self", "value"] (spX1 K cS "value")) (iS : PySem.W.findIn K (.ref cS) "__init__" = some (some (.ref fS))) (tS : PySem.W.typeIn K (.ref fS) = some (.type "function")) (bS : Binds K fdS ["self", "value"] [])
    (TI : Xcl K mg "InvalidInteger" cI "value") (GI : FnOk P w K mg base CX0 1 fI fdI ["self", "value"] (spX1 K cI "value")) (iI : PySem.W.findIn K (.ref cI) "__init__" = some (some (.ref fI))) (tI : PySem.W.typeIn K (.ref fI) = some (.type "function")) (bI : Binds K fdI ["self", "value"] []) :
    FnOk P w K mg base (L2.CX P w) 4 f fd ["self", "sizes", "page"] (spInitS K S cS cI) := by
  refine F.ok (CX := L2.CX P w) scInitS (fun vs H Q E h => ?_) (fun cdv A outer s H vs Q E hr h => ?_)
  · obtain ⟨p, dx, v, m, r, rfl, _⟩ := h
    rfl
  · obtain ⟨p, dx, v, m, r, rfl, hp, hv, hm, h⟩ := h
    refine ⟨_, pss_cons (ps_if (pt_not (pt_val (pe_call G1 hr (by rfl) m1 k1 b1 .nil pass0 (pa_cons (pv 1) pa_nil)))) (pss_one (ps_raise rfl (takes_of rfl rfl rfl rfl) (pmk_oex TS.ox iS tS GS (hr.mono (by decide)) bS .nil pass0 (by rfl) TS.m (pa_cons (pv 1) pa_nil)))) pss_nil)
      (pss_cons (ps_if (pt_not (pt_val (pe_call G2 (hr.mono (by decide)) (by rfl) m2 k2 b2 .nil pass0 (pa_cons (pv 2) (pa_cons pe_int pa_nil))))) (pss_one (ps_raise rfl (takes_of rfl rfl rfl rfl) (pmk_oex TI.ox iI tI GI (hr.mono (by decide)) bI .nil pass0 (by rfl) TI.m (pa_cons (pv 2) pa_nil)))) pss_nil)
      (pss_cons (ps_fld (pv 0) (pe_callTy call_dictD (by rfl) mDct (by decide +kernel) (pa_cons (pv 1) pa_nil)) rfl) (pss_one (ps_fld (pv 0) (pv 2) rfl)))), ?_⟩
    refine ⟨_, rfl, v, r, rfl, hv, fun H1 s1 => ⟨_, rfl, ?_⟩⟩
    have hp1 := s1 _ _ hp
    rcases h with ⟨e, pg, rfl, hpg, q⟩ | ⟨e, q⟩ | ⟨e, e2, q⟩
    · rw [e]
      refine iteF ⟨_, rfl, _, 1, rfl, .int pg, _, rfl, ?_⟩
      have e1 : fromB 1 (.int pg) = true := decide_eq_true hpg
      rw [e1]
      rcases hv with ⟨rfl, _⟩ | ⟨a, kvs, rfl, rfl, ha, _⟩
      · cases e
      · refine iteF ⟨_, rfl, a, kvs, rfl, .inl (s1 _ _ ha), fun d nd => ?_⟩
        have dp : d ≠ p := (ne_of_none hp1 nd).symm
        have ep : (upd H1 d (.dK kvs)) p = some (.ins S dx []) := by
          rw [upd_ne dp.symm]
          exact hp1
        refine ⟨_, rfl, p, S, dx, [], rfl, ep, T.cl, T.nZ, (by show 0 < 1000; decide), _, rfl, _, rfl, p, S, dx, _, rfl, upd_same, T.cl, T.nP, (by show 1 < 1000; decide), ?_⟩
        rw [upd_upd]
        refine q _ (fun b o n hb => ?_) fun a2 k2 e2 => ?_
        · rw [upd_ne n, upd_ne (ne_of_none (s1 _ _ hb) nd)]
          exact s1 _ _ hb
        · cases e2
          exact ⟨dx, d, upd_same, (by rw [upd_ne dp]; exact upd_same), s1.free nd⟩
    · rw [e]
      exact iteT (mko_x1 rfl fun d H' nd s2 hd => q d H' (s1.free nd) (s1.trans s2) hd)
    · rw [e]
      refine iteF ⟨_, rfl, m, 1, rfl, hm.same s1, _, rfl, ?_⟩
      rw [e2]
      exact iteT (mko_x1 rfl fun d H' nd s2 hd => q d H' (s1.free nd) (s1.trans s2) hd)
theorem scGetS : FnScope ["self", "at", "place"] ["self", "at"] (defScope (inClass sSetting 3)) := ⟨rfl, rfl, rfl, by decide +kernel, rfl, by decide +kernel, by decide +kernel⟩
theorem ok_getS {f fO fX C S cX po gb gs pb ps_ : Addr} {fd fdO fdX fdb fds : FuncData} (F : Fun K "__getitem__" "Setting.__getitem__" (inClass sSetting 3) f fd) (Z : Cpl K mg C) (T : Scl K mg S) (O : OfM P w K mg base C cX po fO fdO)
    (TX : Xcl K mg "InvalidPlace" cX "value") (GX : FnOk P w K mg base CX0 1 fX fdX ["self", "value"] (spX1 K cX "value")) (iX : PySem.W.findIn K (.ref cX) "__init__" = some (some (.ref fX))) (tX : PySem.W.typeIn K (.ref fX) = some (.type "function")) (bX : Binds K fdX ["self", "value"] [])
    (pB : PropOf K C "base" pb gb) (Gb : FnOk P w K mg base CX0 1 gb fdb ["self"] (spBase C)) (bb : Binds K fdb ["self"] []) (pS : PropOf K C "shift" ps_ gs) (Gs : FnOk P w K mg base CX0 1 gs fds ["self"] (spShift C)) (bs : Binds K fds ["self"] []) :
    FnOk P w K mg base (L2.CX P w) 6 f fd ["self", "at"] (spGetS K S C cX) := by
  refine F.okX scGetS (fun vs H Q E h => ?_) (fun cdv A outer s H vs Q E hr h => ?_)
  · obtain ⟨s, v, kvs, pg, wt, rfl, _⟩ := h
    rfl
  · obtain ⟨st, v, kvs, pg, wt, rfl, hst, hki, hpl, q1, q2⟩ := h
    have nd := scGetS.nd
    have hr2 : Room 2 _ := hr.mono (by decide)
    have hu : ∀ {X : Cx}, Room 5 X.A → X.A.units + 1 < cLine := fun r => by
      have := r.units
      omega
    refine ⟨_, pss_cons (ps_set (i := 2) nd rfl (Or.inl rfl) (pe_cmethS (pe_glob (v := .ref C) rfl Z.mgC rfl) O.rd O.met O.ok hr O.b (fun σ => passAt (takes_of rfl rfl rfl rfl) σ) (pa_cons (pv 1) pa_nil)))
      (pss_cons (ps_if (pt_cmpR op_eq (pe_prop (pv 2) Z.cl pB Gb hr2 bb .nil pass0 rfl) pe_str (nomark _)) (pss_one (ps_ret (pe_prop (pv 2) Z.cl pS Gs hr2 bs .nil pass0 rfl))) pss_nil)
      (pss_cons (ps_if (pt_cmp (pc_dnotin (hu hr) (pe_prop (pv 2) Z.cl pB Gb hr2 bb .nil pass0 rfl) (pe_fld (pv 0) rfl))) (pss_one (ps_raise rfl (takes_of rfl rfl rfl rfl) (pmk_oex TX.ox iX tX GX hr2 bX .nil pass0 (by rfl) TX.m (pa_cons (pv 1) pa_nil)))) pss_nil)
      (pss_one (ps_ret (pe_op op_add (pe_dget (hu hr) (pe_fld (pv 0) rfl) (pe_prop (pv 2) Z.cl pB Gb hr2 bb .nil pass0 rfl) (fun _ _ => rfl)) (pe_prop (pv 2) Z.cl pS Gs hr2 bs .nil pass0 rfl)))))), ?_⟩
    generalize hT : tSeq (tIfS _ _ _) _ = T2
    have rest : ∀ (p : Addr) (z : Str) (k : Int) (H1 : Hp), Same H H1 → Pl C H1 p z k → wt = wtK kvs z k → T2 { nx := fun _ H' => Q .non H', rt := Q } [some (.ref st), some v, some (.ref p)] H1 := by
      intro p z k H1 sm pp ew
      rw [← hT]
      obtain ⟨dp, hp⟩ := id pp
      obtain ⟨dx, d, h1, h2⟩ := hst.same sm
      refine ⟨_, rfl, p, dp, _, rfl, hp, p, z, k, rfl, pp, rfl, _, rfl, ?_⟩
      by_cases e : z = ""
      · rw [decide_eq_true (show V.str z = V.str "" by rw [e])]
        have : wt = some k := by
          rw [ew]
          exact if_pos e
        exact iteT ⟨_, rfl, p, dp, _, rfl, hp, p, z, k, rfl, pp, q1 k this H1 sm⟩
      · rw [decide_eq_false (show ¬ V.str z = V.str "" from fun x => e (V.str.inj x))]
        have ew2 : wt = match valV kvs (.inr z) with
          | some (.int n) => some (n + k)
          | _ => none := by
          rw [ew]
          exact if_neg e
        refine iteF ⟨_, rfl, p, dp, _, rfl, hp, p, z, k, rfl, pp, _, rfl, st, S, dx, _, _, rfl, h1, T.cl, T.nZ, stF_sizes, d, _, rfl, DGet.k (k := Sum.inr z) h2, _, rfl, ?_⟩
        cases ev : valV kvs (Sum.inr z) with
        | none =>
          rw [ev] at ew2
          exact iteT (mko_x1 rfl fun d2 H' nd2 s2 hd => q2 ew2 d2 H' (sm.free nd2) (sm.trans s2) hd)
        | some y =>
          obtain ⟨n, rfl⟩ := hki z y ev
          rw [ev] at ew2
          refine iteF ⟨_, rfl, st, S, dx, _, _, rfl, h1, T.cl, T.nZ, stF_sizes, _, rfl, p, dp, _, rfl, hp, p, z, k, rfl, pp, d, _, rfl, (by rw [← ev]; exact DGet.k (k := Sum.inr z) h2), _, rfl, p, dp, _, rfl, hp, p, z, k, rfl, pp, _, _, rfl, rfl, q1 _ ew2 H1 sm⟩
    clear hT
    refine ⟨rfl, _, rfl, v, rfl, ?_⟩
    rcases hpl with ⟨a, z, k, rfl, pa, ew⟩ | ⟨np, ew⟩
    · exact .inl ⟨a, z, k, rfl, pa, rest a z k H (Same.refl H) pa ew⟩
    · refine .inr ⟨np, fun z k e p H' n1 sm pp g => rest p z k H' sm pp ?_, fun e d H' nd2 sm hd => q2 ?_ d H' nd2 sm hd⟩
      · rw [ew, e]
        rfl
      · rw [ew, e]
        rfl
def spSizesS (S : Addr) : Sp := fun vs H Q _ => ∃ s kvs pg, vs = [.ref s] ∧ Stg S H s kvs pg ∧ ∀ p, H p = none → Q (.ref p) (upd H p (.dK kvs))
theorem scSizesS : FnScope ["self"] ["self"] (defScope (inClass sSetting 1)) := ⟨rfl, rfl, rfl, by decide +kernel, rfl, by decide +kernel, by decide +kernel⟩
theorem ok_sizesS {f S : Addr} {fd : FuncData} (F : Fun K "sizes" "Setting.sizes" (inClass sSetting 1) f fd) (T : Scl K mg S) (mDct : mg "dict" = none) : FnOk P w K mg base CX0 1 f fd ["self"] (spSizesS S) := by
  refine F.ok scSizesS (fun vs H Q E h => ?_) (fun cdv A outer s H vs Q E hr h => ?_)
  · obtain ⟨s, kvs, pg, rfl, _⟩ := h
    rfl
  · obtain ⟨st, kvs, pg, rfl, ⟨dx, d, h1, h2⟩, q⟩ := h
    exact ⟨_, pss_one (ps_ret (pe_callTy call_dictD (by rfl) mDct (by decide +kernel) (pa_cons (pe_fld (pv 0) rfl) pa_nil))), _, rfl, st, S, dx, _, _, rfl, h1, T.cl, T.nZ, stF_sizes, d, kvs, rfl, .inl h2, q⟩
end
end Mz
set_option Elab.async false
set_option linter.all false
set_option maxRecDepth 100000
set_option maxHeartbeats 4000000
namespace Mz
open PySem PySem.Spec PyProof.Rows L2
def isPlV (pl : Bool) (v : V) : Bool := pl || (ofV v).isSome
def spIsPl (K : PySem.W.Frag) (C : Addr) : Sp := fun vs H Q _ => ∃ v, vs = [v] ∧ ((∃ a z k, v = .ref a ∧ Pl C H a z k ∧ Q (.bl true) H) ∨ (NoPl K C H v ∧ ∀ H', Same H H' → Q (.bl (ofV v).isSome) H'))
section
variable {P : Program} {w : World} {K : PySem.W.Frag} {mg : Str → Option Value} {base : Heap}
theorem scIsPl : FnScope ["value"] ["value"] (defScope sIsPlace) := ⟨rfl, rfl, rfl, by decide +kernel, rfl, by decide +kernel, by decide +kernel⟩
theorem ok_isPl {f fO C cX po : Addr} {fd fdO : FuncData} (F : Fun K "is_place" "is_place" sIsPlace f fd) (T : Cpl K mg C) (O : OfM P w K mg base C cX po fO fdO) (mX : mg "InvalidPlace" = some (.ref cX)) (te : PySem.W.exmOne K (.ref cX) (.ref cX) = some true) :
    FnOk P w K mg base CX0 6 f fd ["value"] (spIsPl K C) := by
  refine F.ok scIsPl (fun vs H Q E h => ?_) (fun cdv A outer s H vs Q E hr h => ?_)
  · obtain ⟨v, rfl, _⟩ := h
    rfl
  · obtain ⟨v, rfl, h⟩ := h
    refine ⟨_, pss_cons (ps_try_only rfl rfl ⟨rfl, by decide, .inl mX⟩ takes0 (fun W pn xe tk _ => pss_one (ps_expr (pe_cmethS (pe_glob (v := .ref C) rfl T.mgC rfl) O.rd O.met O.ok hr O.b (fun σ => passAt tk σ) (pa_cons (pv 0) pa_nil))))
      (fun a oe cls d pn hz hf => pss_one (ps_ret pe_bl))) (pss_one (ps_ret pe_bl)), ?_⟩
    rcases h with ⟨a, z, k, rfl, pa, q⟩ | ⟨nv, q⟩
    · exact ⟨rfl, _, rfl, .ref a, rfl, .inl ⟨a, z, k, rfl, pa, q⟩⟩
    · refine ⟨rfl, _, rfl, v, rfl, .inr ⟨nv, fun z k e p H' np sm pl g => ?_, fun e d H' nd sm hd => ?_⟩⟩
      · have q2 := q H' sm
        rw [e] at q2
        exact q2
      · have q2 := q H' sm
        rw [e] at q2
        exact ⟨true, te, fun _ a ha => q2, fun x => Bool.noConfusion x⟩
end
end Mz
set_option Elab.async false
set_option linter.all false
set_option maxRecDepth 100000
set_option maxHeartbeats 4000000
namespace Mz
open PySem PySem.Spec PyProof.Rows L2
/-! a place's text, read again -/
def sfx (k : Int) : Str := if k = 1 then "+1" else if k = 2 then "+2" else if k = 3 then "+3" else if k = -1 then "-1" else if k = -2 then "-2" else if k = -3 then "-3" else ""
theorem cps_app (z s : Str) : (z ++ s).cps.toList = z.cps.toList ++ s.cps.toList := app_list z s
theorem six0 {n : Nat} : HT.sIx n 0 none = 0 := rfl
theorem six2 {n : Nat} (h : 2 ≤ n) : HT.sIx n n (some (-2)) = n - 2 := by
  unfold HT.sIx
  simp
  omega
theorem six2b {n : Nat} (h : 2 ≤ n) : HT.sIx n 0 (some (-2)) = n - 2 := by
  unfold HT.sIx
  simp
  omega
theorem sixn {n : Nat} : HT.sIx n n none = n := rfl
theorem len_cps (z : Str) : z.cps.toList.length = z.length := by
  rw [Array.length_toList]
  rfl
theorem cut_head {z s : Str} (h : s.length = 2) : headS (z ++ s) = z := by
  refine str_ext ?_
  unfold headS cutS
  have l : (z ++ s).length = z.length + 2 := by rw [strLen_append, h]
  rw [l, six0, six2 (by omega)]
  simp [cps_app]
  rw [← len_cps z, List.take_left]
theorem cut_tail {z s : Str} (h : s.length = 2) : tailS (z ++ s) = s := by
  refine str_ext ?_
  unfold tailS cutS
  have l : (z ++ s).length = z.length + 2 := by rw [strLen_append, h]
  rw [l, six2b (by omega), sixn]
  have e1 : z.length + 2 - 2 = z.cps.toList.length := by rw [len_cps]; omega
  rw [e1, cps_app, List.drop_left]
  rw [List.take_of_length_le (by rw [len_cps, len_cps]; omega)]
theorem num_none {z : Str} (h : 3 ≤ z.length) : numS z = none := by
  unfold numS
  rw [if_neg (fun e => by rw [e] at h; revert h; decide +kernel), if_neg (fun e => by rw [e] at h; revert h; decide +kernel), if_neg (fun e => by rw [e] at h; revert h; decide +kernel), if_neg (fun e => by rw [e] at h; revert h; decide +kernel)]
theorem name_len {z : Str} (h : nameS z = true) : 1 ≤ z.length ∧ z.length ≤ 6 := by
  have := (Bool.and_eq_true_iff.mp h).1
  obtain ⟨h1, h2⟩ := Bool.and_eq_true_iff.mp this
  have h1 := of_decide_eq_true h1
  have h2 := of_decide_eq_true h2
  omega
theorem sfx_len {k : Int} (h0 : -3 ≤ k) (h1 : k ≤ 3) (hk : k ≠ 0) : (sfx k).length = 2 ∧ shS (sfx k) = some k := by
  have h : k = -3 ∨ k = -2 ∨ k = -1 ∨ k = 1 ∨ k = 2 ∨ k = 3 := by omega
  rcases h with rfl | rfl | rfl | rfl | rfl | rfl <;> decide +kernel
theorem sh_noname6 {z : Str} {n : Int} (h : shS (tailS z) = some n) : ¬ nameS z = true := by
  intro hn
  have hall : (z.cps.toList.all fun c => decide (c ∈ abc.cps.toList)) = true := (Bool.and_eq_true_iff.mp hn).2
  have sub : ∀ c ∈ (tailS z).cps.toList, c ∈ abc.cps.toList := by
    intro c hc
    unfold tailS cutS at hc
    have h1 : c ∈ z.cps.toList := List.mem_of_mem_drop (List.mem_of_mem_take (by simpa using hc))
    exact of_decide_eq_true (List.all_eq_true.mp hall c h1)
  generalize tailS z = y at h sub
  unfold shS at h
  repeat' split at h
  all_goals first
    | (rename_i e
       subst e
       revert sub
       decide +kernel)
    | cases h
theorem num_name {z : Str} (h : nameS z = true) : numS z = none := by
  unfold numS
  rw [if_neg (fun e => by rw [e] at h; revert h; decide +kernel), if_neg (fun e => by rw [e] at h; revert h; decide +kernel), if_neg (fun e => by rw [e] at h; revert h; decide +kernel), if_neg (fun e => by rw [e] at h; revert h; decide +kernel)]
theorem parts_sfx {z : Str} {k : Int} (h : nameS z = true) (h0 : -3 ≤ k) (h1 : k ≤ 3) : partsS (z ++ sfx k) = some (z, k) := by
  by_cases hk : k = 0
  · subst hk
    have e : z ++ sfx 0 = z := by
      refine str_ext ?_
      rw [cps_app]
      exact List.append_nil _
    rw [e]
    unfold partsS
    rw [num_name h]
    show (if nameS z = true then some (z, (0 : Int)) else _) = _
    rw [if_pos h]
  · obtain ⟨l, s⟩ := sfx_len h0 h1 hk
    have n := name_len h
    unfold partsS
    have hn := cut_tail (z := z) l
    rw [num_none (by rw [strLen_append, l]; omega)]
    show (if nameS (z ++ sfx k) = true then _ else if nameS (headS (z ++ sfx k)) = true then _ else none) = _
    rw [if_neg (sh_noname6 (n := k) (by rw [hn]; exact s)), if_pos (by rw [cut_head l]; exact h), hn, s, cut_head l]
end Mz
set_option Elab.async false
set_option linter.all false
set_option maxRecDepth 100000
set_option maxHeartbeats 4000000
namespace Mz
open PySem PySem.Spec PyProof.Rows L2
/-- a place by its parts: no name or one of the names -/
def Prt (roots : List Str) (z : Str) (k : Int) : Prop := (z = "" ∧ 0 ≤ k ∧ k ≤ 3) ∨ (z ∈ roots ∧ -3 ≤ k ∧ k ≤ 3)
def spPair6 (K : PySem.W.Frag) : Sp := fun vs H Q _ => ∃ (b rl : Addr) (n : Nat) (roots : List Str), vs = [.ref b, .ref rl] ∧ Bx H b n ∧ n ≤ 900000 ∧ H rl = some (.lst (roots.map V.str)) ∧ roots.length ≤ 2 ∧ rl ≠ b ∧
  ∀ (q : Addr) (z : Str) (k : Int) (H' : Hp), Prt roots z k → H' q = some (.tup [.str z, .int k]) → H q = none → Bx H' b (n + 2) → Kp b H H' → Q (.ref q) H'
def spSize6 : Sp := fun vs H Q _ => ∃ (b : Addr) (n : Nat), vs = [.ref b] ∧ Bx H b n ∧ n ≤ 900000 ∧ ∀ (i : Int) (H' : Hp), 0 ≤ i → i < 10 ^ 50 → Bx H' b (n + 6) → Kp b H H' → Q (.int i) H'
/-- the value of a place, by the law's own dict -/
def wtD (kvs : List (Key × V)) (z : Str) (k : Int) : Option Int := match valV kvs (.inr z) with
  | some (.int n) => some (n + k)
  | some _ => none
  | none => some k
def spWorth6 : Sp := fun vs H Q _ => ∃ (d p : Addr) (kvs : List (Key × V)) (z : Str) (k n : Int), vs = [.ref d, .ref p] ∧ H d = some (.dK kvs) ∧ H p = some (.tup [.str z, .int k]) ∧ wtD kvs z k = some n ∧ Q (.int n) H
section
variable {P : Program} {w : World} {K : PySem.W.Frag} {mg : Str → Option Value} {base : Heap}
theorem scPair6 : FnScope ["_law_box_here", "_law_roots_here", "_law_root"] ["_law_box_here", "_law_roots_here"] (defScope sPair6) := ⟨rfl, rfl, rfl, by decide +kernel, rfl, by decide +kernel, by decide +kernel⟩
theorem ok_pair6 {f f1 : Addr} {fd fd1 : FuncData} (F : Fun K "_law_pair" "_law_pair" sPair6 f fd) (T : Tk P w K mg base f1 fd1) (B : Blt mg) : FnOk P w K mg base CX0 2 f fd ["_law_box_here", "_law_roots_here"] (spPair6 K) := by
  refine F.ok scPair6 (fun vs H Q E h => ?_) (fun cdv A outer s H vs Q E hr h => ?_)
  · obtain ⟨b, rl, n, roots, rfl, _⟩ := h
    rfl
  · obtain ⟨b, rl, n, roots, rfl, hB, hn, hR, hl, ne, q⟩ := h
    have nd := scPair6.nd
    refine ⟨_, pss_cons (ps_set (i := 2) nd rfl (Or.inl rfl) (pe_ix ix_list (pe_op op_cat (pv 1) (pe_lst (pa_cons pe_str pa_nil)))
        (pe_call T.ok hr (by rfl) T.m T.k T.b .nil pass0 (pa_cons (pv 0) (pa_cons (pe_op op_add (pe_callB call_len_seq (by rfl) B.len PySem.boot_len (pa_cons (pv 1) pa_nil)) pe_int) pa_nil))) (fun _ _ => rfl)))
      (pss_one (ps_ret (pe_tup (pa_cons (pv 2) (pa_cons (pe_ifExp (pt_cmpR op_eq (pv 2) pe_str (nomark _)) (pe_call T.ok hr (by rfl) T.m T.k T.b .nil pass0 (pa_cons (pv 0) (pa_cons pe_int pa_nil)))
        (pe_op op_sub (pe_call T.ok hr (by rfl) T.m T.k T.b .nil pass0 (pa_cons (pv 0) (pa_cons pe_int pa_nil))) pe_int)) pa_nil))))), ?_⟩
    have off : ∀ {G : Hp} {p : Addr} {m : Nat}, Bx G b m → G p = none → p ≠ b := fun hb hp => by
      obtain ⟨_, _, _, e, _⟩ := hb
      exact (ne_of_none e hp).symm
    have one : ∀ {H1 : Hp} {p : Addr} (o : HO), H1 p = none → ∃ H2, H2 = upd H1 p o ∧ Same H1 H2 ∧ H2 p = some o := fun o n => ⟨_, rfl, same_nw n, upd_same⟩
    refine ⟨_, rfl, (by show 1 ≤ sizeLine; decide), fun p1 n1 => ?_⟩
    obtain ⟨H1, e, s1, t1⟩ := one (.lst [V.str ""]) n1
    rw [← e]
    clear e
    refine ⟨_, _, _, _, rfl, rfl, s1 _ _ hR, t1, ?_, fun p2 n2 => ?_⟩
    · rw [List.length_map]
      have : 10 ≤ sizeLine := by decide
      show roots.length + 1 ≤ sizeLine
      omega
    obtain ⟨H2, e, s2, t2⟩ := one (.lst (roots.map V.str ++ [V.str ""])) n2
    rw [← e]
    clear e
    have B2 := (hB.same s1).same s2
    refine ⟨_, rfl, _, rfl, rl, _, rfl, .inl (SqL.of (s2 _ _ (s1 _ _ hR))), _, _, rfl, rfl, ?_⟩
    have lr : ((roots.map V.str).length : Int) = (roots.length : Int) := by rw [List.length_map]
    rw [lr]
    refine ⟨b, n, (roots.length : Int) + 1, rfl, B2, by omega, by omega, by omega, fun r H3 r0 r1 B3 K3 => ?_⟩
    obtain ⟨c, hc, hm⟩ := atI_in (l := roots.map V.str ++ [V.str ""]) (i := r) r0 (by
      rw [List.length_append, List.length_map]
      show r < ((roots.length + 1 : Nat) : Int)
      omega)
    refine ⟨p2, _, _, _, rfl, rfl, SqL.of (K3 _ _ (off (hB.same s1) n2) t2), hc, ?_⟩
    have K03 : Kp b H H3 := (Kp.same (s1.trans s2)).trans K3
    have fin : ∀ (z : Str) (k : Int) (H4 : Hp), Prt roots z k → Bx H4 b (n + 2) → Kp b H3 H4 → 2 ≤ sizeLine ∧ ∀ p, H4 p = none → Q (.ref p) (upd H4 p (.tup [.str z, .int k])) := by
      intro z k H4 pr B4 K4
      refine ⟨(by decide), fun p np => q p z k _ pr upd_same ?_ (B4.same (same_nw np)) ((K03.trans K4).trans (Kp.same (same_nw np)))⟩
      cases x : H p with
      | none => rfl
      | some o =>
        have := (K03.trans K4) p o (off B4 np) x
        rw [np] at this
        cases this
    have hz : ∃ z, c = .str z ∧ (z ∈ roots ∨ z = "") := by
      rcases List.mem_append.mp hm with h | h
      · obtain ⟨z, h1, h2⟩ := List.mem_map.mp h
        exact ⟨z, h2.symm, .inl h1⟩
      · exact ⟨"", List.mem_singleton.mp h, .inr rfl⟩
    obtain ⟨z, rfl, hz⟩ := hz
    refine ⟨_, rfl, _, rfl, rfl, _, rfl, ?_⟩
    refine ite2 (fun h1 => ?_) (fun h1 => ?_)
    · have e1 : z = "" := V.str.inj (of_decide_eq_true h1)
      refine ⟨_, rfl, b, n + 1, 4, rfl, B3, by omega, by decide, by decide, fun k H4 k0 k1 B4 K4 => ?_⟩
      exact fin z k H4 (.inl ⟨e1, k0, by omega⟩) B4 K4
    · have e1 : ¬ z = "" := fun x => h1 (decide_eq_true (by rw [x]))
      refine ⟨_, rfl, b, n + 1, 7, rfl, B3, by omega, by decide, by decide, fun k H4 k0 k1 B4 K4 => ⟨_, _, rfl, rfl, ?_⟩⟩
      exact fin z (k - 3) H4 (.inr ⟨hz.resolve_right e1, by omega, by omega⟩) B4 K4
theorem scSize6 : FnScope ["_law_box_here", "_law_some"] ["_law_box_here"] (defScope sSize6) := ⟨rfl, rfl, rfl, by decide +kernel, rfl, by decide +kernel, by decide +kernel⟩
theorem ok_size6 {f f1 : Addr} {fd fd1 : FuncData} (F : Fun K "_law_size" "_law_size" sSize6 f fd) (T : Tk P w K mg base f1 fd1) : FnOk P w K mg base CX0 2 f fd ["_law_box_here"] spSize6 := by
  refine F.ok scSize6 (fun vs H Q E h => ?_) (fun cdv A outer s H vs Q E hr h => ?_)
  · obtain ⟨b, n, rfl, _⟩ := h
    rfl
  · obtain ⟨b, n, rfl, hB, hn, q⟩ := h
    have nd := scSize6.nd
    refine ⟨_, pss_cons (ps_set (i := 1) nd rfl (Or.inl rfl) (pe_lst (pa_cons (pe_call T.ok hr (by rfl) T.m T.k T.b .nil pass0 (pa_cons (pv 0) (pa_cons pe_int pa_nil)))
        (pa_cons (pe_op op_add (pe_op op_mul pe_int (pe_call T.ok hr (by rfl) T.m T.k T.b .nil pass0 (pa_cons (pv 0) (pa_cons pe_int pa_nil)))) (pe_call T.ok hr (by rfl) T.m T.k T.b .nil pass0 (pa_cons (pv 0) (pa_cons pe_int pa_nil))))
        (pa_cons (pe_op op_mulW (pe_call T.ok hr (by rfl) T.m T.k T.b .nil pass0 (pa_cons (pv 0) (pa_cons (pe_op op_pow pe_int pe_int) pa_nil))) (pe_op op_pow pe_int pe_int)) pa_nil)))))
      (pss_one (ps_ret (pe_op op_add (pe_ix ix_list (pv 1) (pe_call T.ok hr (by rfl) T.m T.k T.b .nil pass0 (pa_cons (pv 0) (pa_cons pe_int pa_nil))) (fun _ _ => rfl)) (pe_call T.ok hr (by rfl) T.m T.k T.b .nil pass0 (pa_cons (pv 0) (pa_cons pe_int pa_nil)))))), ?_⟩
    have off : ∀ {G : Hp} {p : Addr} {m : Nat}, Bx G b m → G p = none → p ≠ b := fun hb hp => by
      obtain ⟨_, _, _, e, _⟩ := hb
      exact (ne_of_none e hp).symm
    refine ⟨_, rfl, b, n, 40, rfl, hB, by omega, by decide, by decide, fun r0 H1 a0 c0 B1 K1 => ?_⟩
    refine ⟨_, rfl, b, n + 1, 9, rfl, B1, by omega, by decide, by decide, fun r1 H2 a1 c1 B2 K2 => ⟨_, _, rfl, rfl, .inl ⟨by decide, by decide⟩, ?_⟩⟩
    refine ⟨_, rfl, b, n + 2, 7, rfl, B2, by omega, by decide, by decide, fun r2 H3 a2 c2 B3 K3 => ⟨_, _, rfl, rfl, ?_⟩⟩
    refine ⟨_, rfl, _, _, rfl, rfl, ⟨by decide, by decide, by decide⟩, b, n + 3, _, rfl, B3, by omega, by decide, by decide, fun r3 H4 a3 c3 B4 K4 => ⟨_, _, rfl, rfl, ⟨by decide, by decide, by decide⟩, _, _, rfl, rfl, ?_, ?_⟩⟩
    · exact wide_mul (a := 64) (b := 140) (by
        have : (10 : Int) ^ (9 : Int).toNat = 1000000000 := by decide
        omega) (by decide +kernel) (by decide) (by decide) (by decide)
    refine ⟨(by show 3 ≤ sizeLine; decide), fun p np => ?_⟩
    have t5 : upd H4 p (.lst [.int r0, .int (32 * r1 + r2), .int (r3 * 10 ^ (40 : Int).toNat)]) p = some (.lst [.int r0, .int (32 * r1 + r2), .int (r3 * 10 ^ (40 : Int).toNat)]) := upd_same
    have s5 : Same H4 (upd H4 p (.lst [.int r0, .int (32 * r1 + r2), .int (r3 * 10 ^ (40 : Int).toNat)])) := same_nw np
    generalize upd H4 p (.lst [.int r0, .int (32 * r1 + r2), .int (r3 * 10 ^ (40 : Int).toNat)]) = H5 at t5 s5
    refine ⟨_, rfl, _, rfl, b, n + 4, 3, rfl, B4.same s5, by omega, by decide, by decide, fun r4 H6 a4 c4 B6 K6 => ?_⟩
    obtain ⟨c, hc, hm⟩ := atI_in (l := [V.int r0, V.int (32 * r1 + r2), V.int (r3 * 10 ^ (40 : Int).toNat)]) (i := r4) a4 c4
    refine ⟨p, _, _, _, rfl, rfl, SqL.of (K6 _ _ (off B4 np) t5), hc, ?_⟩
    refine ⟨_, rfl, b, n + 5, 5, rfl, B6, by omega, by decide, by decide, fun r5 H7 a5 c5 B7 K7 => ?_⟩
    have kp : Kp b H H7 := K1.trans (K2.trans (K3.trans (K4.trans ((Kp.same s5).trans (K6.trans K7)))))
    simp only [List.mem_cons, List.not_mem_nil, or_false] at hm
    have e9 : (10 : Int) ^ (9 : Int).toNat = 1000000000 := by decide
    have e40 : (10 : Int) ^ (40 : Int).toNat = 10000000000000000000000000000000000000000 := by decide
    have e50 : (10 : Int) ^ 50 = 100000000000000000000000000000000000000000000000000 := by decide
    rcases hm with rfl | rfl | rfl
    · exact ⟨_, _, rfl, rfl, q _ _ (by omega) (by rw [e50]; omega) B7 kp⟩
    · exact ⟨_, _, rfl, rfl, q _ _ (by omega) (by rw [e50]; omega) B7 kp⟩
    · exact ⟨_, _, rfl, rfl, q _ _ (by rw [e40]; omega) (by rw [e50, e40]; omega) B7 kp⟩
end
end Mz
set_option Elab.async false
set_option linter.all false
set_option maxRecDepth 100000
set_option maxHeartbeats 4000000
namespace Mz
open PySem PySem.Spec PyProof.Rows L2
/-- parts that a place may have -/
def Prs (z : Str) (k : Int) : Prop := (z = "" ∧ 0 ≤ k ∧ k ≤ 3) ∨ (nameS z = true ∧ Sm 10 z ∧ -3 ≤ k ∧ k ≤ 3)
theorem Prs.good {z : Str} {k : Int} (h : Prs z k) : Good z k := by
  rcases h with ⟨rfl, h0, h1⟩ | ⟨hn, hs, h0, h1⟩
  · exact ⟨by decide +kernel, by decide +kernel, .inl rfl, by unfold lowS; rw [if_pos rfl]; exact h0, h1⟩
  · refine ⟨Nat.le_trans hs.1 (by decide), hs.2, .inr hn, ?_, h1⟩
    unfold lowS
    rw [if_neg (fun e => by rw [e] at hn; revert hn; decide +kernel)]
    exact h0
/-- what stands for a place -/
def Pv6 (K : PySem.W.Frag) (C : Addr) (H : Hp) (v : V) (z : Str) (k : Int) : Prop := (∃ a, v = .ref a ∧ Pl C H a z k) ∨ (NoPl K C H v ∧ ofV v = some (z, k))
theorem Pv6.plv {K : PySem.W.Frag} {C : Addr} {H : Hp} {v : V} {z : Str} {k : Int} (h : Pv6 K C H v z k) (kvs : List (Key × V)) : PlV K C H kvs v (wtK kvs z k) := by
  rcases h with ⟨a, e, p⟩ | ⟨n, e⟩
  · exact .inl ⟨a, z, k, e, p, rfl⟩
  · exact .inr ⟨n, by rw [e]; rfl⟩
def spTold6 (K : PySem.W.Frag) (C : Addr) : Sp := fun vs H Q _ => ∃ (b p : Addr) (n : Nat) (z : Str) (k : Int), vs = [.ref b, .ref p] ∧ Bx H b n ∧ n ≤ 900000 ∧ H p = some (.tup [.str z, .int k]) ∧ Prs z k ∧
  ∀ (v : V) (H' : Hp), Pv6 K C H' v z k → (∀ a, v = .ref a → a ≠ b ∧ H a = none) → Bx H' b (n + 1) → Kp b H H' → Q v H'
section
variable {P : Program} {w : World} {K : PySem.W.Frag} {mg : Str → Option Value} {base : Heap}
theorem scTold6 : FnScope ["_law_box_here", "_law_pair_here", "_law_way", "_law_text"] ["_law_box_here", "_law_pair_here"] (defScope sTold6) := ⟨rfl, rfl, rfl, by decide +kernel, rfl, by decide +kernel, by decide +kernel⟩
theorem ok_told6 {f f1 fI fA C : Addr} {fd fd1 fdI fdA : FuncData} {ds : List Value} {g2 : List Value → List Value → List Value} (F : Fun K "_law_told" "_law_told" sTold6 f fd) (T : Tk P w K mg base f1 fd1) (Z : Cpl K mg C) (M : Mk K C fI) (N : Npl K C)
    (GI : FnOk P w K mg base CX0 3 fI fdI ["self", "base", "shift"] (spInit C)) (hds : Vals [.int 0] ds) (bI : Binds K fdI ["self", "base", "shift"] ds) (kI2 : KBn K fdI ["self", "base", "shift"] 2 ["shift"] g2 (fun vs zs => vs ++ zs))
    (GA : FnOk P w K mg base CX0 5 fA fdA ["self", "other"] (spAdd C)) (bA : Binds K fdA ["self", "other"] []) (TA : Arith K C .Add fA) : FnOk P w K mg base CX0 6 f fd ["_law_box_here", "_law_pair_here"] (spTold6 K C) := by
  refine F.ok scTold6 (fun vs H Q E h => ?_) (fun cdv A outer s H vs Q E hr5 h => ?_)
  · obtain ⟨b, p, n, z, k, rfl, _⟩ := h
    rfl
  · obtain ⟨b, p, n, z, k, rfl, hB, hn, hp, hz, q⟩ := h
    have nd := scTold6.nd
    have hr1 : Room 1 _ := hr5.mono (by decide)
    have hr4 : Room 4 _ := hr5.mono (by decide)
    refine ⟨_, pss_cons (ps_set (i := 2) nd rfl (Or.inl rfl) (pe_call T.ok hr1 (by rfl) T.m T.k T.b .nil pass0 (pa_cons (pv 0) (pa_cons pe_int pa_nil))))
      (pss_cons (ps_set (i := 3) nd rfl (Or.inl rfl) (pe_op op_add_str (pe_ix ix_tup (pv 1) pe_int (fun _ _ => rfl)) (pe_ix ix_list (pe_lst (pa_cons pe_str (pa_cons pe_str (pa_cons pe_str (pa_cons pe_str (pa_cons pe_str (pa_cons pe_str (pa_cons pe_str pa_nil)))))))) (pe_ix ix_tup (pv 1) pe_int (fun _ _ => rfl)) (fun _ _ => rfl))))
      (pss_cons (ps_if (pt_cmpR op_eq (pv 2) pe_int (nomark _)) (pss_one (ps_ret (pe_makeK M GI hr4 (by rfl) Z.mgC kI2 pass0 (pa_cons (pe_ix ix_tup (pv 1) pe_int (fun _ _ => rfl)) pa_nil) (pk_cons (pe_ix ix_tup (pv 1) pe_int (fun _ _ => rfl)) pk_nil)))) pss_nil)
      (pss_cons (ps_if (pt_cmpR op_eq (pv 2) pe_int (nomark _)) (pss_one (ps_ret (pe_op (op_binO GA hr5 bA TA) (pe_make M GI hr4 (by rfl) Z.mgC bI hds pass0 (pa_cons (pe_ix ix_tup (pv 1) pe_int (fun _ _ => rfl)) pa_nil)) (pe_ix ix_tup (pv 1) pe_int (fun _ _ => rfl))))) pss_nil)
      (pss_cons (ps_if (pt_cmpR op_eq (pe_ix ix_tup (pv 1) pe_int (fun _ _ => rfl)) pe_str (nomark _)) (pss_one (ps_ret (pe_ix ix_list (pe_lst (pa_cons (pe_ix ix_tup (pv 1) pe_int (fun _ _ => rfl)) (pa_cons (pe_ix ix_str pe_str (pe_ix ix_tup (pv 1) pe_int (fun _ _ => rfl)) (fun _ _ => rfl)) pa_nil))) (pe_op op_sub (pv 2) pe_int) (fun _ _ => rfl)))) pss_nil)
      (pss_one (ps_ret (pv 3))))))), ?_⟩
    have off : ∀ {G : Hp} {p : Addr} {m : Nat}, Bx G b m → G p = none → p ≠ b := fun hb hp => by
      obtain ⟨_, _, _, e, _⟩ := hb
      exact (ne_of_none e hp).symm
    have one : ∀ {H1 : Hp} {p : Addr} (o : HO), H1 p = none → ∃ H2, H2 = upd H1 p o ∧ Same H1 H2 ∧ H2 p = some o := fun o n => ⟨_, rfl, same_nw n, upd_same⟩
    have pb : p ≠ b := by
      obtain ⟨_, _, _, e, _⟩ := hB
      intro x
      rw [x, e] at hp
      cases hp
    have g := hz.good
    have k0 := g.lo
    have k1 := g.hi
    refine ⟨_, rfl, b, n, 4, rfl, hB, by omega, by decide, by decide, fun way H1 w0 w1 B1 K1 => ?_⟩
    have hp1 := K1 _ _ pb hp
    refine ⟨_, rfl, p, _, _, _, rfl, rfl, SqT.of hp1, rfl, (by show 7 ≤ sizeLine; decide), fun p2 n2 => ?_⟩
    obtain ⟨H2, e, s2, t2⟩ := one (.lst [V.str "", V.str "+1", V.str "+2", V.str "+3", V.str "-3", V.str "-2", V.str "-1"]) n2
    rw [← e]
    clear e
    have hp2 := s2 _ _ hp1
    have ix7 : atI [V.str "", V.str "+1", V.str "+2", V.str "+3", V.str "-3", V.str "-2", V.str "-1"] k = some (.str (sfx k)) := by
      have h : k = -3 ∨ k = -2 ∨ k = -1 ∨ k = 0 ∨ k = 1 ∨ k = 2 ∨ k = 3 := by omega
      rcases h with rfl | rfl | rfl | rfl | rfl | rfl | rfl <;> rfl
    have sl : (sfx k).length ≤ 2 := by
      by_cases h : k = 0
      · subst h
        decide +kernel
      · rw [(sfx_len k0 k1 h).1]
        exact Nat.le_refl _
    have z10 : z.length ≤ 1000 := g.1
    have sz : 10000 ≤ sizeLine := by decide
    refine ⟨_, rfl, p, _, _, _, rfl, rfl, SqT.of hp2, rfl, p2, _, _, _, rfl, rfl, SqL.of t2, ix7, _, _, rfl, rfl, by omega, ?_⟩
    have K02 : Kp b H H2 := K1.trans (Kp.same s2)
    have B2 := B1.same s2
    have fresh : ∀ {G : Hp} {q : Addr}, Kp b H G → q ≠ b → G q = none → H q = none := fun {G q} kp nq e => by
      cases x : H q with
      | none => rfl
      | some o =>
        rw [kp q o nq x] at e
        cases e
    refine ⟨_, rfl, rfl, _, rfl, ite2 (fun h1 => ?_) (fun h1 => ?_)⟩
    · refine ⟨_, rfl, p, _, _, _, rfl, rfl, SqT.of hp2, rfl, _, rfl, p, _, _, _, rfl, rfl, SqT.of hp2, rfl, rfl, rfl, fun x dx nx ndx nn => ?_⟩
      refine ⟨x, dx, z, k, rfl, upd_same, g.1, g.2.1, g.2.2.1, g.2.2.2.1, g.2.2.2.2, fun H3 u3 t3 => ⟨rfl, ?_⟩⟩
      have s3 : Same H2 H3 := fun r o h => u3 r o (ne_of_none h nx) (by
        rw [upd_ne (ne_of_none h nx), upd_ne (ne_of_none h ndx)]
        exact h)
      exact q _ H3 (.inl ⟨x, rfl, dx, t3⟩) (fun a e => by cases e; exact ⟨off B2 nx, fresh K02 (off B2 nx) nx⟩) (B2.same s3) (K02.trans (Kp.same s3))
    refine ⟨_, rfl, rfl, _, rfl, ite2 (fun h2 => ?_) (fun h2 => ?_)⟩
    · refine ⟨_, rfl, p, _, _, _, rfl, rfl, SqT.of hp2, rfl, fun x dx nx ndx nn => ?_⟩
      have g0 : Good z 0 := ⟨g.1, g.2.1, g.2.2.1, by unfold lowS; split <;> omega, by omega⟩
      refine ⟨x, dx, z, 0, rfl, upd_same, g.1, g.2.1, g.2.2.1, g0.2.2.2.1, by decide, fun H3 u3 t3 => ⟨rfl, ?_⟩⟩
      have s3 : Same H2 H3 := fun r o h => u3 r o (ne_of_none h nx) (by
        rw [upd_ne (ne_of_none h nx), upd_ne (ne_of_none h ndx)]
        exact h)
      refine ⟨_, rfl, p, _, _, _, rfl, rfl, SqT.of (s3 _ _ hp2), rfl, x, dx, _, k, rfl, rfl, t3, x, z, 0, k, rfl, ⟨dx, t3⟩, g0, by rw [Int.zero_add]; exact g, fun p4 H4 n4 s4 h4 => ⟨⟨p4, rfl⟩, ?_⟩⟩
      rw [Int.zero_add] at h4
      have B3 := B2.same s3
      have K03 := K02.trans (Kp.same s3)
      exact q _ H4 (.inl ⟨p4, rfl, h4⟩) (fun a e => by cases e; exact ⟨off B3 n4, fresh K03 (off B3 n4) n4⟩) (B3.same s4) (K03.trans (Kp.same s4))
    have w3 : way = 1 ∨ way = 2 := by
      have a1 : way ≠ 0 := fun e => h1 (decide_eq_true (by rw [e]))
      have a2 : way ≠ 3 := fun e => h2 (decide_eq_true (by rw [e]))
      omega
    refine ⟨_, rfl, p, _, _, _, rfl, rfl, SqT.of hp2, rfl, rfl, _, rfl, ite2 (fun h3 => ?_) (fun h3 => ?_)⟩
    · have e1 : z = "" := V.str.inj (of_decide_eq_true h3)
      subst e1
      have k00 : 0 ≤ k := by
        have := g.2.2.2.1
        unfold lowS at this
        rw [if_pos rfl] at this
        exact this
      obtain ⟨c, hc, hm⟩ := atI_in (l := ("0123" : Str).cps.toList) (i := k) k00 (by
        show k < 4
        omega)
      refine ⟨_, rfl, p, _, _, _, rfl, rfl, SqT.of hp2, rfl, _, rfl, p, _, _, _, rfl, rfl, SqT.of hp2, rfl, "0123", k, c, rfl, rfl, (by decide +kernel), hc, (by show 2 ≤ sizeLine; decide), fun p3 n3 => ?_⟩
      have s3 : Same H2 (upd H2 p3 (.lst [.int k, .str ⟨#[c]⟩])) := same_nw n3
      have t3 : upd H2 p3 (.lst [.int k, .str ⟨#[c]⟩]) p3 = some (.lst [.int k, .str ⟨#[c]⟩]) := upd_same
      generalize upd H2 p3 (.lst [.int k, .str ⟨#[c]⟩]) = H3 at s3 t3
      refine ⟨_, rfl, _, _, rfl, rfl, ?_⟩
      have B3 := B2.same s3
      have K03 := K02.trans (Kp.same s3)
      rcases w3 with rfl | rfl
      · exact ⟨p3, _, _, _, rfl, rfl, SqL.of t3, rfl, q _ H3 (.inr ⟨⟨.int k, _, .base (.int k), N.int⟩, by show (if 0 ≤ k ∧ k ≤ 3 then some ((("" : Str), k)) else none) = _; rw [if_pos ⟨k00, k1⟩]⟩) (fun a e => nomatch e) B3 K03⟩
      · refine ⟨p3, _, _, _, rfl, rfl, SqL.of t3, rfl, q _ H3 (.inr ⟨⟨.str _ (Nat.le_trans (Nat.le_refl 1) (by decide)) ?_, _, .base (.str _), N.str⟩, ?_⟩) (fun a e => nomatch e) B3 K03⟩
        · exact sign_ok (z := "0123") (by decide +kernel) hm
        · have h : k = 0 ∨ k = 1 ∨ k = 2 ∨ k = 3 := by omega
          rcases h with rfl | rfl | rfl | rfl
          · cases hc
            decide +kernel
          · cases hc
            decide +kernel
          · cases hc
            decide +kernel
          · cases hc
            decide +kernel
    · have e1 : ¬ z = "" := fun x => h3 (decide_eq_true (by rw [x]))
      obtain ⟨hn1, hs, _, _⟩ := hz.resolve_left fun x => e1 x.1
      have s2' : Sm 2 (sfx k) := ⟨sl, by
        have h : k = -3 ∨ k = -2 ∨ k = -1 ∨ k = 0 ∨ k = 1 ∨ k = 2 ∨ k = 3 := by omega
        rcases h with rfl | rfl | rfl | rfl | rfl | rfl | rfl <;> decide +kernel⟩
      have ss := hs.app s2'
      exact ⟨_, rfl, q _ H2 (.inr ⟨⟨.str _ (Nat.le_trans ss.1 (by decide)) ss.2, _, .base (.str _), N.str⟩, parts_sfx hn1 k0 k1⟩) (fun a e => nomatch e) B2 K02⟩
end
end Mz
set_option Elab.async false
set_option linter.all false
set_option maxRecDepth 100000
set_option maxHeartbeats 4000000
namespace Mz
open PySem PySem.Spec PyProof.Rows L2
theorem takes_nowhere {X : Cx} : Takes X (fun _ _ _ _ => False) := fun u s' ⟨_, _, _, _, _, _, _, _, _, _, _, _, _, _, _, _, w⟩ => w.elim
theorem join_list : ∀ cs : List Nat, (Str.join "" (cs.map fun c => (⟨#[c]⟩ : Str))).cps.toList = cs
  | [] => rfl
  | [c] => rfl
  | c :: d :: r => by
    show ((⟨#[c]⟩ : Str) ++ "" ++ Str.join "" ((d :: r).map fun c => (⟨#[c]⟩ : Str))).cps.toList = _
    rw [app_list, app_list, join_list (d :: r), nil_list, List.append_nil]
    rfl
/-- a text of up to n letters -/
def Az (n : Nat) (z : Str) : Prop := z.length ≤ n ∧ ∀ c ∈ z.cps.toList, c ∈ abc.cps.toList
theorem Az.sm {n : Nat} {z : Str} (h : Az n z) : Sm n z := ⟨h.1, strOk_iff.mpr fun c hc => by
  have := h.2 c hc
  revert this
  rw [abc_range]
  intro x
  have := List.mem_range'_1.mp x
  omega⟩
theorem Az.app {n m : Nat} {y z : Str} (hy : Az n y) (hz : Az m z) : Az (n + m) (y ++ z) := by
  refine ⟨by rw [strLen_append]; exact Nat.add_le_add hy.1 hz.1, fun c hc => ?_⟩
  rw [cps_app] at hc
  rcases List.mem_append.mp hc with h | h
  · exact hy.2 c h
  · exact hz.2 c h
theorem Az.cut {n : Nat} {z : Str} (h : Az n z) (lo hi : Option Int) : Az n (cutS z lo hi) := by
  refine ⟨Nat.le_trans (cutS_length z lo hi) h.1, fun c hc => ?_⟩
  unfold cutS at hc
  exact h.2 c (List.mem_of_mem_drop (List.mem_of_mem_take (by simpa using hc)))
theorem Az.one {c : Nat} (h : c ∈ abc.cps.toList) : Az 1 ⟨#[c]⟩ := ⟨Nat.le_refl _, fun d hd => by
  have : d = c := by simpa using hd
  rw [this]
  exact h⟩
theorem Az.name {z : Str} (h : Az 6 z) (h1 : 1 ≤ z.length) : nameS z = true := by
  show ((decide (1 ≤ (z.length : Int)) && decide ((z.length : Int) ≤ 6)) && z.cps.toList.all fun c => decide (c ∈ abc.cps.toList)) = true
  have h6 := h.1
  rw [decide_eq_true (by omega), decide_eq_true (by omega)]
  show (z.cps.toList.all fun c => decide (c ∈ abc.cps.toList)) = true
  rw [List.all_eq_true]
  exact fun c hc => decide_eq_true (h.2 c hc)
theorem index_abc : ∀ c ∈ abc.cps.toList, (Txt.index0 abc ⟨#[c]⟩).isSome = true := by decide +kernel
/-- names, as the law draws them -/
def Rt (z : Str) : Prop := nameS z = true ∧ Sm 10 z
theorem Rt.of {z : Str} (h : Az 6 z) (h1 : 1 ≤ z.length) : Rt z := ⟨h.name h1, h.sm.mono (by decide)⟩
def spRoots6 : Sp := fun vs H Q _ => ∃ (b : Addr) (n : Nat), vs = [.ref b] ∧ Bx H b n ∧ n ≤ 900000 ∧ ∀ (p : Addr) (y z : Str) (H' : Hp), Rt y → Rt z → H' p = some (.lst [.str y, .str z]) → H p = none → p ≠ b → Bx H' b (n + 15) → Kp b H H' → Q (.ref p) H'
section
variable {P : Program} {w : World} {K : PySem.W.Frag} {mg : Str → Option Value} {base : Heap}
theorem scRoots6 : FnScope ["_law_box_here", "_law_seven", "_law_at", "_law_letters", "_law_stem", "_law_other", "_law_way", "_law_k"] ["_law_box_here"] (defScope sRoots6) := ⟨rfl, rfl, rfl, by decide +kernel, rfl, by decide +kernel, by decide +kernel⟩
theorem ok_roots6 {f f1 : Addr} {fd fd1 : FuncData} (F : Fun K "_law_roots" "_law_roots" sRoots6 f fd) (T : Tk P w K mg base f1 fd1) (B : Blt mg) : FnOk P w K mg base CX0 2 f fd ["_law_box_here"] spRoots6 := by
  refine F.ok scRoots6 (fun vs H Q E h => ?_) (fun cdv A outer s H vs Q E hr h => ?_)
  · obtain ⟨b, n, rfl, _⟩ := h
    rfl
  · obtain ⟨b, n, rfl, hB, hn, q⟩ := h
    have nd := scRoots6.nd
    refine ⟨_, (pss_cons (ps_set (i := 1) nd rfl (Or.inl rfl) (pe_lst (pa_cons pe_str (pa_cons pe_str (pa_cons pe_str (pa_cons pe_str (pa_cons pe_str (pa_cons pe_str (pa_cons pe_str pa_nil)))))))))
      (pss_cons (ps_if (pt_cmpR op_eq (pe_call T.ok hr (by rfl) T.m T.k T.b .nil pass0 (pa_cons (pv 0) (pa_cons pe_int pa_nil))) pe_int (nomark _)) (pss_cons (ps_set (i := 2) nd rfl (Or.inl rfl) (pe_call T.ok hr (by rfl) T.m T.k T.b .nil pass0 (pa_cons (pv 0) (pa_cons pe_int pa_nil))))
      (pss_one (ps_ret (pe_lst (pa_cons (pe_ix ix_list (pv 1) (pv 2) (fun _ _ => rfl)) (pa_cons (pe_ix ix_list (pv 1) (pe_op op_mod (pe_op op_add (pe_op op_add (pv 2) pe_int) (pe_call T.ok hr (by rfl) T.m T.k T.b .nil pass0 (pa_cons (pv 0) (pa_cons pe_int pa_nil)))) pe_int) (fun _ _ => rfl)) pa_nil)))))) pss_nil)
      (pss_cons (ps_set (i := 3) nd rfl (Or.inr rfl) pe_str)
      (pss_cons (ps_set (i := 4) nd rfl (Or.inl rfl) (pe_join pe_str (pe_lc (own := [("_law_k", 7)]) (g := gName 7) (tt := tYes) rfl nd (pi_range1 rfl B.range (pa_cons (pe_op op_add pe_int (pe_call T.ok hr (by rfl) T.m T.k T.b .nil pass0 (pa_cons (pv 0) (pa_cons pe_int pa_nil)))) pa_nil)) (blkOk_by (N := ["_law_box_here", "_law_seven", "_law_at", "_law_letters", "_law_stem", "_law_other", "_law_way", "_law_k"]) (sc := defScope sRoots6) (by decide +kernel)) (fun _ _ _ _ _ => pg_name (i := 7) nd rfl (Or.inl rfl)) (fun _ _ _ _ _ => pts_nil) (fun _ _ _ _ _ => (pe_ix ix_str (pv 3) (pe_call T.ok hr (by rfl) T.m T.k T.b .nil pass0 (pa_cons (pv 0) (pa_cons pe_int pa_nil))) (fun _ _ => rfl))))))
      (pss_cons (ps_par (i := 5) (j := 6) rfl nd rfl rfl (by decide) rfl rfl (pa_cons (pe_op op_add_str (pv 4) (pe_ix ix_str (pv 3) (pe_call T.ok hr (by rfl) T.m T.k T.b .nil pass0 (pa_cons (pv 0) (pa_cons pe_int pa_nil))) (fun _ _ => rfl))) (pa_cons (pe_call T.ok hr (by rfl) T.m T.k T.b .nil pass0 (pa_cons (pv 0) (pa_cons pe_int pa_nil))) pa_nil)) (by rfl))
      (pss_cons (ps_if (pt_cmpR op_eq (pv 6) pe_int (nomark _)) (pss_one (ps_set (i := 5) nd rfl (Or.inl rfl) (pe_op op_add_str (pe_ix ix_str (pv 3) (pe_op op_mod (pe_op op_add (pe_op op_add (pe_bmS PySem.F.plainAttrs_str PySem.F.slot_str_index PySem.F.type_str_index (mt_indexX rfl takes_nowhere) (pv 3) (pa_cons (pe_ix ix_str (pv 4) pe_int (fun _ _ => rfl)) pa_nil)) pe_int) (pe_call T.ok hr (by rfl) T.m T.k T.b .nil pass0 (pa_cons (pv 0) (pa_cons pe_int pa_nil)))) pe_int) (fun _ _ => rfl)) (pe_slice sl_str (pv 4) (po_some pe_int) po_none)))) pss_nil)
      (pss_cons (ps_if (pt_cmpR op_eq (pv 6) pe_int (nomark _)) (pss_one (ps_par (i := 4) (j := 5) rfl nd rfl rfl (by decide) rfl rfl (pa_cons (pe_op op_add_str pe_str (pe_slice sl_str (pv 4) po_none (po_some pe_int))) (pa_cons (pe_op op_add_str pe_str (pv 4)) pa_nil)) (by rfl))) pss_nil)
      (pss_one (ps_ret (pe_ifExp (pt_cmpR op_eq (pe_call T.ok hr (by rfl) T.m T.k T.b .nil pass0 (pa_cons (pv 0) (pa_cons pe_int pa_nil))) pe_int (nomark _)) (pe_lst (pa_cons (pv 4) (pa_cons (pv 5) pa_nil))) (pe_lst (pa_cons (pv 5) (pa_cons (pv 4) pa_nil))))))))))))), ?_⟩
    have off : ∀ {G : Hp} {p : Addr} {m : Nat}, Bx G b m → G p = none → p ≠ b := fun hb hp => by
      obtain ⟨_, _, _, e, _⟩ := hb
      exact (ne_of_none e hp).symm
    have one : ∀ {H1 : Hp} {p : Addr} (o : HO), H1 p = none → ∃ H2, H2 = upd H1 p o ∧ Same H1 H2 ∧ H2 p = some o := fun o n => ⟨_, rfl, same_nw n, upd_same⟩
    have free : ∀ {G : Hp} {q : Addr}, Kp b H G → q ≠ b → G q = none → H q = none := fun {G q} kp nq e => by
      cases x : H q with
      | none => rfl
      | some o =>
        rw [kp q o nq x] at e
        cases e
    have fin : ∀ (y z : Str) (G : Hp), Rt y → Rt z → Bx G b (n + 15) → Kp b H G → 2 ≤ sizeLine ∧ ∀ p, G p = none → Q (.ref p) (upd G p (.lst [.str y, .str z])) := fun y z G hy hz bx kp => ⟨(by decide), fun p np => q p y z _ hy hz upd_same (free kp (off bx np) np) (off bx np) (bx.same (same_nw np)) (kp.trans (Kp.same (same_nw np)))⟩
    refine ⟨(by show 7 ≤ sizeLine; decide), fun p1 n1 => ?_⟩
    obtain ⟨H1, e, s1, t1⟩ := one (.lst ((["done", "end", "fails", "more", "none", "old", "zero"] : List Str).map V.str)) n1
    rw [show (upd H p1 (.lst [V.str "done", V.str "end", V.str "fails", V.str "more", V.str "none", V.str "old", V.str "zero"])) = H1 from e.symm]
    clear e
    have seven : ∀ y ∈ (["done", "end", "fails", "more", "none", "old", "zero"] : List Str), Rt y := by
      unfold Rt Sm
      decide +kernel
    have B1 := hB.same s1
    refine ⟨_, rfl, b, n, 6, rfl, B1, by omega, by decide, by decide, fun r H2 r0 r1 B2 K2 => ⟨rfl, _, rfl, ite2 (fun _ => ?_) (fun _ => ?_)⟩⟩
    · refine ⟨_, rfl, b, n + 1, 7, rfl, B2, by omega, by decide, by decide, fun at_ H3 a0 a1 B3 K3 => ?_⟩
      have t3 := K3 _ _ (off hB n1) (K2 _ _ (off hB n1) t1)
      obtain ⟨v, hv, hm⟩ := atI_in (l := (["done", "end", "fails", "more", "none", "old", "zero"] : List Str).map V.str) (i := at_) a0 a1
      obtain ⟨y, hy, rfl⟩ := List.mem_map.mp hm
      refine ⟨_, rfl, _, rfl, p1, _, _, _, rfl, rfl, SqL.of t3, hv, _, rfl, _, rfl, _, _, rfl, rfl, ?_⟩
      refine ⟨_, rfl, b, n + 2, 6, rfl, B3, by omega, by decide, by decide, fun r5 H4 c0 c1 B4 K4 => ⟨_, _, rfl, rfl, _, _, rfl, rfl, (by show (0 : Int) < 7; decide), ?_⟩⟩
      obtain ⟨v2, hv2, hm2⟩ := atI_in (l := (["done", "end", "fails", "more", "none", "old", "zero"] : List Str).map V.str) (i := (at_ + 1 + r5) % 7) (Int.emod_nonneg _ (by decide)) (Int.emod_lt_of_pos _ (by decide))
      obtain ⟨y2, hy2, rfl⟩ := List.mem_map.mp hm2
      refine ⟨p1, _, _, _, rfl, rfl, SqL.of (K4 _ _ (off hB n1) t3), hv2, ?_⟩
      exact fin y y2 H4 (seven y hy) (seven y2 hy2) (B4.more (by omega)) ((Kp.same s1).trans (K2.trans (K3.trans K4)))
    · have K02 : Kp b H H2 := (Kp.same s1).trans K2
      refine ⟨⟨_, rfl⟩, _, rfl, b, n + 1, 5, rfl, B2, by omega, by decide, by decide, fun r H3 r0 r1 B3 K3 => ?_⟩
      refine ⟨_, _, rfl, rfl, _, rfl, by omega, by omega, fun D hD => ?_⟩
      have nb : D ≠ b := off B3 hD
      refine lc_range (lo := 0) (n := (1 + r).toNat) (fun i H' => Bx H' b (n + 2 + i) ∧ Kp b H3 H' ∧ ∃ cs : List Nat, cs.length = i ∧ (∀ c ∈ cs, c ∈ abc.cps.toList) ∧ H' D = some (.lst ((cs.map fun c => (⟨#[c]⟩ : Str)).map V.str)))
        ⟨B3.upd hD, Kp.fresh hD, [], rfl, fun _ h => (nomatch h), upd_same⟩ ?_ ?_
      · rintro i H4 hi ⟨B4, K4, cs, ely, hcs, hl⟩
        refine ⟨rfl, ?_⟩
        unfold tYes
        refine iteT ⟨_, rfl, _, rfl, b, n + 2 + i, 26, rfl, B4, by omega, by decide, by decide, fun c H5 c0 c1 B5 K5 => ?_⟩
        obtain ⟨g, hg, hm⟩ := atI_in (l := abc.cps.toList) c0 c1
        have hl3 := K5 D _ nb hl
        refine ⟨abc, c, g, rfl, rfl, (by decide +kernel), hg, _, hl3, by rw [List.length_map, List.length_map, ely]; exact Nat.lt_of_lt_of_le (by omega) (show 9 ≤ sizeLine by decide), ?_⟩
        refine ⟨?_, ?_, cs ++ [g], by rw [List.length_append, ely]; rfl, ?_, by rw [List.map_append, List.map_append]; exact upd_same⟩
        · obtain ⟨x, y, z, e, h⟩ := B5
          exact ⟨x, y, z, by rw [upd_ne nb.symm]; exact e, h⟩
        · intro p o np e
          have pD : p ≠ D := ne_of_none e hD
          rw [upd_ne pD]
          exact K5 p o np (K4 p o np e)
        · intro y hy
          rcases List.mem_append.mp hy with h | h
          · exact hcs y h
          · rw [List.mem_singleton.mp h]
            exact hm
      · rintro H4 ⟨B4, K4, cs, ely, hcs, hl⟩
        have ones : ∀ y ∈ cs.map fun c => (⟨#[c]⟩ : Str), Sm 1 y := fun y hy => by
          obtain ⟨c, hc, rfl⟩ := List.mem_map.mp hy
          exact sm_sign (z := abc) (by decide +kernel) (hcs c hc)
        have ej : (Txt.join "" (cs.map fun c => (⟨#[c]⟩ : Str))).cps.toList = cs := by
          unfold Txt.join
          rw [StrLaws.glued_eq_join, join_list]
        refine ⟨"", D, _, rfl, rfl, .inl (SqL.of hl), ?_, ?_⟩
        · have e2 := sum_ones _ ones
          have e3 : (cs.map fun c => (⟨#[c]⟩ : Str)).length * ("" : Str).length = 0 := by
            rw [show ("" : Str).length = 0 by decide +kernel, Nat.mul_zero]
          rw [List.length_map] at e2
          omega
        generalize Txt.join "" (cs.map fun c => (⟨#[c]⟩ : Str)) = z at ej
        have lz : z.length = cs.length := by rw [← len_cps, ej]
        have az : Az 5 z := ⟨by omega, fun c hc => hcs c (by rw [ej] at hc; exact hc)⟩
        have z1 : 1 ≤ z.length := by omega
        have K04 : Kp b H H4 := K02.trans (K3.trans K4)
        have B4' : Bx H4 b (n + 7) := B4.more (by omega)
        have big : 1000 ≤ sizeLine := by decide
        have zs : z.length ≤ sizeLine := by have := az.1; omega
        refine ⟨_, rfl, _, rfl, _, rfl, b, n + 7, 26, rfl, B4', by omega, by decide, by decide, fun c H5 c0 c1 B5 K5 => ?_⟩
        obtain ⟨g, hg, hm⟩ := atI_in (l := abc.cps.toList) c0 c1
        have ag := Az.one hm
        have azg := az.app ag
        refine ⟨abc, c, g, rfl, rfl, (by decide +kernel), hg, _, _, rfl, rfl, by have := az.1; show z.length + 1 ≤ sizeLine; omega, ?_⟩
        refine ⟨_, rfl, b, n + 8, 3, rfl, B5, by omega, by decide, by decide, fun way H6 w0 w1 B6 K6 => ⟨_, _, rfl, ?_⟩⟩
        have K06 : Kp b H H6 := K04.trans (K5.trans K6)
        have rz : Rt z := Rt.of ⟨by have := az.1; omega, az.2⟩ z1
        have aA : Az 1 "a" := Az.one (c := 97) (by decide +kernel)
        have aB : Az 1 "b" := Az.one (c := 98) (by decide +kernel)
        have rA : Rt ("a" ++ z) := Rt.of ⟨by have := (aA.app az).1; omega, (aA.app az).2⟩ (by rw [strLen_append]; show 1 ≤ 1 + _; omega)
        have aC := az.cut none (some 1)
        have aD := aB.app aC
        have rB : Rt ("b" ++ cutS z none (some 1)) := Rt.of ⟨by have := aD.1; omega, aD.2⟩ (by rw [strLen_append]; show 1 ≤ 1 + _; omega)
        have lA : ("a" : Str).length + z.length ≤ sizeLine := by
          have := az.1
          show 1 + z.length ≤ sizeLine
          omega
        have lB : ("b" : Str).length + (cutS z none (some 1)).length ≤ sizeLine := by
          have := aC.1
          show 1 + (cutS z none (some 1)).length ≤ sizeLine
          omega
        refine ⟨_, rfl, rfl, _, rfl, ite2 (fun _ => ?_) (fun _ => ?_)⟩
        · obtain ⟨s0, hs0, hm0⟩ := atI_in (l := z.cps.toList) (i := 0) (by decide) (by rw [len_cps]; omega)
          have ix0 := index_abc s0 (az.2 s0 hm0)
          refine ⟨_, rfl, _, rfl, rfl, _, rfl, z, 0, s0, rfl, rfl, zs, hs0, abc, _, rfl, rfl, fun k hk => ?_, fun hk => ?_⟩
          · refine ⟨_, _, rfl, rfl, _, rfl, b, n + 9, 25, rfl, B6, by omega, by decide, by decide, fun r6 H7 a0 a1 B7 K7 => ⟨_, _, rfl, rfl, _, _, rfl, rfl, (by show (0 : Int) < 26; decide), ?_⟩⟩
            obtain ⟨g2, hg2, hm2⟩ := atI_in (l := abc.cps.toList) (i := ((k : Int) + 1 + r6) % 26) (Int.emod_nonneg _ (by decide)) (Int.emod_lt_of_pos _ (by decide))
            refine ⟨abc, _, g2, rfl, rfl, (by decide +kernel), hg2, _, rfl, _, rfl, z, rfl, zs, _, _, rfl, rfl, ?_, ?_⟩
            · have := (az.cut (some 1) none).1
              show 1 + (cutS z (some 1) none).length ≤ sizeLine
              omega
            · have al := (Az.one hm2).app (az.cut (some 1) none)
              have ry : Rt (⟨#[g2]⟩ ++ cutS z (some 1) none) := Rt.of ⟨by have := al.1; omega, al.2⟩ (by rw [strLen_append]; show 1 ≤ 1 + _; omega)
              refine ⟨_, rfl, rfl, _, rfl, ite2 (fun _ => ?_) (fun _ => ?_)⟩
              · refine ⟨_, rfl, _, rfl, z, rfl, zs, _, _, rfl, rfl, lB, _, rfl, _, _, rfl, rfl, lA, _, _, rfl, ?_⟩
                refine ⟨_, rfl, b, n + 10, 2, rfl, B7, by omega, by decide, by decide, fun r7 H8 _ _ B8 K8 => ⟨rfl, _, rfl, ite2 (fun _ => ?_) (fun _ => ?_)⟩⟩
                · exact ⟨_, rfl, _, rfl, fin _ _ H8 rB rA (B8.more (by omega)) (K06.trans (K7.trans K8))⟩
                · exact ⟨_, rfl, _, rfl, fin _ _ H8 rA rB (B8.more (by omega)) (K06.trans (K7.trans K8))⟩
              · refine ⟨_, rfl, b, n + 10, 2, rfl, B7, by omega, by decide, by decide, fun r7 H8 _ _ B8 K8 => ⟨rfl, _, rfl, ite2 (fun _ => ?_) (fun _ => ?_)⟩⟩
                · exact ⟨_, rfl, _, rfl, fin _ _ H8 rz ry (B8.more (by omega)) (K06.trans (K7.trans K8))⟩
                · exact ⟨_, rfl, _, rfl, fin _ _ H8 ry rz (B8.more (by omega)) (K06.trans (K7.trans K8))⟩
          · rw [hk] at ix0
            cases ix0
        · have ry : Rt (z ++ ⟨#[g]⟩) := Rt.of ⟨by have := azg.1; omega, azg.2⟩ (by rw [strLen_append]; omega)
          refine ⟨_, rfl, rfl, _, rfl, ite2 (fun _ => ?_) (fun _ => ?_)⟩
          · refine ⟨_, rfl, _, rfl, z, rfl, zs, _, _, rfl, rfl, lB, _, rfl, _, _, rfl, rfl, lA, _, _, rfl, ?_⟩
            refine ⟨_, rfl, b, n + 9, 2, rfl, B6, by omega, by decide, by decide, fun r7 H8 _ _ B8 K8 => ⟨rfl, _, rfl, ite2 (fun _ => ?_) (fun _ => ?_)⟩⟩
            · exact ⟨_, rfl, _, rfl, fin _ _ H8 rB rA (B8.more (by omega)) (K06.trans K8)⟩
            · exact ⟨_, rfl, _, rfl, fin _ _ H8 rA rB (B8.more (by omega)) (K06.trans K8)⟩
          · refine ⟨_, rfl, b, n + 9, 2, rfl, B6, by omega, by decide, by decide, fun r7 H8 _ _ B8 K8 => ⟨rfl, _, rfl, ite2 (fun _ => ?_) (fun _ => ?_)⟩⟩
            · exact ⟨_, rfl, _, rfl, fin _ _ H8 rz ry (B8.more (by omega)) (K06.trans K8)⟩
            · exact ⟨_, rfl, _, rfl, fin _ _ H8 ry rz (B8.more (by omega)) (K06.trans K8)⟩
end
end Mz
set_option Elab.async false
set_option linter.all false
set_option maxRecDepth 100000
set_option maxHeartbeats 4000000
namespace Mz
open PySem PySem.Spec PyProof.Rows L2
/-! in, ==, page of a setting -/
/-- whether a value is a name of the setting -/
def inSet (kvs : List (Key × V)) : V → Bool
  | .str z => (valV kvs (.inr z)).isSome
  | _ => false
def spContS (K : PySem.W.Frag) (S : Addr) : Sp := fun vs H Q _ => ∃ s v kvs pg, vs = [.ref s, v] ∧ Stg S H s kvs pg ∧ Kd K H v ∧ Q (.bl (inSet kvs v)) H
def spPageS (S : Addr) : Sp := fun vs H Q _ => ∃ s kvs pg, vs = [.ref s] ∧ Stg S H s kvs pg ∧ Q (.int pg) H
def spEqS (K : PySem.W.Frag) (S : Addr) : Sp := fun vs H Q _ => ∃ s kvs pg, Stg S H s kvs pg ∧ AllI kvs ∧
  ((∃ r ls qg, vs = [.ref s, .ref r] ∧ Stg S H r ls qg ∧ AllI ls ∧ Q (.bl (eqDV kvs ls && decide (pg = qg))) H) ∨ ∃ y, vs = [.ref s, y] ∧ Oty K S H y ∧ Q (.bl false) H)
section
variable {P : Program} {w : World} {K : PySem.W.Frag} {mg : Str → Option Value} {base : Heap}
theorem scPageS : FnScope ["self"] ["self"] (defScope (inClass sSetting 2)) := ⟨rfl, rfl, rfl, by decide +kernel, rfl, by decide +kernel, by decide +kernel⟩
theorem ok_pageS {f S : Addr} {fd : FuncData} (F : Fun K "page" "Setting.page" (inClass sSetting 2) f fd) (T : Scl K mg S) : FnOk P w K mg base CX0 1 f fd ["self"] (spPageS S) := by
  refine F.ok scPageS (fun vs H Q E h => ?_) (fun cdv A outer s H vs Q E hr h => ?_)
  · obtain ⟨s, kvs, pg, rfl, _⟩ := h
    rfl
  · obtain ⟨st, kvs, pg, rfl, ⟨dx, d, h1, h2⟩, q⟩ := h
    exact ⟨_, pss_one (ps_ret (pe_fld (pv 0) rfl)), _, rfl, st, S, dx, _, _, rfl, h1, T.cl, T.nP, stF_page, q⟩
theorem scContS : FnScope ["self", "x"] ["self", "x"] (defScope (inClass sSetting 5)) := ⟨rfl, rfl, rfl, by decide +kernel, rfl, by decide +kernel, by decide +kernel⟩
theorem ok_contS {f S : Addr} {fd : FuncData} (F : Fun K "__contains__" "Setting.__contains__" (inClass sSetting 5) f fd) (T : Scl K mg S) (D : Blp mg) : FnOk P w K mg base CX0 1 f fd ["self", "x"] (spContS K S) := by
  refine F.ok scContS (fun vs H Q E h => ?_) (fun cdv A outer s H vs Q E hr h => ?_)
  · obtain ⟨s, v, kvs, pg, rfl, _⟩ := h
    rfl
  · obtain ⟨st, v, kvs, pg, rfl, ⟨dx, d, h1, h2⟩, hv, q⟩ := h
    refine ⟨_, pss_one (ps_ret (pe_and (pe_callB call_isi (by rfl) D.isi (by decide +kernel) (pa_cons (pv 1) (pa_cons (pe_bltn (v := .ty "str") (by rfl) D.str (by decide +kernel) rfl) pa_nil)))
      (pe_one (pe_cmp (pc_din (hu_of hr) (pv 1) (pe_fld (pv 0) rfl)))))), ?_⟩
    refine ⟨_, rfl, ?_⟩
    cases hv with
    | int i => exact ⟨_, _, _, _, false, rfl, .ty _, .base (.int i), kit_ty (by decide +kernel), false, rfl, iteF q⟩
    | bl b => exact ⟨_, _, _, _, false, rfl, .ty _, .base (.bl b), kit_ty (by decide +kernel), false, rfl, iteF q⟩
    | non => exact ⟨_, _, _, _, false, rfl, .ty _, .base .non, kit_ty (by decide +kernel), false, rfl, iteF q⟩
    | oth a t ty ki ks => exact ⟨_, _, _, _, false, rfl, .ty _, ty, ks, false, rfl, iteF q⟩
    | str z l ok => exact ⟨_, _, _, _, true, rfl, .ty _, .base (.str z), kit_ty (by decide +kernel), true, rfl, iteT ⟨_, rfl, _, rfl, st, S, dx, _, _, rfl, h1, T.cl, T.nZ, stF_sizes, d, _, rfl, DGet.k (k := .inr z) h2, q⟩⟩
theorem scEqS : FnScope ["self", "other"] ["self", "other"] (defScope (inClass sSetting 7)) := ⟨rfl, rfl, rfl, by decide +kernel, rfl, by decide +kernel, by decide +kernel⟩
theorem ok_eqS {f S : Addr} {fd : FuncData} (F : Fun K "__eq__" "Setting.__eq__" (inClass sSetting 7) f fd) (T : Scl K mg S) (Y : Pty K S) (D : Blp mg) : FnOk P w K mg base CX0 1 f fd ["self", "other"] (spEqS K S) := by
  refine F.ok scEqS (fun vs H Q E h => ?_) (fun cdv A outer s H vs Q E hr h => ?_)
  · obtain ⟨s, kvs, pg, _, _, ⟨r, ls, qg, rfl, _⟩ | ⟨y, rfl, _⟩⟩ := h
    · rfl
    · rfl
  · obtain ⟨st, kvs, pg, hst, ia, h⟩ := h
    refine ⟨_, pss_one (ps_ret (pe_and (pe_callB call_isi (by rfl) D.isi (by decide +kernel) (pa_cons (pv 1) (pa_cons (pe_glob (v := .ref S) rfl T.mgS rfl) pa_nil)))
      (pe_and (pe_cmpR (op_eqDI (Nat.lt_of_le_of_lt (Nat.le_add_right _ 63) hr.units)) (pe_fld (pv 0) rfl) (pe_fld (pv 1) rfl) (nomark _)) (pe_one (pe_cmpR op_eq (pe_fld (pv 0) rfl) (pe_fld (pv 1) rfl) (nomark _)))))), ?_⟩
    obtain ⟨dx, d, h1, h2⟩ := hst
    rcases h with ⟨r, ls, qg, rfl, ⟨dy, e, h3, h4⟩, ib, q⟩ | ⟨y, rfl, ⟨t, ty, kt⟩, q⟩
    · refine ⟨_, rfl, .ref r, .ref S, .ref S, .ref S, true, rfl, .own S, .base (.ins h3 Y.cl Y.ha Y.hn Y.htk Y.hm), kit_self, true, rfl, iteT ?_⟩
      refine ⟨_, rfl, st, S, dx, _, _, rfl, h1, T.cl, T.nZ, stF_sizes, _, rfl, r, S, dy, _, _, rfl, h3, T.cl, T.nZ, stF_sizes, d, e, kvs, ls, rfl, rfl, h2, h4, ia, ib, _, rfl, ite2 (fun hc => ?_) (fun hc => ?_)⟩
      · refine ⟨_, rfl, st, S, dx, _, _, rfl, h1, T.cl, T.nP, stF_page, _, rfl, r, S, dy, _, _, rfl, h3, T.cl, T.nP, stF_page, rfl, ?_⟩
        have e2 : decide (V.int pg = V.int qg) = decide (pg = qg) := decide_eq_decide.mpr ⟨fun x => V.int.inj x, fun x => by rw [x]⟩
        rw [hc, Bool.true_and] at q
        rw [e2]
        exact q
      · rw [Bool.eq_false_iff.mpr hc, Bool.false_and] at q
        exact q
    · exact ⟨_, rfl, y, .ref S, t, .ref S, false, rfl, .own S, ty, kt, false, rfl, iteF q⟩
end
end Mz
set_option Elab.async false
set_option linter.all false
set_option maxRecDepth 100000
set_option maxHeartbeats 4000000
namespace Mz
open PySem PySem.Spec PyProof.Rows L2
/-! rows of facts -/
/-- a value, and whether it is a place -/
def Pi (K : PySem.W.Frag) (C : Addr) (H : Hp) (v : V) (t : Bool) : Prop := (∃ a z k, v = .ref a ∧ Pl C H a z k ∧ t = true) ∨ (NoPl K C H v ∧ t = (ofV v).isSome)
theorem Pi.same {K : PySem.W.Frag} {C : Addr} {H H' : Hp} {v : V} {t : Bool} (s : Same H H') (h : Pi K C H v t) : Pi K C H' v t := by
  rcases h with ⟨a, z, k, e, ⟨dx, h⟩, r⟩ | ⟨⟨h1, h2⟩, r⟩
  · exact .inl ⟨a, z, k, e, ⟨dx, s _ _ h⟩, r⟩
  · exact .inr ⟨⟨h1.same s, h2.same s⟩, r⟩
theorem Pv6.pi {K : PySem.W.Frag} {C : Addr} {H : Hp} {v : V} {z : Str} {k : Int} (h : Pv6 K C H v z k) : Pi K C H v true := by
  rcases h with ⟨a, e, p⟩ | ⟨n, e⟩
  · exact .inl ⟨a, z, k, e, p, rfl⟩
  · exact .inr ⟨n, by rw [e]; rfl⟩
theorem Pv6.same {K : PySem.W.Frag} {C : Addr} {H H' : Hp} {v : V} {z : Str} {k : Int} (s : Same H H') (h : Pv6 K C H v z k) : Pv6 K C H' v z k := by
  rcases h with ⟨a, e, ⟨dx, p⟩⟩ | ⟨⟨h1, h2⟩, e⟩
  · exact .inl ⟨a, e, dx, s _ _ p⟩
  · exact .inr ⟨⟨h1.same s, h2.same s⟩, e⟩
/-- the words of rows, and how many places each has -/
def plS (z : Str) : Option Int := if z = "at_most" then some 2 else if z = "page" then some 1 else none
theorem plS_le {z : Str} {n : Int} (h : plS z = some n) : 1 ≤ n ∧ n ≤ 2 := by
  unfold plS at h
  split at h
  · cases h
    decide
  · split at h
    · cases h
      decide
    · cases h
def FctT (K : PySem.W.Frag) (C : Addr) (H : Hp) (l : List V) (t : Bool) : Prop := (l = [] ∧ t = false) ∨ ∃ x r, l = x :: r ∧ ((∃ ty, TyX K H x ty ∧ PySem.W.kitOne K ty (.type "str") = some false ∧ t = false) ∨
  ∃ z : Str, x = .str z ∧ ((plS z = none ∧ t = false) ∨ ∃ n, plS z = some n ∧ ((r.length ≠ n.toNat ∧ r.length ≤ 100 ∧ t = false) ∨ (r.length = n.toNat ∧ ∃ ts : List Bool, ts.length = r.length ∧ (∀ (i : Nat) (v : V) (b : Bool), r[i]? = some v → ts[i]? = some b → Pi K C H v b) ∧ t = ts.all id))))
/-- whether a value is a row of facts -/
def Fct (K : PySem.W.Frag) (C : Addr) (H : Hp) (v : V) (t : Bool) : Prop := (∃ ty, TyX K H v ty ∧ PySem.W.kitOne K ty (.type "tuple") = some false ∧ t = false) ∨ ∃ a l, v = .ref a ∧ H a = some (.tup l) ∧ FctT K C H l t
def spIsFact (K : PySem.W.Frag) (C : Addr) : Sp := fun vs H Q _ => ∃ (v : V) (t : Bool), vs = [v] ∧ Fct K C H v t ∧ ∀ H', Same H H' → Q (.bl t) H'
section
variable {P : Program} {w : World} {K : PySem.W.Frag} {mg : Str → Option Value} {base : Heap}
theorem scIsFact : FnScope ["value", "item"] ["value"] (defScope sIsFact) := ⟨rfl, rfl, rfl, by decide +kernel, rfl, by decide +kernel, by decide +kernel⟩
theorem ok_isFact {f f1 dP C : Addr} {fd fd1 : FuncData} (F : Fun K "is_fact" "is_fact" sIsFact f fd) (G1 : FnOk P w K mg base CX0 6 f1 fd1 ["value"] (spIsPl K C)) (m1 : mg "is_place" = some (.ref f1)) (k1 : PySem.W.keepIn K (.ref f1) = true) (b1 : Binds K fd1 ["value"] [])
    (mP : mg "_PLACES" = some (.ref dP)) (tP : Tab K w dP plS) (B : Blt mg) (D : Blp mg) (mT : mg "tuple" = none) : FnOk P w K mg base CX0 7 f fd ["value"] (spIsFact K C) := by
  refine F.ok scIsFact (fun vs H Q E h => ?_) (fun cdv A outer s H vs Q E hr h => ?_)
  · obtain ⟨v, t, rfl, _⟩ := h
    rfl
  · obtain ⟨v, t, rfl, hv, q⟩ := h
    have nd := scIsFact.nd
    obtain ⟨es, n, DF, lF⟩ := tP
    refine ⟨_, (pss_cons (ps_if (PW.pt (pw_or (pt_not (pt_val (pe_callB call_isi (by rfl) D.isi (by decide +kernel) (pa_cons (pv 0) (pa_cons (pe_bltn (v := .ty "tuple") (by rfl) mT (by decide +kernel) rfl) pa_nil))))) (pw_or (pt_cmpR (op_eqT0 hr.units) (pv 0) (pe_tup pa_nil) (nomark _)) (pw_or1 (pt_not (pt_val (pe_callB call_isi (by rfl) D.isi (by decide +kernel) (pa_cons (pe_ix ix_tup (pv 0) pe_int (fun _ _ => rfl)) (pa_cons (pe_bltn (v := .ty "str") (by rfl) D.str (by decide +kernel) rfl) pa_nil))))))))) (pss_one (ps_ret pe_bl)) pss_nil)
      (pss_cons (ps_if (PW.pt (pw_or (pt_cmpR (op_notIn_kd DF) (pe_ix ix_tup (pv 0) pe_int (fun _ _ => rfl)) (pe_glob (v := .ref dP) rfl mP rfl) (by rfl)) (pw_or1 (pt_cmpR op_ne (pe_callB call_len_seq (by rfl) B.len PySem.boot_len (pa_cons (pv 0) pa_nil)) (pe_op op_add pe_int (pe_ix ix_kdict (pe_glob (v := .ref dP) rfl mP rfl) (pe_ix ix_tup (pv 0) pe_int (fun _ _ => rfl)) (fun _ _ => rfl))) (nomark _))))) (pss_one (ps_ret pe_bl)) pss_nil)
      (pss_one (ps_ret (pe_callB (cr_all rfl) (by rfl) D.all (by decide +kernel) (pa_cons (pe_lc (own := [("item", 1)]) (g := gName 1) (tt := tYes) rfl nd (pi_tup (pe_slice sl_tup (pv 0) (po_some pe_int) po_none)) (blkOk_by (N := ["value", "item"]) (sc := defScope sIsFact) (by decide +kernel)) (fun _ _ _ _ _ => pg_name (i := 1) nd rfl (Or.inl rfl)) (fun _ _ _ _ _ => pts_nil) (fun _ _ _ _ _ => (pe_call G1 hr (by rfl) m1 k1 b1 .nil pass0 (pa_cons (pv 1) pa_nil)))) pa_nil)))))), ?_⟩
    refine ⟨_, rfl, ?_⟩
    rcases hv with ⟨ty, hty, kt, rfl⟩ | ⟨a, l, rfl, ha, hl⟩
    · exact ⟨_, _, _, _, false, rfl, .ty _, hty, kt, false, rfl, iteT (iteT (q H (Same.refl H)))⟩
    refine ⟨_, _, _, _, true, rfl, .ty _, .base (.tup ha), kit_ty (by decide +kernel), true, rfl, iteF ?_⟩
    refine ⟨_, rfl, (by show 0 ≤ sizeLine; decide), fun p0 np0 => ?_⟩
    have s1 : Same H (upd H p0 (.tup [])) := same_nw np0
    have t1 : upd H p0 (.tup []) p0 = some (.tup []) := upd_same
    generalize upd H p0 (.tup []) = H1 at s1 t1
    have a1 := s1 _ _ ha
    refine ⟨a, p0, l, rfl, rfl, SqT.of a1, SqT.of t1, _, rfl, ?_⟩
    rcases hl with ⟨rfl, rfl⟩ | ⟨x, r, rfl, hx⟩
    · exact iteT (iteT (q _ s1))
    refine iteF ?_
    have i0 : atI (x :: r) (0 : Int) = some x := atI_nat (xs := x :: r) (j := 0) rfl
    rcases hx with ⟨ty, hty, kt, rfl⟩ | ⟨z, rfl, hz⟩
    · exact ⟨_, rfl, a, _, _, _, rfl, rfl, SqT.of a1, i0, _, _, _, _, false, rfl, .ty _, ty_at (fun _ _ o e => s1 _ o e) hty, kt, false, rfl, iteT (q _ s1)⟩
    refine ⟨_, rfl, a, _, _, _, rfl, rfl, SqT.of a1, i0, _, _, _, _, true, rfl, .ty _, .base (.str z), kit_ty (by decide +kernel), true, rfl, iteF ?_⟩
    obtain ⟨v, ev, hv⟩ := lF z
    refine ⟨_, rfl, a, _, _, _, rfl, rfl, SqT.of a1, i0, z, v, rfl, rfl, ev, _, rfl, ?_⟩
    rcases hv with ⟨fz, rfl⟩ | ⟨m, tk, fz, rfl⟩
    · rcases hz with ⟨_, rfl⟩ | ⟨gs, e, _⟩
      · exact iteT (iteT (q _ s1))
      · rw [fz] at e
        cases e
    rcases hz with ⟨e, _⟩ | ⟨gs, e, hz⟩
    · rw [fz] at e
      cases e
    rw [fz] at e
    cases e
    obtain ⟨m1', m2'⟩ := plS_le fz
    refine iteF ⟨_, rfl, a, _, rfl, .inr (SqT.of a1), _, rfl, a, _, _, _, rfl, rfl, SqT.of a1, i0, dP, z, .int m, rfl, rfl, ⟨_, _, _, DF.at_, DF.lit, ev, ⟨tk, rfl⟩⟩, _, _, rfl, rfl, rfl, _, rfl, ?_⟩
    rcases hz with ⟨hne, hle, rfl⟩ | ⟨hlen, ts, lts, hts, rfl⟩
    · rw [show (!decide (V.int (((V.str z :: r).length : Nat) : Int) = V.int (1 + m))) = true by
        rw [decide_eq_false (fun e => by have := V.int.inj e; rw [List.length_cons] at this; omega)]
        rfl]
      exact iteT (q _ s1)
    rw [show (!decide (V.int (((V.str z :: r).length : Nat) : Int) = V.int (1 + m))) = false by
      rw [decide_eq_true (by rw [List.length_cons]; congr 1; omega)]
      rfl]
    refine iteF ?_
    have s10 : HT.sIx (r.length + 1) 0 (some (1 : Int)) = 1 := by
      unfold HT.sIx
      simp
    have ecut : cutV (V.str z :: r) (some (1 : Int)) none = r := by
      unfold cutV
      rw [List.length_cons, s10]
      show ((V.str z :: r).drop 1).take (r.length + 1 - 1) = r
      simp
    refine ⟨_, rfl, _, rfl, a, _, rfl, SqT.of a1, (fun h => by rw [List.length_cons, s10] at h; exact absurd h.1 (by decide)), fun p2 np2 => ?_⟩
    rw [ecut]
    have s2 : Same H1 (upd H1 p2 (.tup r)) := same_nw np2
    have t2 : upd H1 p2 (.tup r) p2 = some (.tup r) := upd_same
    generalize upd H1 p2 (.tup r) = H2 at s2 t2
    refine ⟨p2, rfl, ⟨_, SqT.of t2⟩, fun D nD => ?_⟩
    have p2D : p2 ≠ D := ne_of_none t2 nD
    refine lc_tup (xs := r) (fun i H' => (∀ q o, q ≠ D → H2 q = some o → H' q = some o) ∧ H' D = some (.lst ((ts.take i).map V.bl)))
      ⟨fun q o n e => by rw [upd_ne n]; exact e, upd_same⟩ (fun i H' _ h => SqT.of (h.1 _ _ p2D t2)) ?_ ?_
    · rintro i x H3 hx ⟨keep, hD⟩
      have hi : i < r.length := (List.getElem?_eq_some_iff.mp hx).1
      have hb : ts[i]? = some (ts[i]'(by omega)) := List.getElem?_eq_getElem (by omega)
      have old : Same H H3 := fun q o e => keep q o (ne_of_none (s2 _ _ (s1 _ _ e)) nD) (s2 _ _ (s1 _ _ e))
      have pi := (hts i x _ hx hb).same old
      have fin : ∀ H4, Same H3 H4 → ∃ acc, H4 D = some (.lst acc) ∧ acc.length < sizeLine ∧ (∀ q o, q ≠ D → H2 q = some o → upd H4 D (.lst (acc ++ [V.bl (ts[i]'(by omega))])) q = some o) ∧ upd H4 D (.lst (acc ++ [V.bl (ts[i]'(by omega))])) D = some (.lst ((ts.take (i + 1)).map V.bl)) := by
        intro H4 s6
        refine ⟨_, s6 _ _ hD, ?_, ?_, ?_⟩
        · rw [List.length_map, List.length_take]
          exact Nat.lt_of_le_of_lt (Nat.min_le_left _ _) (Nat.lt_of_lt_of_le (show i < 4 by omega) (by decide))
        · intro q o n e
          rw [upd_ne n]
          exact s6 _ _ (keep q o n e)
        · rw [upd_same, List.take_succ, hb, List.map_append]
          rfl
      refine ⟨rfl, ?_⟩
      unfold tYes
      refine iteT ⟨_, rfl, _, rfl, ?_⟩
      rcases pi with ⟨a2, z2, k2, rfl, pa, eb⟩ | ⟨np, eb⟩
      · refine .inl ⟨a2, z2, k2, rfl, pa, ?_⟩
        have f := fin H3 (Same.refl _)
        rw [eb] at f
        exact f
      · refine .inr ⟨np, fun H4 s6 => ?_⟩
        have f := fin H4 s6
        rw [eb] at f
        exact f
    · rintro H3 ⟨keep, hD⟩
      rw [List.take_of_length_le (by omega)] at hD
      exact ⟨D, ts, rfl, SqL.of hD, q _ fun q2 o e => keep q2 o (ne_of_none (s2 _ _ (s1 _ _ e)) nD) (s2 _ _ (s1 _ _ e))⟩
end
end Mz
set_option Elab.async false
set_option linter.all false
set_option maxRecDepth 100000
set_option maxHeartbeats 4000000
/-! two lists item by item; comprehensions with two clauses -/
namespace Mz
open PySem PySem.Spec PyProof.Rows L2
inductive Lk {α β : Type} (R : α → β → Prop) : List α → List β → Prop
  | nil : Lk R [] []
  | cons {x : α} {y : β} {xs : List α} {ys : List β} (h : R x y) (t : Lk R xs ys) : Lk R (x :: xs) (y :: ys)
section
variable {α β : Type} {R : α → β → Prop} {xs xs2 : List α} {ys ys2 : List β}
theorem Lk.length (h : Lk R xs ys) : xs.length = ys.length := by
  induction h with
  | nil => rfl
  | cons _ _ ih => rw [List.length_cons, List.length_cons, ih]
theorem Lk.imp {S : α → β → Prop} (h : Lk R xs ys) (f : ∀ x y, R x y → S x y) : Lk S xs ys := by
  induction h with
  | nil => exact .nil
  | cons h _ ih => exact .cons (f _ _ h) ih
theorem Lk.append (h : Lk R xs ys) (k : Lk R xs2 ys2) : Lk R (xs ++ xs2) (ys ++ ys2) := by
  induction h with
  | nil => exact k
  | cons h _ ih => exact .cons h ih
theorem Lk.one {x : α} {y : β} (h : R x y) : Lk R [x] [y] := .cons h .nil
theorem Lk.get (h : Lk R xs ys) : ∀ {i : Nat} {x : α}, xs[i]? = some x → ∃ y, ys[i]? = some y ∧ R x y := by
  induction h with
  | nil => intro i x e; simp at e
  | cons h _ ih =>
    intro i x e
    match i, e with
    | 0, e =>
      simp at e
      exact ⟨_, rfl, e ▸ h⟩
    | i + 1, e => exact ih (i := i) (by simpa using e)
theorem Lk.memL (h : Lk R xs ys) : ∀ {x : α}, x ∈ xs → ∃ y ∈ ys, R x y := by
  induction h with
  | nil => intro x e; cases e
  | cons h _ ih =>
    intro x e
    rcases List.mem_cons.mp e with rfl | e
    · exact ⟨_, List.mem_cons_self .., h⟩
    · obtain ⟨y, hy, r⟩ := ih e
      exact ⟨y, List.mem_cons_of_mem _ hy, r⟩
theorem Lk.memR (h : Lk R xs ys) : ∀ {y : β}, y ∈ ys → ∃ x ∈ xs, R x y := by
  induction h with
  | nil => intro x e; cases e
  | cons h _ ih =>
    intro x e
    rcases List.mem_cons.mp e with rfl | e
    · exact ⟨_, List.mem_cons_self .., h⟩
    · obtain ⟨y, hy, r⟩ := ih e
      exact ⟨y, List.mem_cons_of_mem _ hy, r⟩
theorem Lk.take (h : Lk R xs ys) (n : Nat) : Lk R (xs.take n) (ys.take n) := by
  induction h generalizing n with
  | nil => rw [List.take_nil, List.take_nil]; exact .nil
  | cons h _ ih =>
    cases n with
    | zero => exact .nil
    | succ n => exact .cons h (ih n)
theorem Lk.drop (h : Lk R xs ys) (n : Nat) : Lk R (xs.drop n) (ys.drop n) := by
  induction h generalizing n with
  | nil => rw [List.drop_nil, List.drop_nil]; exact .nil
  | cons h t ih =>
    cases n with
    | zero => exact .cons h t
    | succ n => exact ih n
end
/-- a term by a name of its own -/
def tW (t : TE) : TE := t
theorem pe_w {X : Cx} {e : Expr} {t : TE} (h : PE X e t) : PE X e (tW t) := h
theorem yesT {σ : L2.St} {H : Hp} {f g : Hp → Prop} (h : f H) : tYes σ H (fun b H3 => if b = true then f H3 else g H3) := by
  show if true = true then f H else g H
  rw [if_pos rfl]
  exact h
/-- rules whose terms speak of K alone, for use within a comprehension -/
theorem pi_tupK {X : Cx} {tg l : Expr} {tl : TE} (K : PySem.W.Frag) (hl : PE X l tl) (hK : X.K = K := by rfl) : PI X tg l (iTup K tl) := by
  subst hK
  exact pi_tup hl
theorem pi_listK {X : Cx} {tg l : Expr} {tl : TE} (K : PySem.W.Frag) (hl : PE X l tl) (hK : X.K = K := by rfl) : PI X tg l (iList K tl) := by
  subst hK
  exact pi_list hl
theorem sl_tupK {X : Cx} (K : PySem.W.Frag) (hK : X.K = K := by rfl) : SlR X (rSlT K) := by
  subst hK
  exact sl_tup
/-- the inner walk of a comprehension with two clauses -/
theorem lc2_in {J : It} {n : Nat} {G : Hp → Prop} {Y : Nat → Hp → V → Hp → Prop} (wk : L2.Walk J n G Y) {g : TG} {tt : TT} {te : TE} {vs : List Nat} {σ : L2.St} {H0 : Hp} {D : Addr} {Nx : Hp → Prop} (Pv : Nat → Hp → Prop) (h0 : Pv 0 H0) (hG : ∀ i H, i ≤ n → Pv i H → G H)
    (hs : ∀ i x H H', i < n → Pv i H → Y i H x H' → g x (wipe σ vs) H' fun σ3 H5 => wipe σ3 vs = wipe σ vs ∧ tt σ3 H5 fun b H6 =>
      if b = true then te σ3 H6 fun y H7 => ∃ acc, H7 D = some (.lst acc) ∧ acc.length < sizeLine ∧ Pv (i + 1) (upd H7 D (.lst (acc ++ [y]))) else Pv (i + 1) H6) (hd : ∀ H, Pv n H → Nx H) :
    ∃ W1 : Nat → Nat → Hp → Prop, (∃ m, W1 0 m H0) ∧ ∀ j k H, W1 j k H →
      (J.stop j H ∧ Nx H) ∨ (J.go j H ∧ ∃ Nx1 : Hp → Prop, (∀ H', Nx1 H' → ∃ k', k' < k ∧ W1 (j + 1) k' H') ∧ ∀ x H', J.yld j H x H' → g x (wipe σ vs) H' fun σ3 H5 => wipe σ3 vs = wipe σ vs ∧ tt σ3 H5 fun b H6 =>
        if b = true then te σ3 H6 fun y H7 => ∃ acc, H7 D = some (.lst acc) ∧ acc.length < sizeLine ∧ Nx1 (upd H7 D (.lst (acc ++ [y]))) else Nx1 H6) := by
  refine ⟨fun i m H => m + i = n ∧ Pv i H, ⟨n, by omega, h0⟩, fun i m H ⟨hm, p⟩ => ?_⟩
  have gs := hG i H (by omega) p
  rcases Nat.lt_or_ge i n with lt | ge
  · exact .inr ⟨wk.goes i H lt gs, Pv (i + 1), fun H' p' => ⟨m - 1, by omega, by omega, p'⟩, fun x H' y => hs i x H H' lt p (wk.yields i H x H' lt gs y)⟩
  · have e : i = n := by omega
    subst e
    exact .inl ⟨wk.stops H gs, hd H p⟩
/-- the outer walk -/
theorem lc2_out {J : It} {n : Nat} {G : Hp → Prop} {Y : Nat → Hp → V → Hp → Prop} (wk : L2.Walk J n G Y) {g g1 : TG} {tt tt1 : TT} {wi1 : TI} {te : TE} {vs vs1 : List Nat} {σ : L2.St} {H1 : Hp} {D : Addr} {Qd : Hp → Prop} (Pv : Nat → Hp → Prop) (h0 : Pv 0 (upd H1 D (.lst []))) (hG : ∀ i H, i ≤ n → Pv i H → G H)
    (hs : ∀ i x H H', i < n → Pv i H → Y i H x H' → g x (wipe σ vs) H' fun σ2 H2 => wipe σ2 vs = wipe σ vs ∧ tt σ2 H2 fun b H3 =>
      if b = true then wi1 σ2 H3 fun J1 H4 => ∃ W1 : Nat → Nat → Hp → Prop, (∃ m, W1 0 m H4) ∧ ∀ j k H, W1 j k H →
        (J1.stop j H ∧ Pv (i + 1) H) ∨ (J1.go j H ∧ ∃ Nx1 : Hp → Prop, (∀ H', Nx1 H' → ∃ k', k' < k ∧ W1 (j + 1) k' H') ∧ ∀ x H', J1.yld j H x H' → g1 x (wipe σ2 vs1) H' fun σ3 H5 => wipe σ3 vs1 = wipe σ2 vs1 ∧ tt1 σ3 H5 fun b H6 =>
          if b = true then te σ3 H6 fun y H7 => ∃ acc, H7 D = some (.lst acc) ∧ acc.length < sizeLine ∧ Nx1 (upd H7 D (.lst (acc ++ [y]))) else Nx1 H6)
      else Pv (i + 1) H3) (hd : ∀ H, Pv n H → Qd H) :
    ∃ W : Nat → Nat → Hp → Prop, (∃ m, W 0 m (upd H1 D (.lst []))) ∧ ∀ i m H, W i m H →
      (J.stop i H ∧ Qd H) ∨ (J.go i H ∧ ∃ Nx : Hp → Prop, (∀ H', Nx H' → ∃ m', m' < m ∧ W (i + 1) m' H') ∧ ∀ x H', J.yld i H x H' → g x (wipe σ vs) H' fun σ2 H2 => wipe σ2 vs = wipe σ vs ∧ tt σ2 H2 fun b H3 =>
        if b = true then wi1 σ2 H3 fun J1 H4 => ∃ W1 : Nat → Nat → Hp → Prop, (∃ m, W1 0 m H4) ∧ ∀ j k H, W1 j k H →
          (J1.stop j H ∧ Nx H) ∨ (J1.go j H ∧ ∃ Nx1 : Hp → Prop, (∀ H', Nx1 H' → ∃ k', k' < k ∧ W1 (j + 1) k' H') ∧ ∀ x H', J1.yld j H x H' → g1 x (wipe σ2 vs1) H' fun σ3 H5 => wipe σ3 vs1 = wipe σ2 vs1 ∧ tt1 σ3 H5 fun b H6 =>
            if b = true then te σ3 H6 fun y H7 => ∃ acc, H7 D = some (.lst acc) ∧ acc.length < sizeLine ∧ Nx1 (upd H7 D (.lst (acc ++ [y]))) else Nx1 H6)
        else Nx H3) := by
  refine ⟨fun i m H => m + i = n ∧ Pv i H, ⟨n, by omega, h0⟩, fun i m H ⟨hm, p⟩ => ?_⟩
  have gs := hG i H (by omega) p
  rcases Nat.lt_or_ge i n with lt | ge
  · exact .inr ⟨wk.goes i H lt gs, Pv (i + 1), fun H' p' => ⟨m - 1, by omega, by omega, p'⟩, fun x H' y => hs i x H H' lt p (wk.yields i H x H' lt gs y)⟩
  · have e : i = n := by omega
    subst e
    exact .inl ⟨wk.stops H gs, hd H p⟩
end Mz
set_option Elab.async false
set_option linter.all false
set_option maxRecDepth 100000
set_option maxHeartbeats 4000000
namespace Mz
open PySem PySem.Spec PyProof.Rows L2
theorem rd_keep {H H' : Hp} {a : Addr} {u : HO} (h : Rd H a u) (k : ∀ b o, H b = some o → H' b = some o) : Rd H' a u := by
  rcases h with h | ⟨o, h⟩
  · exact .inl (k _ _ h)
  · exact .inr ⟨o, k _ _ h⟩
theorem sqL_keep {K : PySem.W.Frag} {H H' : Hp} {a : Addr} {xs : List V} (h : SqL K H a xs) (k : ∀ b o, H b = some o → H' b = some o) : SqL K H' a xs := by
  rcases h with h | h
  · exact .inl (rd_keep h k)
  · exact .inr h
theorem sqT_keep {K : PySem.W.Frag} {H H' : Hp} {a : Addr} {xs : List V} (h : SqT K H a xs) (k : ∀ b o, H b = some o → H' b = some o) : SqT K H' a xs := by
  rcases h with h | h
  · exact .inl (rd_keep h k)
  · exact .inr h
/-- a place at an address, by its parts -/
def PlR (C : Addr) (H : Hp) : Addr → Str × Int → Prop := fun a p => Pl C H a p.1 p.2
theorem PlR.same {C : Addr} {H H' : Hp} (s : Same H H') {a : Addr} {p : Str × Int} (h : PlR C H a p) : PlR C H' a p := by
  obtain ⟨dx, h⟩ := h
  exact ⟨dx, s _ _ h⟩
abbrev Row := Str × List (Str × Int)
/-- a row: a word with as many places as it wants, each of them one -/
def RwOk (rw : Row) : Prop := plS rw.1 = some (rw.2.length : Int) ∧ ∀ p ∈ rw.2, Good p.1 p.2
/-- a row that is given: a tuple of its word and of what stands for its places -/
def RwG (K : PySem.W.Frag) (C : Addr) (H : Hp) (a : Addr) (rw : Row) : Prop := ∃ items, H a = some (.tup (.str rw.1 :: items)) ∧ Lk (fun v (p : Str × Int) => Pv6 K C H v p.1 p.2) items rw.2 ∧ RwOk rw
theorem RwG.same {K : PySem.W.Frag} {C : Addr} {H H' : Hp} (s : Same H H') {a : Addr} {rw : Row} (h : RwG K C H a rw) : RwG K C H' a rw := by
  obtain ⟨items, h1, h2, h3⟩ := h
  exact ⟨items, s _ _ h1, h2.imp fun _ _ x => x.same s, h3⟩
/-- a row with Place objects -/
def RwP (C : Addr) (H : Hp) (a : Addr) (rw : Row) : Prop := ∃ qs : List Addr, H a = some (.tup (.str rw.1 :: qs.map V.ref)) ∧ Lk (PlR C H) qs rw.2 ∧ RwOk rw
theorem RwP.same {C : Addr} {H H' : Hp} (s : Same H H') {a : Addr} {rw : Row} (h : RwP C H a rw) : RwP C H' a rw := by
  obtain ⟨items, h1, h2, h3⟩ := h
  exact ⟨items, s _ _ h1, h2.imp fun _ _ x => x.same s, h3⟩
theorem Row.le {rw : Row} (h : RwOk rw) : 1 ≤ rw.2.length ∧ rw.2.length ≤ 2 := by
  have := plS_le h.1
  omega
theorem RwG.fct {K : PySem.W.Frag} {C : Addr} {H : Hp} {a : Addr} {rw : Row} (h : RwG K C H a rw) : Fct K C H (.ref a) true := by
  obtain ⟨items, h1, h2, h3⟩ := h
  have hl := h2.length
  have hp1 := h3.1
  refine .inr ⟨a, _, rfl, h1, .inr ⟨_, items, rfl, .inr ⟨rw.1, rfl, .inr ⟨_, h3.1, .inr ⟨by omega, List.replicate items.length true, by simp, fun i v b hv hb => ?_, by simp⟩⟩⟩⟩⟩
  obtain ⟨p, _, hp⟩ := h2.get hv
  have : b = true := by
    have m := List.mem_of_getElem? hb
    exact List.eq_of_mem_replicate m
  rw [this]
  exact hp.pi
def spPlaced (K : PySem.W.Frag) (C : Addr) : Sp := fun vs H Q _ => ∃ (a : Addr) (rw : Row), vs = [.ref a] ∧ RwG K C H a rw ∧ ∀ q H', Same H H' → H q = none → RwP C H' q rw → Q (.ref q) H'
/-- all the places of rows -/
def plsOf (rws : List Row) : List (Str × Int) := rws.flatMap (·.2)
def spPlacesOf (K : PySem.W.Frag) (C : Addr) : Sp := fun vs H Q _ => ∃ (rl : Addr) (as : List Addr) (rws : List Row), vs = [.ref rl] ∧ SqL K H rl (as.map V.ref) ∧ Lk (RwP C H) as rws ∧ rws.length ≤ 100 ∧
  ∀ (p : Addr) (qs : List Addr) (H' : Hp), Same H H' → H p = none → H' p = some (.lst (qs.map V.ref)) → Lk (PlR C H') qs (plsOf rws) → Q (.ref p) H'
section
variable {P : Program} {w : World} {K : PySem.W.Frag} {mg : Str → Option Value} {base : Heap}
theorem cut1 {x : V} {r : List V} : cutV (x :: r) (some (1 : Int)) none = r := by
  unfold cutV
  have s10 : HT.sIx (r.length + 1) 0 (some (1 : Int)) = 1 := by
    unfold HT.sIx
    simp
  rw [List.length_cons, s10]
  show ((x :: r).drop 1).take (r.length + 1 - 1) = r
  simp
theorem cut1n {x : V} {r : List V} : ¬ (HT.sIx (x :: r).length 0 (some (1 : Int)) = 0 ∧ HT.sIx (x :: r).length (x :: r).length none = (x :: r).length) := by
  have s10 : HT.sIx (r.length + 1) 0 (some (1 : Int)) = 1 := by
    unfold HT.sIx
    simp
  rw [List.length_cons, s10]
  exact fun h => absurd h.1 (by decide)
theorem scPlaced : FnScope ["row", "item"] ["row"] (defScope sPlacedRow) := ⟨rfl, rfl, rfl, by decide +kernel, rfl, by decide +kernel, by decide +kernel⟩
theorem ok_placed {f fO C cX po : Addr} {fd fdO : FuncData} (F : Fun K "placed_row" "placed_row" sPlacedRow f fd) (Z : Cpl K mg C) (O : OfM P w K mg base C cX po fO fdO) : FnOk P w K mg base CX0 6 f fd ["row"] (spPlaced K C) := by
  refine F.ok scPlaced (fun vs H Q E h => ?_) (fun cdv A outer s H vs Q E hr h => ?_)
  · obtain ⟨a, rw, rfl, _⟩ := h
    rfl
  · obtain ⟨a, rw, rfl, ⟨items, ha, hit, hpl⟩, q⟩ := h
    have nd := scPlaced.nd
    refine ⟨_, pss_one (ps_ret (pe_tup (pa_cons (pe_ix ix_tup (pv 0) pe_int (fun _ _ => rfl)) (StX.pa_star (pe_lc (own := [("item", 1)]) (g := gName 1) (tt := tYes) rfl nd (pi_tup (pe_slice sl_tup (pv 0) (po_some pe_int) po_none)) (blkOk_by (N := ["row", "item"]) (sc := defScope sPlacedRow) (by decide +kernel)) (fun _ _ _ _ _ => pg_name (i := 1) nd rfl (Or.inl rfl)) (fun _ _ _ _ _ => pts_nil)
      (fun _ _ _ _ _ => pe_w (pe_cmethS (ES := fun _ => E0) (pe_glob (v := .ref C) rfl Z.mgC rfl) O.rd O.met O.ok hr O.b (fun σ => pass_no) (pa_cons (pv 1) pa_nil)))) pa_nil)))), ?_⟩
    have i0 : atI (V.str rw.1 :: items) (0 : Int) = some (.str rw.1) := atI_nat (xs := V.str rw.1 :: items) (j := 0) rfl
    refine ⟨_, rfl, a, _, _, _, rfl, rfl, SqT.of ha, i0, ?_⟩
    refine ⟨_, rfl, _, rfl, a, _, rfl, SqT.of ha, cut1n, fun p1 n1 => ?_⟩
    rw [cut1]
    have s1 : Same H (upd H p1 (.tup items)) := same_nw n1
    have t1 : upd H p1 (.tup items) p1 = some (.tup items) := upd_same
    generalize upd H p1 (.tup items) = H1 at s1 t1
    refine ⟨p1, rfl, ⟨_, SqT.of t1⟩, fun D nD => ?_⟩
    have p1D : p1 ≠ D := ne_of_none t1 nD
    have oldD : ∀ b o, H b = some o → b ≠ D := fun b o e => ne_of_none (s1 _ _ e) nD
    have hl2 := Row.le hpl
    have hll := hit.length
    refine lc_tup (xs := items) (fun i H' => (∀ b o, b ≠ D → H1 b = some o → H' b = some o) ∧ ∃ qs : List Addr, H' D = some (.lst (qs.map V.ref)) ∧ Lk (PlR C H') qs (rw.2.take i))
      ⟨fun b o n e => by rw [upd_ne n]; exact e, [], upd_same, by rw [List.take_zero]; exact .nil⟩ (fun i H' _ h => SqT.of (h.1 _ _ p1D t1)) ?_ ?_
    · rintro i x H3 hx ⟨keep, qs, hD, hq⟩
      obtain ⟨⟨z, k⟩, hy, pv6⟩ := hit.get hx
      have hi : i < items.length := (List.getElem?_eq_some_iff.mp hx).1
      have old : Same H H3 := fun b o e => keep b o (oldD b o e) (s1 _ _ e)
      have lq := hq.length
      rw [List.length_take] at lq
      have fin : ∀ (r : Addr) (H4 : Hp), Same H3 H4 → Pl C H4 r z k → ∃ acc, H4 D = some (.lst acc) ∧ acc.length < sizeLine ∧ (∀ b o, b ≠ D → H1 b = some o → upd H4 D (.lst (acc ++ [V.ref r])) b = some o) ∧ ∃ qs : List Addr, upd H4 D (.lst (acc ++ [V.ref r])) D = some (.lst (qs.map V.ref)) ∧ Lk (PlR C (upd H4 D (.lst (acc ++ [V.ref r])))) qs (rw.2.take (i + 1)) := by
        intro r H4 s4 pr
        have hD4 := s4 _ _ hD
        have kp : ∀ {b : Addr} {p : Str × Int} (o : HO), PlR C H4 b p → PlR C (upd H4 D o) b p := fun {b p} o ⟨dx, e⟩ => ⟨dx, by rw [upd_ne (fun e2 => by rw [e2, hD4] at e; cases e)]; exact e⟩
        refine ⟨_, hD4, ?_, fun b o n e => by rw [upd_ne n]; exact s4 _ _ (keep b o n e), qs ++ [r], by rw [upd_same, List.map_append]; rfl, ?_⟩
        · rw [List.length_map]
          exact Nat.lt_of_lt_of_le (show qs.length < 10 by omega) (by decide)
        · rw [List.take_succ, hy]
          exact (hq.imp fun _ _ x => kp _ (x.same s4)).append (Lk.one (kp _ pr))
      refine ⟨rfl, ?_⟩
      unfold tYes tW
      refine iteT ⟨rfl, _, rfl, x, rfl, ?_⟩
      rcases pv6.same old with ⟨r, rfl, pr⟩ | ⟨np, ev⟩
      · exact .inl ⟨r, z, k, rfl, pr, fin r H3 (Same.refl _) pr⟩
      · refine .inr ⟨np, fun z2 k2 e p H4 n4 sm pp g => ?_, fun e d H4 n4 sm hd => ?_⟩
        · rw [ev] at e
          cases e
          exact fin p H4 sm pp
        · rw [ev] at e
          cases e
    · rintro H3 ⟨keep, qs, hD, hq⟩
      have old : Same H H3 := fun b o e => keep b o (oldD b o e) (s1 _ _ e)
      rw [List.take_of_length_le (by omega)] at hq
      have lq := hq.length
      refine ⟨D, qs.map V.ref, rfl, .inr (SqL.of hD), ?_⟩
      refine ⟨?_, fun t nt => ?_⟩
      · show (V.str rw.1 :: (qs.map V.ref ++ [])).length ≤ sizeLine
        rw [List.append_nil, List.length_cons, List.length_map]
        exact Nat.le_trans (show qs.length + 1 ≤ 10 by omega) (by decide)
      · refine q t _ (old.trans (same_nw nt)) (old.free nt) ⟨qs, ?_, hq.imp fun _ _ x => x.same (same_nw nt), hpl⟩
        rw [upd_same, List.append_nil]
theorem scPlacesOf : FnScope ["rows", "row", "place"] ["rows"] (defScope sPlacesOf) := ⟨rfl, rfl, rfl, by decide +kernel, rfl, by decide +kernel, by decide +kernel⟩
theorem ok_placesOf {f C : Addr} {fd : FuncData} (F : Fun K "places_of_rows" "places_of_rows" sPlacesOf f fd) : FnOk P w K mg base CX0 1 f fd ["rows"] (spPlacesOf K C) := by
  refine F.ok scPlacesOf (fun vs H Q E h => ?_) (fun cdv A outer s H vs Q E hr h => ?_)
  · obtain ⟨rl, as, rws, rfl, _⟩ := h
    rfl
  · obtain ⟨rl, as, rws, rfl, hL, hR, hn, q⟩ := h
    have nd := scPlacesOf.nd
    refine ⟨_, pss_one (ps_ret (by exact pe_lc2 (own := [("row", 1), ("place", 2)]) (vs1 := [2]) (g := gName 1) (g1 := gName 2) (tt := tYes) (tt1 := tYes) rfl nd (pi_list (pv 0)) (blkOk_by (N := ["rows", "row", "place"]) (sc := defScope sPlacesOf) (by decide +kernel)) (by decide) (fun _ _ _ _ _ => pg_name (i := 1) nd rfl (Or.inl rfl)) (fun _ _ _ _ _ => pts_nil) (fun _ _ _ _ _ => pi_tupK K (pe_slice (sl_tupK K) (pv 1) (po_some pe_int) po_none)) (fun _ _ _ _ _ => pg_name (i := 2) nd rfl (Or.inl rfl)) (fun _ _ _ _ _ => pts_nil) (fun _ _ _ _ _ => pv 2))), ?_⟩
    refine ⟨_, rfl, rl, rfl, ⟨_, hL⟩, fun D nD => ?_⟩
    have oldD : ∀ b o, H b = some o → b ≠ D := fun b o e => ne_of_none e nD
    have big : 1000 ≤ sizeLine := by decide
    have two : ∀ n, (plsOf (rws.take n)).length ≤ 2 * n := by
      intro n
      have all : ∀ l : List Row, (∀ rw ∈ l, rw.2.length ≤ 2) → (plsOf l).length ≤ 2 * l.length := by
        intro l
        induction l with
        | nil => intro _; decide
        | cons r l ih =>
          intro h
          have h1 := h r (List.mem_cons_self ..)
          have h2 := ih fun x hx => h x (List.mem_cons_of_mem _ hx)
          show (r.2 ++ plsOf l).length ≤ _
          rw [List.length_append, List.length_cons]
          omega
      refine Nat.le_trans (all _ fun rw hrw => ?_) (by rw [List.length_take]; omega)
      obtain ⟨a, _, items, _, _, h3⟩ := hR.memR (List.mem_of_mem_take hrw)
      exact (Row.le h3).2
    have lR := hR.length
    refine lc2_out (walk_list (xs := as.map V.ref)) (fun i H' => (∀ b o, b ≠ D → H b = some o → H' b = some o) ∧ ∃ qs : List Addr, H' D = some (.lst (qs.map V.ref)) ∧ Lk (PlR C H') qs (plsOf (rws.take i)))
      ⟨fun b o n e => by rw [upd_ne n]; exact e, [], upd_same, by rw [List.take_zero]; exact .nil⟩ (fun i H' _ h => sqL_keep hL fun b o e => h.1 b o (oldD b o e) e) ?_ ?_
    · rintro i x H1 H2 hi ⟨keep, qs, hD, hq⟩ ⟨rfl, hx⟩
      rw [List.getElem?_map] at hx
      obtain ⟨a, ha, rfl⟩ := Option.map_eq_some_iff.mp hx
      obtain ⟨rw, hrw, items, h1, h2, h3⟩ := hR.get ha
      have hi2 : i < rws.length := (List.getElem?_eq_some_iff.mp hrw).1
      have a2 := keep a _ (oldD a _ h1) h1
      have n2 := h2.length
      refine ⟨rfl, yesT ?_⟩
      refine ⟨_, rfl, _, rfl, a, _, rfl, SqT.of a2, cut1n, fun p1 n1 => ?_⟩
      rw [cut1]
      have s3 : Same H2 (upd H2 p1 (.tup (items.map V.ref))) := same_nw n1
      have t3 : upd H2 p1 (.tup (items.map V.ref)) p1 = some (.tup (items.map V.ref)) := upd_same
      generalize upd H2 p1 (.tup (items.map V.ref)) = H3 at s3 t3
      have hD3 := s3 _ _ hD
      have p1D : p1 ≠ D := fun e => by
        rw [e, hD] at n1
        cases n1
      refine ⟨p1, rfl, ⟨_, SqT.of t3⟩, ?_⟩
      refine lc2_in (walk_tup (xs := items.map V.ref)) (fun j H' => (∀ b o, b ≠ D → H3 b = some o → H' b = some o) ∧ ∃ qs : List Addr, H' D = some (.lst (qs.map V.ref)) ∧ Lk (PlR C H') qs (plsOf (rws.take i) ++ rw.2.take j))
        ⟨fun b o n e => e, qs, hD3, by rw [List.take_zero, List.append_nil]; exact hq.imp fun _ _ x => x.same s3⟩ (fun j H' _ h => SqT.of (h.1 _ _ p1D t3)) ?_ ?_
      · rintro j y H4 H5 hj ⟨keep4, qs4, hD4, hq4⟩ ⟨rfl, hy⟩
        rw [List.getElem?_map] at hy
        obtain ⟨r, hr2, rfl⟩ := Option.map_eq_some_iff.mp hy
        obtain ⟨p, hp, pr⟩ := h2.get hr2
        have l4 := hq4.length
        have t2i := two i
        rw [List.length_append, List.length_take] at l4
        have le2 := (Row.le h3).2
        refine ⟨rfl, yesT ?_⟩
        refine ⟨_, rfl, _, hD4, ?_, fun b o n e => by rw [upd_ne n]; exact keep4 b o n e, qs4 ++ [r], by rw [upd_same, List.map_append]; rfl, ?_⟩
        · rw [List.length_map]
          omega
        · have kp : ∀ {b : Addr} {p : Str × Int} (o : HO), PlR C H5 b p → PlR C (upd H5 D o) b p := fun {b p} o ⟨dx, e⟩ => ⟨dx, by rw [upd_ne (fun e2 => by rw [e2, hD4] at e; cases e)]; exact e⟩
          rw [List.take_succ, hp, ← List.append_assoc]
          refine (hq4.imp fun _ _ x => kp _ x).append (Lk.one (kp _ ?_))
          obtain ⟨dx, e⟩ := pr
          exact ⟨dx, keep4 _ _ (oldD _ _ e) (s3 _ _ (keep _ _ (oldD _ _ e) e))⟩
      · rintro H4 ⟨keep4, qs4, hD4, hq4⟩
        refine ⟨fun b o n e => keep4 b o n (s3 _ _ (keep b o n e)), qs4, hD4, ?_⟩
        rw [List.length_map, n2, List.take_length] at hq4
        rw [List.take_succ, hrw]
        unfold plsOf
        rw [List.flatMap_append]
        show Lk _ _ (plsOf (rws.take i) ++ (rw.2 ++ []))
        rw [List.append_nil]
        exact hq4
    · rintro H1 ⟨keep, qs, hD, hq⟩
      rw [List.length_map, List.take_of_length_le (by omega)] at hq
      exact q D qs H1 (fun b o e => keep b o (oldD b o e) e) nD hD hq
end
end Mz
set_option Elab.async false
set_option linter.all false
set_option maxRecDepth 100000
set_option maxHeartbeats 4000000
namespace Mz
open PySem PySem.Spec PyProof.Rows L2
/-- the names of places, ascending -/
def Unk (ps : List (Str × Int)) (ys : List Str) : Prop := sortedS ys = true ∧ ys.Nodup ∧ ∀ z, z ∈ ys ↔ z ≠ "" ∧ ∃ k, (z, k) ∈ ps
def spUnkOf (K : PySem.W.Frag) (C : Addr) : Sp := fun vs H Q _ => ∃ (pl : Addr) (qs : List Addr) (ps : List (Str × Int)), vs = [.ref pl] ∧ SqL K H pl (qs.map V.ref) ∧ Lk (PlR C H) qs ps ∧ ps.length < 60 ∧
  ∀ (p : Addr) (ys : List Str) (H' : Hp), Same H H' → H p = none → H' p = some (.lst (ys.map V.str)) → Unk ps ys → Q (.ref p) H'
section
variable {P : Program} {w : World} {K : PySem.W.Frag} {mg : Str → Option Value} {base : Heap}
theorem scUnkOf : FnScope ["places", "place"] ["places"] (defScope sUnkOf) := ⟨rfl, rfl, rfl, by decide +kernel, rfl, by decide +kernel, by decide +kernel⟩
theorem ok_unkOf {f C pb gb : Addr} {fd fdb : FuncData} (F : Fun K "unknowns_of" "unknowns_of" sUnkOf f fd) (Z : Cpl K mg C) (mS : mg "sorted" = none) (pB : PropOf K C "base" pb gb) (Gb : FnOk P w K mg base CX0 1 gb fdb ["self"] (spBase C)) (bb : Binds K fdb ["self"] []) :
    FnOk P w K mg base CX0 3 f fd ["places"] (spUnkOf K C) := by
  refine F.ok scUnkOf (fun vs H Q E h => ?_) (fun cdv A outer s H vs Q E hr h => ?_)
  · obtain ⟨pl, qs, ps, rfl, _⟩ := h
    rfl
  · obtain ⟨pl, qs, ps, rfl, hL, hq, hn, q⟩ := h
    have nd := scUnkOf.nd
    refine ⟨_, pss_one (ps_ret (pe_callB (cr_sortSet rfl) (by rfl) mS (by decide +kernel) (pa_cons (pe_scS (own := [("place", 1)]) (g := gName 1) rfl nd (pi_list (pv 0)) (blkOk_by (N := ["places", "place"]) (sc := defScope sUnkOf) (by decide +kernel)) (fun _ _ _ _ _ => pg_name (i := 1) nd rfl (Or.inl rfl)) (fun _ _ _ _ _ => pts_one (pt_cmpR op_ne (pe_w (pe_prop (pv 1) Z.cl pB Gb hr bb .nil pass0 rfl)) pe_str (nomark _))) (fun _ _ _ _ _ => pe_w (pe_prop (pv 1) Z.cl pB Gb hr bb .nil pass0 rfl))) pa_nil))), ?_⟩
    refine ⟨_, rfl, pl, rfl, ⟨_, hL⟩, fun D nD => ?_⟩
    have oldD : ∀ b o, H b = some o → b ≠ D := fun b o e => ne_of_none e nD
    have lq := hq.length
    refine scS_it (P := P) (w := w) (walk_list (xs := qs.map V.ref)) (fun i H' => (∀ b o, b ≠ D → H b = some o → H' b = some o) ∧ ∃ (S : Str → Bool) (n : Nat), H' D = some (SetS P w D S n) ∧ n ≤ i ∧ ∀ z, S z = true ↔ z ≠ "" ∧ ∃ k, (z, k) ∈ ps.take i)
      ⟨fun b o n e => by rw [upd_ne n]; exact e, _, 0, upd_same, Nat.le_refl _, fun z => by simp⟩ (fun i H' _ h => sqL_keep hL fun b o e => h.1 b o (oldD b o e) e) ?_ ?_
    · rintro i x H1 H2 hi ⟨keep, S, n, hD, hni, hS⟩ ⟨rfl, hx⟩
      rw [List.getElem?_map] at hx
      obtain ⟨a, ha, rfl⟩ := Option.map_eq_some_iff.mp hx
      obtain ⟨⟨z, k⟩, hp, dx, pa⟩ := hq.get ha
      have pa2 := keep a _ (oldD a _ pa) pa
      have tk : ps.take (i + 1) = ps.take i ++ [(z, k)] := by rw [List.take_succ, hp]; rfl
      rw [List.length_map] at hi
      have sb : 1000 < scanBound := by decide
      refine ⟨rfl, ?_⟩
      refine ⟨_, rfl, a, dx, _, rfl, pa2, a, z, k, rfl, ⟨dx, pa2⟩, ?_⟩
      refine ⟨rfl, _, rfl, ?_⟩
      by_cases e : z = ""
      · subst e
        refine iteF ⟨keep, S, n, hD, by omega, fun y => ?_⟩
        rw [hS y, tk]
        constructor
        · rintro ⟨h1, k1, h2⟩
          exact ⟨h1, k1, List.mem_append_left _ h2⟩
        · rintro ⟨h1, k1, h2⟩
          rcases List.mem_append.mp h2 with h2 | h2
          · exact ⟨h1, k1, h2⟩
          · cases List.mem_singleton.mp h2
            exact absurd rfl h1
      · rw [show (!decide (V.str z = V.str "")) = true by rw [decide_eq_false (fun x => e (V.str.inj x))]; rfl]
        refine iteT ⟨_, rfl, a, dx, _, rfl, pa2, a, z, k, rfl, ⟨dx, pa2⟩, z, S, n, rfl, hD, by omega, fun b o n2 e2 => by rw [upd_ne n2]; exact keep b o n2 e2, _, _, upd_same, ?_, fun y => ?_⟩
        · split <;> omega
        · rw [Bool.or_eq_true, decide_eq_true_eq, hS y, tk]
          constructor
          · rintro (⟨h1, k1, h2⟩ | rfl)
            · exact ⟨h1, k1, List.mem_append_left _ h2⟩
            · exact ⟨e, k, List.mem_append_right _ (List.mem_singleton.mpr rfl)⟩
          · rintro ⟨h1, k1, h2⟩
            rcases List.mem_append.mp h2 with h2 | h2
            · exact .inl ⟨h1, k1, h2⟩
            · cases List.mem_singleton.mp h2
              exact .inr rfl
    · rintro H1 ⟨keep, S, n, hD, hni, hS⟩
      rw [List.length_map] at hni
      rw [List.length_map, List.take_of_length_le (by omega)] at hS
      have old : Same H H1 := fun b o e => keep b o (oldD b o e) e
      exact ⟨D, S, n, rfl, hD, by omega, fun ys p h1 h2 h3 h4 np => q p ys _ (old.trans (same_nw np)) (old.free np) upd_same ⟨h1, h2, fun z => (h3 z).trans (hS z)⟩⟩
end
end Mz
set_option Elab.async false
set_option linter.all false
set_option maxRecDepth 100000
set_option maxHeartbeats 4000000
namespace Mz
open PySem PySem.Spec PyProof.Rows L2
/-- the value of a place at sizes -/
def wtP (kvs : List (Key × V)) (p : Str × Int) : Int := (wtK kvs p.1 p.2).getD 0
/-- whether a setting keeps a row -/
def keepR (kvs : List (Key × V)) (pg : Int) (rw : Row) : Bool := match rw.2 with
  | [p] => decide (wtP kvs p % pg = 0)
  | [p, r] => decide (wtP kvs p ≤ wtP kvs r)
  | _ => false
/-- a setting has all that a row wants -/
def HasR (kvs : List (Key × V)) (rw : Row) : Prop := ∀ p ∈ rw.2, ∃ n, wtK kvs p.1 p.2 = some n
def spHasSizes (K : PySem.W.Frag) (S : Addr) : Sp := fun vs H Q _ => ∃ (s ul : Addr) (kvs : List (Key × V)) (pg : Int) (ys : List Str), vs = [.ref s, .ref ul] ∧ Stg S H s kvs pg ∧ SqL K H ul (ys.map V.str) ∧ (∀ y ∈ ys, Sm 1000 y) ∧ ys.length ≤ 100 ∧
  ∀ H', Same H H' → Q (.bl (ys.all fun y => (valV kvs (.inr y)).isSome)) H'
def spKeeps (K : PySem.W.Frag) (S C : Addr) : Sp := fun vs H Q _ => ∃ (s a : Addr) (kvs : List (Key × V)) (pg : Int) (rw : Row), vs = [.ref s, .ref a] ∧ Stg S H s kvs pg ∧ KInt kvs ∧ 1 ≤ pg ∧ RwP C H a rw ∧ HasR kvs rw ∧ ∀ H', Same H H' → Q (.bl (keepR kvs pg rw)) H'
section
variable {P : Program} {w : World} {K : PySem.W.Frag} {mg : Str → Option Value} {base : Heap}
theorem scHasSizes : FnScope ["setting", "unknowns", "name"] ["setting", "unknowns"] (defScope sHasSizes) := ⟨rfl, rfl, rfl, by decide +kernel, rfl, by decide +kernel, by decide +kernel⟩
theorem ok_hasSizes {f S g5 : Addr} {fd fd5 : FuncData} (F : Fun K "has_sizes" "has_sizes" sHasSizes f fd) (D : Blp mg) (GC : FnOk P w K mg base CX0 1 g5 fd5 ["self", "x"] (spContS K S)) (bC : Binds K fd5 ["self", "x"] []) (iC : PySem.W.findIn K (.ref S) "__contains__" = some (some (.ref g5))) (jC : PySem.W.isFn K (.ref g5) = true) :
    FnOk P w K mg base CX0 2 f fd ["setting", "unknowns"] (spHasSizes K S) := by
  refine F.ok scHasSizes (fun vs H Q E h => ?_) (fun cdv A outer s H vs Q E hr h => ?_)
  · obtain ⟨s, ul, kvs, pg, ys, rfl, _⟩ := h
    rfl
  · obtain ⟨st, ul, kvs, pg, ys, rfl, hst, hL, hsm, hn, q⟩ := h
    have nd := scHasSizes.nd
    refine ⟨_, pss_one (ps_ret (pe_callB (cr_all rfl) (by rfl) D.all (by decide +kernel) (pa_cons (pe_lc (own := [("name", 2)]) (g := gName 2) (tt := tYes) rfl nd (pi_list (pv 1)) (blkOk_by (N := ["setting", "unknowns", "name"]) (sc := defScope sHasSizes) (by decide +kernel)) (fun _ _ _ _ _ => pg_name (i := 2) nd rfl (Or.inl rfl)) (fun _ _ _ _ _ => pts_nil)
      (fun _ _ _ _ _ => pe_w (pe_cmpR (op_inO GC hr bC iC jC) (pv 2) (pv 0) (by rfl)))) pa_nil))), ?_⟩
    refine ⟨_, rfl, ul, rfl, ⟨_, hL⟩, fun Dd nD => ?_⟩
    have oldD : ∀ b o, H b = some o → b ≠ Dd := fun b o e => ne_of_none e nD
    refine lc_it (walk_list (xs := ys.map V.str)) (fun i H' => (∀ b o, b ≠ Dd → H b = some o → H' b = some o) ∧ H' Dd = some (.lst (((ys.take i).map fun y => (valV kvs (.inr y)).isSome).map V.bl)))
      ⟨fun b o n e => by rw [upd_ne n]; exact e, upd_same⟩ (fun i H' _ h => sqL_keep hL fun b o e => h.1 b o (oldD b o e) e) ?_ ?_
    · rintro i x H1 H2 hi ⟨keep, hD⟩ ⟨rfl, hx⟩
      rw [List.getElem?_map] at hx
      obtain ⟨y, hy, rfl⟩ := Option.map_eq_some_iff.mp hx
      have hm := hsm y (List.mem_of_getElem? hy)
      have old : Same H H2 := fun b o e => keep b o (oldD b o e) e
      obtain ⟨dx, d, h1, h2⟩ := hst.same old
      rw [List.length_map] at hi
      refine ⟨rfl, yesT ?_⟩
      unfold tW
      refine ⟨_, rfl, _, rfl, st, dx, _, rfl, h1, st, .str y, kvs, pg, rfl, ⟨dx, d, h1, h2⟩, .str y hm.1 hm.2, _, rfl, _, hD, ?_, fun b o n e => by rw [upd_ne n]; exact keep b o n e, ?_⟩
      · rw [List.length_map, List.length_map, List.length_take]
        exact Nat.lt_of_lt_of_le (show min i ys.length < 1000 by omega) (by decide)
      · rw [upd_same, List.take_succ, hy, List.map_append, List.map_append]
        rfl
    · rintro H1 ⟨keep, hD⟩
      rw [List.length_map, List.take_length] at hD
      have e : (ys.map fun y => (valV kvs (.inr y)).isSome).all id = ys.all fun y => (valV kvs (.inr y)).isSome := by
        rw [List.all_map]
        rfl
      refine ⟨Dd, ys.map fun y => (valV kvs (.inr y)).isSome, rfl, SqL.of hD, ?_⟩
      rw [e]
      exact q _ fun b o e => keep b o (oldD b o e) e
theorem scKeeps : FnScope ["setting", "row"] ["setting", "row"] (defScope sKeeps) := ⟨rfl, rfl, rfl, by decide +kernel, rfl, by decide +kernel, by decide +kernel⟩
theorem ok_keeps {f S C cX fG pg2 g2 : Addr} {fd fdG fd2 : FuncData} (F : Fun K "keeps" "keeps" sKeeps f fd) (T : Scl K mg S) (GG : FnOk P w K mg base (L2.CX P w) 6 fG fdG ["self", "at"] (spGetS K S C cX)) (bG : Binds K fdG ["self", "at"] [])
    (iG : PySem.W.findIn K (.ref S) "__getitem__" = some (some (.ref fG))) (fG2 : PySem.W.fnIn K fG = true) (jG : PySem.W.isFn K (.ref fG) = true) (pP : PropOf K S "page" pg2 g2) (GP : FnOk P w K mg base CX0 1 g2 fd2 ["self"] (spPageS S)) (bP : Binds K fd2 ["self"] []) :
    FnOk P w K mg base CX0 8 f fd ["setting", "row"] (spKeeps K S C) := by
  refine F.ok scKeeps (fun vs H Q E h => ?_) (fun cdv A outer s H vs Q E hr h => ?_)
  · obtain ⟨s, a, kvs, pg, rw, rfl, _⟩ := h
    rfl
  · obtain ⟨st, a, kvs, pg, rw, rfl, hst, hki, hpg, ⟨qs, ha, hq, hpl, _⟩, hh, q⟩ := h
    have hr2 : Room 2 _ := hr.mono (by decide)
    refine ⟨_, pss_cons (ps_if (pt_cmpR op_eq (pe_ix ix_tup (pv 1) pe_int (fun _ _ => rfl)) pe_str (nomark _)) (pss_one (ps_ret (pe_cmpR op_eq (pe_op op_modN (pe_subS (E := fun _ => E0) GG hr bG iG fG2 jG (fun σ => pass_no) (pv 0) (pe_ix ix_tup (pv 1) pe_int (fun _ _ => rfl))) (pe_prop (pv 0) T.cl pP GP hr2 bP .nil pass0 rfl)) pe_int (nomark _)))) pss_nil)
      (pss_one (ps_ret (pe_cmpR op_le (pe_subS (E := fun _ => E0) GG hr bG iG fG2 jG (fun σ => pass_no) (pv 0) (pe_ix ix_tup (pv 1) pe_int (fun _ _ => rfl))) (pe_subS (E := fun _ => E0) GG hr bG iG fG2 jG (fun σ => pass_no) (pv 0) (pe_ix ix_tup (pv 1) pe_int (fun _ _ => rfl))) (nomark _)))), ?_⟩
    have i0 : atI (V.str rw.1 :: qs.map V.ref) (0 : Int) = some (.str rw.1) := atI_nat (xs := V.str rw.1 :: qs.map V.ref) (j := 0) rfl
    refine ⟨_, rfl, a, _, _, _, rfl, rfl, SqT.of ha, i0, rfl, _, rfl, ?_⟩
    have lq := hq.length
    have plv : ∀ {H2 : Hp} {r : Addr} {p : Str × Int}, Same H H2 → PlR C H r p → PlV K C H2 kvs (.ref r) (wtK kvs p.1 p.2) := fun {H2 r p} sm pr => .inl ⟨r, p.1, p.2, rfl, pr.same sm, rfl⟩
    obtain ⟨dx, d, h1, h2⟩ := id hst
    obtain ⟨wd, prs⟩ := rw
    match prs, hq, hpl, hh, q, lq with
    | [p], .cons (x := r) pr .nil, hpl, hh, q, _ =>
      have ew : wd = "page" := by
        by_cases e1 : wd = "at_most"
        · subst e1
          cases hpl
        · have hpl : plS wd = some 1 := hpl
          unfold plS at hpl
          rw [if_neg e1] at hpl
          split at hpl
          · assumption
          · cases hpl
      obtain ⟨n, hn⟩ := hh p (List.mem_singleton.mpr rfl)
      rw [decide_eq_true (by rw [ew])]
      have i1 : atI [V.str wd, V.ref r] (1 : Int) = some (.ref r) := rfl
      refine iteT ⟨_, rfl, _, rfl, a, _, _, _, rfl, rfl, SqT.of ha, i1, st, dx, _, rfl, h1, st, .ref r, kvs, pg, _, rfl, hst, hki, plv (Same.refl H) pr, fun m hm H1 s1 => ?_, fun e => by rw [hn] at e; cases e⟩
      rw [hn] at hm
      cases hm
      obtain ⟨dx1, d1, h11, h21⟩ := hst.same s1
      refine ⟨_, rfl, st, dx1, _, rfl, h11, st, kvs, pg, rfl, ⟨dx1, d1, h11, h21⟩, _, _, rfl, rfl, by omega, rfl, ?_⟩
      have e : keepR kvs pg (wd, [p]) = decide (V.int (n.fmod pg) = V.int 0) := by
        show decide (wtP kvs p % pg = 0) = _
        unfold wtP
        rw [hn, Int.fmod_eq_emod_of_nonneg _ (by omega)]
        exact decide_eq_decide.mpr ⟨fun x => by rw [← x]; rfl, fun x => V.int.inj x⟩
      rw [← e]
      exact q H1 s1
    | [p, p2], .cons (x := r) pr (.cons (x := r2) pr2 .nil), hpl, hh, q, _ =>
      have ew : ¬ wd = "page" := fun e => by
        subst e
        cases hpl
      obtain ⟨n, hn⟩ := hh p (by simp)
      obtain ⟨n2, hn2⟩ := hh p2 (by simp)
      rw [decide_eq_false (fun x => ew (V.str.inj x))]
      have i1 : atI [V.str wd, V.ref r, V.ref r2] (1 : Int) = some (.ref r) := rfl
      have i2 : atI [V.str wd, V.ref r, V.ref r2] (2 : Int) = some (.ref r2) := rfl
      refine iteF ⟨_, rfl, _, rfl, a, _, _, _, rfl, rfl, SqT.of ha, i1, st, dx, _, rfl, h1, st, .ref r, kvs, pg, _, rfl, hst, hki, plv (Same.refl H) pr, fun m hm H1 s1 => ?_, fun e => by rw [hn] at e; cases e⟩
      rw [hn] at hm
      cases hm
      obtain ⟨dx1, d1, h11, h21⟩ := hst.same s1
      refine ⟨_, rfl, _, rfl, a, _, _, _, rfl, rfl, SqT.of (s1 _ _ ha), i2, st, dx1, _, rfl, h11, st, .ref r2, kvs, pg, _, rfl, ⟨dx1, d1, h11, h21⟩, hki, plv s1 pr2, fun m hm H2 s2 => ?_, fun e => by rw [hn2] at e; cases e⟩
      rw [hn2] at hm
      cases hm
      refine ⟨_, _, rfl, rfl, ?_⟩
      have e : keepR kvs pg (wd, [p, p2]) = decide (n ≤ n2) := by
        show decide (wtP kvs p ≤ wtP kvs p2) = _
        unfold wtP
        rw [hn, hn2]
        rfl
      show Q (.bl (decide (n ≤ n2))) H2
      rw [← e]
      exact q H2 (s1.trans s2)
    | [], _, hpl, _, _, _ =>
      have h0 : (1 : Int) ≤ 0 := (plS_le hpl).1
      omega
    | _ :: _ :: _ :: _, _, hpl, _, _, _ =>
      have := (plS_le hpl).2
      simp only [List.length_cons] at this
      omega
end
end Mz
set_option Elab.async false
set_option linter.all false
set_option maxRecDepth 100000
set_option maxHeartbeats 4000000
namespace Mz
open PySem PySem.Spec PyProof.Rows L2
theorem FctT.same {K : PySem.W.Frag} {C : Addr} {H H' : Hp} {l : List V} {t : Bool} (s : Same H H') (h : FctT K C H l t) : FctT K C H' l t := by
  rcases h with h | ⟨x, r, e, h⟩
  · exact .inl h
  · refine .inr ⟨x, r, e, ?_⟩
    rcases h with ⟨ty, h1, h2⟩ | ⟨z, e1, h⟩
    · exact .inl ⟨ty, ty_at (fun a _ o e => s a o e) h1, h2⟩
    · refine .inr ⟨z, e1, ?_⟩
      rcases h with h | ⟨n, h1, h⟩
      · exact .inl h
      · refine .inr ⟨n, h1, ?_⟩
        rcases h with h | ⟨h2, ts, h3, h4, h5⟩
        · exact .inl h
        · exact .inr ⟨h2, ts, h3, fun i v b a c => (h4 i v b a c).same s, h5⟩
theorem Fct.same {K : PySem.W.Frag} {C : Addr} {H H' : Hp} {v : V} {t : Bool} (s : Same H H') (h : Fct K C H v t) : Fct K C H' v t := by
  rcases h with ⟨ty, h1, h2⟩ | ⟨a, l, e, h1, h2⟩
  · exact .inl ⟨ty, ty_at (fun a _ o e => s a o e) h1, h2⟩
  · exact .inr ⟨a, l, e, s _ _ h1, h2.same s⟩
def fcF (rl ul : Addr) : List (Str × V) := putF "_unknowns" (.ref ul) (putF "_rows" (.ref rl) [])
theorem fcF_rows {rl ul : Addr} : (fcF rl ul).lookup ("_rows" : Str) = some (.ref rl) := by
  unfold fcF
  rw [lookup_putF, if_neg (by decide +kernel), lookup_putF, if_pos rfl]
theorem fcF_unk {rl ul : Addr} : (fcF rl ul).lookup ("_unknowns" : Str) = some (.ref ul) := by
  unfold fcF
  rw [lookup_putF, if_pos rfl]
/-- facts, by their rows -/
def Fac (F C : Addr) (H : Hp) (f : Addr) (rws : List Row) : Prop := ∃ (dx rl ul : Addr) (as : List Addr) (ys : List Str), H f = some (.ins F dx (fcF rl ul)) ∧ H rl = some (.lst (as.map V.ref)) ∧ Lk (RwP C H) as rws ∧ H ul = some (.lst (ys.map V.str)) ∧ Unk (plsOf rws) ys ∧ ys.length ≤ 2 ∧ rws.length ≤ 20
theorem Fac.same {F C : Addr} {H H' : Hp} {f : Addr} {rws : List Row} (s : Same H H') (h : Fac F C H f rws) : Fac F C H' f rws := by
  obtain ⟨dx, rl, ul, as, ys, h1, h2, h3, h4, h5⟩ := h
  exact ⟨dx, rl, ul, as, ys, s _ _ h1, s _ _ h2, h3.imp fun _ _ x => x.same s, s _ _ h4, h5⟩
structure Fcl (K : PySem.W.Frag) (mg : Str → Option Value) (F : Addr) : Prop where
  cl : Cls K F
  nR : NoAttr K F "_rows"
  nU : NoAttr K F "_unknowns"
  mgF : mg "Facts" = some (.ref F)
def spInitF (K : PySem.W.Frag) (C F cR cF : Addr) : Sp := fun vs H Q E => ∃ (p dx tp : Addr) (vals : List V), vs = [.ref p, .ref tp] ∧ H p = some (.ins F dx []) ∧ H tp = some (.tup vals) ∧ vals.length ≤ 20 ∧
  ((∃ (as : List Addr) (rws : List Row), vals = as.map V.ref ∧ Lk (RwG K C H) as rws ∧
      (((∀ ys, Unk (plsOf rws) ys → ys.length ≤ 2) ∧ ∀ H', (∀ q o, q ≠ p → H q = some o → H' q = some o) → Fac F C H' p rws → Q .non H') ∨
        ((∀ ys, Unk (plsOf rws) ys → ¬ ys.length ≤ 2) ∧ ∀ d H', H d = none → Same H H' → H' d = some (.xd [("value", .ref tp)]) → E (.ref cF) (some d) H'))) ∨
    ∃ (i : Nat) (v : V), vals[i]? = some v ∧ (∀ (j : Nat) (u : V), j < i → vals[j]? = some u → Fct K C H u true) ∧ Fct K C H v false ∧ ∀ d H', H d = none → Same H H' → H' d = some (.xd [("value", v)]) → E (.ref cR) (some d) H')
section
variable {P : Program} {w : World} {K : PySem.W.Frag} {mg : Str → Option Value} {base : Heap}
theorem scXinitR : FnScope ["self", "value"] ["self", "value"] (defScope (inClass sInvFact 0)) := ⟨rfl, rfl, rfl, by decide +kernel, rfl, by decide +kernel, by decide +kernel⟩
theorem ok_xinitR {f C cM : Addr} {fd : FuncData} (F : Fun K "__init__" "InvalidFact.__init__" (inClass sInvFact 0) f fd) (T : Xcl K mg "InvalidFact" C "value") (mM : mg "MapError" = some (.ref cM)) (rd : ClX.CRead K cM (.type "type"))
    (fc : PySem.W.findCls K (.ref cM) (.type "type") "__init__" = some (.val (.builtin "ValueError.__init__"))) : FnOk P w K mg base CX0 1 f fd ["self", "value"] (spX1 K C "value") := by
  refine F.ok scXinitR (fun vs H Q E h => ?_) (fun cdv A outer s H vs Q E hr h => ?_)
  · obtain ⟨a, v, rfl, _⟩ := h
    rfl
  · obtain ⟨a, v, rfl, ha, q⟩ := h
    refine ⟨_, pss_cons (ps_expr (pe_meinit (by rfl) mM rd fc (pa_cons (pv 0) (pa_cons pe_str pa_nil)))) (pss_one (ps_ost (pv 0) (pv 1))), ?_⟩
    refine ⟨_, rfl, a, C, _, rfl, (by show 1 ≤ 1000; decide), T.ox, ha, ?_⟩
    exact ⟨_, rfl, _, rfl, a, C, rfl, T.ox, T.no, .inl ⟨ha, fun dx n1 n2 => q dx n1 n2⟩⟩
theorem scXinitFs : FnScope ["self", "value"] ["self", "value"] (defScope (inClass sInvFacts 0)) := ⟨rfl, rfl, rfl, by decide +kernel, rfl, by decide +kernel, by decide +kernel⟩
theorem ok_xinitFs {f C cM : Addr} {fd : FuncData} (F : Fun K "__init__" "InvalidFacts.__init__" (inClass sInvFacts 0) f fd) (T : Xcl K mg "InvalidFacts" C "value") (mM : mg "MapError" = some (.ref cM)) (rd : ClX.CRead K cM (.type "type"))
    (fc : PySem.W.findCls K (.ref cM) (.type "type") "__init__" = some (.val (.builtin "ValueError.__init__"))) : FnOk P w K mg base CX0 1 f fd ["self", "value"] (spX1 K C "value") := by
  refine F.ok scXinitFs (fun vs H Q E h => ?_) (fun cdv A outer s H vs Q E hr h => ?_)
  · obtain ⟨a, v, rfl, _⟩ := h
    rfl
  · obtain ⟨a, v, rfl, ha, q⟩ := h
    refine ⟨_, pss_cons (ps_expr (pe_meinit (by rfl) mM rd fc (pa_cons (pv 0) (pa_cons pe_str pa_nil)))) (pss_one (ps_ost (pv 0) (pv 1))), ?_⟩
    refine ⟨_, rfl, a, C, _, rfl, (by show 1 ≤ 1000; decide), T.ox, ha, ?_⟩
    exact ⟨_, rfl, _, rfl, a, C, rfl, T.ox, T.no, .inl ⟨ha, fun dx n1 n2 => q dx n1 n2⟩⟩
theorem scInitF : FnScope ["self", "rows", "row", "placed", "unknowns"] ["self", "rows"] (defScope (inClass sFacts 0)) := ⟨rfl, rfl, rfl, by decide +kernel, rfl, by decide +kernel, by decide +kernel⟩
/-- what a class with one exception wants for a raise -/
structure Xr (P : Program) (w : World) (K : PySem.W.Frag) (mg : Str → Option Value) (base : Heap) (x : Str) (c f : Addr) (fd : FuncData) : Prop where
  T : Xcl K mg x c "value"
  G : FnOk P w K mg base CX0 1 f fd ["self", "value"] (spX1 K c "value")
  i : PySem.W.findIn K (.ref c) "__init__" = some (some (.ref f))
  t : PySem.W.typeIn K (.ref f) = some (.type "function")
  b : Binds K fd ["self", "value"] []
/-- a def of the module by its name -/
structure D1 (P : Program) (w : World) (K : PySem.W.Frag) (mg : Str → Option Value) (base : Heap) (x : Str) (k : Nat) (ps : List Str) (sp : Sp) (f : Addr) (fd : FuncData) : Prop where
  ok : FnOk P w K mg base CX0 k f fd ps sp
  m : mg x = some (.ref f)
  k : PySem.W.keepIn K (.ref f) = true
  b : Binds K fd ps []
theorem ok_initF {f C F cR cF fR fF f1 f2 f3 f4 : Addr} {fd fdR fdF fd1 fd2 fd3 fd4 : FuncData} {t : Tok} (F0 : Fun K "__init__" "Facts.__init__" (inClass sFacts 0) f fd) (T : Fcl K mg F) (XR : Xr P w K mg base "InvalidFact" cR fR fdR) (XF : Xr P w K mg base "InvalidFacts" cF fF fdF) (B : Blt mg)
    (G1 : D1 P w K mg base "is_fact" 7 ["value"] (spIsFact K C) f1 fd1) (G2 : D1 P w K mg base "placed_row" 6 ["row"] (spPlaced K C) f2 fd2) (G3 : D1 P w K mg base "places_of_rows" 1 ["rows"] (spPlacesOf K C) f3 fd3) (G4 : D1 P w K mg base "unknowns_of" 3 ["places"] (spUnkOf K C) f4 fd4)
    (mU : mg "MOST_UNKNOWNS" = some (.int 2 t))
    (hb : ∀ us rest : List Value, us.length = (["self"] : List Str).length → bindArgs fd ⟨us ++ rest, []⟩ = (newTuple rest >>= fun t => pure ((["self"] : List Str).zip us ++ [(("rows" : Str), t)]))) :
    FnR P w K mg base (L2.CX P w) 8 f (fun vs H Q E => ∃ ws rest, vs = ws ++ rest ∧ ws.length = (["self"] : List Str).length ∧ rest.length ≤ sizeLine ∧ ∀ p, H p = Option.none → spInitF K C F cR cF (ws ++ [V.ref p]) (upd H p (.tup rest)) Q E) := by
  obtain ⟨oc, od, kV, doc, pm, an, cdv, ct, osl, rfl, lk, hcd⟩ := F0.ex
  refine StX.fn_star (k := 7) lk hcd scInitF StX.cxUp hb fun A outer s H vs Q E hr h => ?_
  obtain ⟨p, dx, tp, vals, rfl, hp, ht, hn, h⟩ := h
  have nd := scInitF.nd
  have hr1 : Room 1 _ := hr.mono (by decide)
  have hr2 : Room 2 _ := hr.mono (by decide)
  have hr3 : Room 3 _ := hr.mono (by decide)
  have hr6 : Room 6 _ := hr.mono (by decide)
  refine ⟨_, pss_cons (ps_for (passes_of rfl) rfl (pi_tup (pv 1)) (pg_name (i := 2) nd rfl (Or.inl rfl)) (pss_one (ps_if (pt_not (pt_val (pe_call G1.ok hr (by rfl) G1.m G1.k G1.b .nil pass0 (pa_cons (pv 2) pa_nil)))) (pss_one (ps_raise rfl (takes_of rfl rfl rfl rfl) (pmk_oex XR.T.ox XR.i XR.t XR.G hr2 XR.b .nil pass0 (by rfl) XR.T.m (pa_cons (pv 2) pa_nil)))) pss_nil)))
    (pss_cons (ps_setLc (i := 3) (own := [("row", 2)]) (g := gName 2) (tt := tYes) rfl nd rfl rfl (sw_true rfl rfl rfl (by decide +kernel)) (pi_tup (pv 1)) (blkOk_by (N := ["self", "rows", "row", "placed", "unknowns"]) (sc := defScope (inClass sFacts 0)) (by decide +kernel)) (fun _ _ _ _ _ => pg_name (i := 2) nd rfl (Or.inl rfl)) (fun _ _ _ _ _ => pts_nil) (fun _ _ _ _ _ => pe_call G2.ok hr6 (by rfl) G2.m G2.k G2.b .nil pass0 (pa_cons (pv 2) pa_nil)))
    (pss_cons (ps_set (i := 4) nd rfl (Or.inl rfl) (pe_call G4.ok hr3 (by rfl) G4.m G4.k G4.b .nil pass0 (pa_cons (pe_call G3.ok hr1 (by rfl) G3.m G3.k G3.b .nil pass0 (pa_cons (pv 3) pa_nil)) pa_nil)))
    (pss_cons (ps_if (pt_cmpR op_gt (pe_callB call_len_seq (by rfl) B.len PySem.boot_len (pa_cons (pv 4) pa_nil)) (pe_glob (v := .int 2) rfl mU ⟨_, rfl⟩) (nomark _)) (pss_one (ps_raise rfl (takes_of rfl rfl rfl rfl) (pmk_oex XF.T.ox XF.i XF.t XF.G hr2 XF.b .nil pass0 (by rfl) XF.T.m (pa_cons (pv 1) pa_nil)))) pss_nil)
    (pss_cons (ps_fld (pv 0) (pv 3) rfl) (pss_one (ps_fld (pv 0) (pv 4) rfl)))))), ?_⟩
  refine ⟨_, rfl, tp, rfl, ⟨_, SqT.of ht⟩, ?_⟩
  -- the first row that is none, or all are rows
  obtain ⟨ib, hg, hbad, hgood⟩ : ∃ ib : Nat, (∀ (j : Nat) (u : V), j < ib → vals[j]? = some u → Fct K C H u true) ∧
      (∀ v, vals[ib]? = some v → Fct K C H v false ∧ ∀ d H', H d = none → Same H H' → H' d = some (.xd [("value", v)]) → E (.ref cR) (some d) H') ∧
      (vals[ib]? = none → ∃ (as : List Addr) (rws : List Row), vals = as.map V.ref ∧ Lk (RwG K C H) as rws ∧
        (((∀ ys, Unk (plsOf rws) ys → ys.length ≤ 2) ∧ ∀ H', (∀ q o, q ≠ p → H q = some o → H' q = some o) → Fac F C H' p rws → Q .non H') ∨
          ((∀ ys, Unk (plsOf rws) ys → ¬ ys.length ≤ 2) ∧ ∀ d H', H d = none → Same H H' → H' d = some (.xd [("value", .ref tp)]) → E (.ref cF) (some d) H'))) := by
    rcases h with ⟨as, rws, e, hR, h⟩ | ⟨i, v, hi, hg, hf, q⟩
    · refine ⟨vals.length, fun j u hj hu => ?_, fun v hv => ?_, fun _ => ⟨as, rws, e, hR, h⟩⟩
      · rw [e, List.getElem?_map] at hu
        obtain ⟨a, ha, rfl⟩ := Option.map_eq_some_iff.mp hu
        obtain ⟨rw, _, r⟩ := hR.get ha
        exact r.fct
      · rw [List.getElem?_eq_none (Nat.le_refl _)] at hv
        cases hv
    · refine ⟨i, hg, fun u hu => ?_, fun e => ?_⟩
      · rw [hi] at hu
        cases hu
        exact ⟨hf, q⟩
      · rw [hi] at e
        cases e
  clear h
  refine for_tup (K := K) (a := tp) (xs := vals) (fun j σ H' => ∃ x2 : Option V, σ = [some (.ref p), some (.ref tp), x2, none, none] ∧ Same H H' ∧ j ≤ ib) ⟨_, rfl, Same.refl _, Nat.zero_le _⟩ (fun j σ H' _ ⟨_, _, s, _⟩ => SqT.of (s _ _ ht)) ?_ ?_
  · rintro j x σ H1 hx ⟨x2, rfl, s1, hj⟩
    generalize hDE : ({ nx := _, rt := _, bk := _, ct := _ } : Ends) = DE
    have enx : ∀ σ' H', (∃ x2 : Option V, σ' = [some (.ref p), some (.ref tp), x2, none, none] ∧ Same H H' ∧ j + 1 ≤ ib) → DE.nx σ' H' := fun σ' H' h => by
      rw [← hDE]
      exact h
    clear hDE
    rcases Nat.lt_or_ge j ib with lt | ge
    · refine ⟨_, rfl, x, true, rfl, (hg j x lt hx).same s1, fun H2 s2 => ⟨_, rfl, iteF ?_⟩⟩
      exact enx _ _ ⟨_, rfl, s1.trans s2, lt⟩
    · have ej : j = ib := by omega
      subst ej
      obtain ⟨hf, q⟩ := hbad x hx
      refine ⟨_, rfl, x, false, rfl, hf.same s1, fun H2 s2 => ⟨_, rfl, iteT (mko_x1 rfl fun d H' nd s3 hd => q d H' ((s1.trans s2).free nd) ((s1.trans s2).trans s3) hd)⟩⟩
  · rintro σ H1 ⟨x2, rfl, s1, hj⟩
    obtain ⟨as, rws, rfl, hR, h⟩ := hgood (List.getElem?_eq_none hj)
    clear hgood hbad hg
    have ht1 := s1 _ _ ht
    have hp1 := s1 _ _ hp
    refine ⟨_, rfl, tp, rfl, ⟨_, SqT.of ht1⟩, fun D nD => ?_⟩
    have oldD : ∀ b o, H b = some o → b ≠ D := fun b o e => ne_of_none (s1 _ _ e) nD
    have oldD1 : ∀ b o, H1 b = some o → b ≠ D := fun b o e => ne_of_none e nD
    have lR := hR.length
    rw [List.length_map] at hn
    refine lc_tup (xs := as.map V.ref) (fun i H' => (∀ b o, b ≠ D → H1 b = some o → H' b = some o) ∧ ∃ bs : List Addr, H' D = some (.lst (bs.map V.ref)) ∧ Lk (RwP C H') bs (rws.take i))
      ⟨fun b o n e => by rw [upd_ne n]; exact e, [], upd_same, by rw [List.take_zero]; exact .nil⟩ (fun i H' _ h => SqT.of (h.1 _ _ (oldD1 _ _ ht1) ht1)) ?_ ?_
    · rintro i x H3 hx ⟨keep, bs, hD, hB⟩
      rw [List.getElem?_map] at hx
      obtain ⟨a, ha, rfl⟩ := Option.map_eq_some_iff.mp hx
      obtain ⟨rw, hrw, r⟩ := hR.get ha
      have hi : i < rws.length := (List.getElem?_eq_some_iff.mp hrw).1
      have old : Same H H3 := fun b o e => keep b o (oldD b o e) (s1 _ _ e)
      have lB := hB.length
      rw [List.length_take] at lB
      refine ⟨rfl, yesT ?_⟩
      refine ⟨_, rfl, a, rw, rfl, r.same old, fun q2 H4 s4 nq r4 => ?_⟩
      have hD4 := s4 _ _ hD
      have kp : ∀ {b : Addr} {rw : Row} (o : HO), RwP C H4 b rw → RwP C (upd H4 D o) b rw := fun {b rw} o ⟨qs, e1, e2, e3⟩ => by
        refine ⟨qs, by rw [upd_ne (fun e => by rw [e, hD4] at e1; cases e1)]; exact e1, e2.imp fun y z ⟨dx, e⟩ => ⟨dx, ?_⟩, e3⟩
        rw [upd_ne (fun e0 => by rw [e0, hD4] at e; cases e)]
        exact e
      refine ⟨_, hD4, ?_, fun b o n e => by rw [upd_ne n]; exact s4 _ _ (keep b o n e), bs ++ [q2], by rw [upd_same, List.map_append]; rfl, ?_⟩
      · rw [List.length_map]
        exact Nat.lt_of_lt_of_le (show bs.length < 100 by omega) (by decide)
      · rw [List.take_succ, hrw]
        exact (hB.imp fun _ _ x => kp _ (x.same s4)).append (Lk.one (kp _ r4))
    · rintro H3 ⟨keep, bs, hD, hB⟩
      rw [List.length_map, List.take_of_length_le (by omega)] at hB
      have s13 : Same H1 H3 := fun b o e => keep b o (oldD1 b o e) e
      have lB := hB.length
      refine ⟨_, rfl, D, bs, rws, rfl, SqL.of hD, hB, by omega, fun pl qs H4 s4 npl hpl hq => ?_⟩
      have l2 : (plsOf rws).length ≤ 2 * rws.length := by
        have all : ∀ l : List Row, (∀ rw ∈ l, rw.2.length ≤ 2) → (plsOf l).length ≤ 2 * l.length := by
          intro l
          induction l with
          | nil => intro _; decide
          | cons r l ih =>
            intro h
            have h1 := h r (List.mem_cons_self ..)
            have h2 := ih fun x hx => h x (List.mem_cons_of_mem _ hx)
            show (r.2 ++ plsOf l).length ≤ _
            rw [List.length_append, List.length_cons]
            omega
        refine all _ fun rw hrw => ?_
        obtain ⟨a, _, items, _, _, h3⟩ := hR.memR hrw
        exact (Row.le h3).2
      refine ⟨pl, qs, plsOf rws, rfl, SqL.of hpl, hq, by omega, fun ul ys H5 s5 nul hul hU => ?_⟩
      refine ⟨_, rfl, ul, _, rfl, .inl (SqL.of hul), _, _, rfl, rfl, _, rfl, ?_⟩
      have s35 := s4.trans s5
      have s05 : Same H H5 := (s1.trans s13).trans s35
      rcases h with ⟨two, q⟩ | ⟨more, q⟩
      · have ly := two ys hU
        rw [decide_eq_false (by rw [List.length_map]; omega)]
        refine iteF ?_
        have hp5 := s05 _ _ hp
        have nR := lR
        refine ⟨_, rfl, _, rfl, p, F, dx, _, rfl, hp5, T.cl, T.nR, (by show 0 < 1000; decide), _, rfl, _, rfl, p, F, dx, _, rfl, upd_same, T.cl, T.nU, (by show 1 < 1000; decide), ?_⟩
        rw [upd_upd]
        have other : ∀ b o, b ≠ p → H5 b = some o → upd H5 p (.ins F dx (fcF D ul)) b = some o := fun b o n e => by
          rw [upd_ne n]
          exact e
        have np : ∀ {b : Addr} {o : HO}, H5 b = some o → (∀ z, o ≠ .ins F dx z) → b ≠ p := fun {b o} e n x => by
          rw [x, hp5] at e
          cases e
          exact n _ rfl
        refine q _ (fun b o n e => other b o n (s05 _ _ e)) ⟨dx, D, ul, bs, ys, upd_same, other _ _ (np (s35 _ _ hD) (fun z => by intro e; cases e)) (s35 _ _ hD), hB.imp fun b rw ⟨qs2, e1, e2, e3⟩ => ?_, other _ _ (np hul (fun z => by intro e; cases e)) hul, hU, ly, by omega⟩
        refine ⟨qs2, other _ _ (np (s35 _ _ e1) (fun z => by intro e; cases e)) (s35 _ _ e1), e2.imp fun y z ⟨dy, e⟩ => ⟨dy, ?_⟩, e3⟩
        refine other _ _ (fun x => ?_) (s35 _ _ e)
        have e' := s35 _ _ e
        rw [x, hp5] at e'
        injection e' with e'
        injection e' with _ _ e'
        have pne : ∀ (a : Str) (b : Int), plF a b ≠ [] := fun a b e => by
          have z := congrArg (fun l : List (Str × V) => l.lookup ("_shift" : Str)) e
          unfold plF at z
          rw [lookup_putF, if_pos rfl] at z
          cases z
        exact pne _ _ e'.symm
      · have ly := more ys hU
        rw [decide_eq_true (by rw [List.length_map]; omega)]
        exact iteT (mko_x1 rfl fun d H' nd s6 hd => q d H' (s05.free nd) (s05.trans s6) hd)
end
end Mz
set_option Elab.async false
set_option linter.all false
set_option maxRecDepth 100000
set_option maxHeartbeats 4000000
namespace Mz
open PySem PySem.Spec PyProof.Rows L2
/-- a setting has sizes for all names of rows -/
def hasAll (kvs : List (Key × V)) (rws : List Row) : Bool := (plsOf rws).all fun p => decide (p.1 = "") || (valV kvs (.inr p.1)).isSome
def spHolds (K : PySem.W.Frag) (F S C cS : Addr) : Sp := fun vs H Q E => ∃ (f : Addr) (v : V) (rws : List Row), vs = [.ref f, v] ∧ Fac F C H f rws ∧
  ((∃ (s : Addr) (kvs : List (Key × V)) (pg : Int), v = .ref s ∧ Stg S H s kvs pg ∧ KInt kvs ∧ 1 ≤ pg ∧ hasAll kvs rws = true ∧ ∀ H', Same H H' → Q (.bl (rws.all (keepR kvs pg))) H') ∨
    (((∃ (s : Addr) (kvs : List (Key × V)) (pg : Int), v = .ref s ∧ Stg S H s kvs pg ∧ hasAll kvs rws = false) ∨ Oty K S H v) ∧ ∀ d H', H d = none → Same H H' → H' d = some (.xd [("value", v)]) → E (.ref cS) (some d) H'))
theorem Fac.ok {F C : Addr} {H : Hp} {f : Addr} {rws : List Row} (h : Fac F C H f rws) : ∀ rw ∈ rws, RwOk rw := by
  obtain ⟨dx, rl, ul, as, ys, h1, h2, h3, _⟩ := h
  intro rw hrw
  obtain ⟨a, _, qs, _, _, h4⟩ := h3.memR hrw
  exact h4
theorem has_unk {kvs : List (Key × V)} {rws : List Row} {ys : List Str} (h : Unk (plsOf rws) ys) : (ys.all fun y => (valV kvs (.inr y)).isSome) = hasAll kvs rws := by
  rw [Bool.eq_iff_iff, List.all_eq_true]
  unfold hasAll
  rw [List.all_eq_true]
  constructor
  · intro a p hp
    by_cases e : p.1 = ""
    · rw [decide_eq_true e, Bool.true_or]
    · rw [a p.1 ((h.2.2 p.1).mpr ⟨e, p.2, hp⟩), Bool.or_true]
  · intro a y hy
    obtain ⟨e, k, hk⟩ := (h.2.2 y).mp hy
    have z := a _ hk
    rw [decide_eq_false e, Bool.false_or] at z
    exact z
theorem hasR_of {kvs : List (Key × V)} {rws : List Row} (hk : KInt kvs) (h : hasAll kvs rws = true) : ∀ rw ∈ rws, HasR kvs rw := by
  intro rw hrw p hp
  have m : p ∈ plsOf rws := List.mem_flatMap.mpr ⟨rw, hrw, hp⟩
  have z := List.all_eq_true.mp h p m
  unfold wtK
  by_cases e : p.1 = ""
  · exact ⟨p.2, if_pos e⟩
  · rw [if_neg e]
    rw [decide_eq_false e, Bool.false_or] at z
    obtain ⟨v, hv⟩ := Option.isSome_iff_exists.mp z
    obtain ⟨n, rfl⟩ := hk _ _ hv
    rw [hv]
    exact ⟨_, rfl⟩
section
variable {P : Program} {w : World} {K : PySem.W.Frag} {mg : Str → Option Value} {base : Heap}
theorem scHolds : FnScope ["self", "setting", "row"] ["self", "setting"] (defScope (inClass sFacts 3)) := ⟨rfl, rfl, rfl, by decide +kernel, rfl, by decide +kernel, by decide +kernel⟩
theorem ok_holds {f F S C cS fS f1 f2 : Addr} {fd fdS fd1 fd2 : FuncData} (F0 : Fun K "holds" "Facts.holds" (inClass sFacts 3) f fd) (T : Fcl K mg F) (TS : Scl K mg S) (Y : Pty K S) (XS : Xr P w K mg base "InvalidSetting" cS fS fdS) (D : Blp mg)
    (G1 : D1 P w K mg base "has_sizes" 2 ["setting", "unknowns"] (spHasSizes K S) f1 fd1) (G2 : D1 P w K mg base "keeps" 8 ["setting", "row"] (spKeeps K S C) f2 fd2) :
    FnOk P w K mg base (L2.CX P w) 9 f fd ["self", "setting"] (spHolds K F S C cS) := by
  refine F0.okX scHolds (fun vs H Q E h => ?_) (fun cdv A outer s H vs Q E hr h => ?_)
  · obtain ⟨f, v, rws, rfl, _⟩ := h
    rfl
  · obtain ⟨fa, v, rws, rfl, hf, h⟩ := h
    have nd := scHolds.nd
    have hr2 : Room 2 _ := hr.mono (by decide)
    refine ⟨_, pss_cons (ps_if (PW.pt (pw_or (pt_not (pt_val (pe_callB call_isi (by rfl) D.isi (by decide +kernel) (pa_cons (pv 1) (pa_cons (pe_glob (v := .ref S) rfl TS.mgS rfl) pa_nil))))) (pw_or1 (pt_not (pt_val (pe_call G1.ok hr2 (by rfl) G1.m G1.k G1.b .nil pass0 (pa_cons (pv 1) (pa_cons (pe_fld (pv 0) rfl) pa_nil))))))))
        (pss_one (ps_raise rfl (takes_of rfl rfl rfl rfl) (pmk_oex XS.T.ox XS.i XS.t XS.G hr2 XS.b .nil pass0 (by rfl) XS.T.m (pa_cons (pv 1) pa_nil)))) pss_nil)
      (pss_cons (ps_for (passes_of rfl) rfl (pi_list (pe_fld (pv 0) rfl)) (pg_name (i := 2) nd rfl (Or.inl rfl)) (pss_one (ps_if (pt_not (pt_val (pe_call G2.ok hr (by rfl) G2.m G2.k G2.b .nil pass0 (pa_cons (pv 1) (pa_cons (pv 2) pa_nil))))) (pss_one (ps_ret pe_bl)) pss_nil)))
      (pss_one (ps_ret pe_bl))), ?_⟩
    have hok := hf.ok
    obtain ⟨dx, rl, ul, as, ys, h1, h2, h3, h4, h5, h6, h7⟩ := id hf
    have ysm : ∀ y ∈ ys, Sm 1000 y := fun y hy => by
      obtain ⟨e, k, hk⟩ := (h5.2.2 y).mp hy
      obtain ⟨rw, hrw, hp⟩ := List.mem_flatMap.mp hk
      have g := (hok rw hrw).2 _ hp
      exact ⟨g.1, g.2.1⟩
    refine ⟨_, rfl, ?_⟩
    have isS : ∀ {s : Addr} {kvs : List (Key × V)} {pg : Int}, Stg S H s kvs pg → TyX K H (.ref s) (.ref S) := fun {s kvs pg} ⟨dy, d, hs, _⟩ => .base (.ins hs Y.cl Y.ha Y.hn Y.htk Y.hm)
    rcases h with ⟨s, kvs, pg, rfl, hst, hki, hpg, hall, q⟩ | ⟨h, q⟩
    · refine ⟨.ref s, .ref S, .ref S, .ref S, true, rfl, .own S, isS hst, kit_self, true, rfl, iteF ?_⟩
      refine ⟨_, rfl, _, rfl, fa, F, dx, _, _, rfl, h1, T.cl, T.nU, fcF_unk, s, ul, kvs, pg, ys, rfl, hst, SqL.of h4, ysm, by omega, fun H1 s1 => ⟨_, rfl, ?_⟩⟩
      rw [has_unk h5, hall]
      refine iteF ⟨_, rfl, fa, F, dx, _, _, rfl, s1 _ _ h1, T.cl, T.nR, fcF_rows, rl, rfl, ⟨_, SqL.of (s1 _ _ h2)⟩, ?_⟩
      refine for_list (K := K) (a := rl) (xs := as.map V.ref) (fun j σ H' => ∃ x2 : Option V, σ = [some (.ref fa), some (.ref s), x2] ∧ Same H H' ∧ (rws.take j).all (keepR kvs pg) = true) ⟨_, rfl, s1, rfl⟩ (fun j σ H' _ ⟨_, _, s2, _⟩ => SqL.of (s2 _ _ h2)) ?_ ?_
      · rintro j x σ H2 hx ⟨x2, rfl, s2, hj⟩
        rw [List.getElem?_map] at hx
        obtain ⟨a, ha, rfl⟩ := Option.map_eq_some_iff.mp hx
        obtain ⟨rw, hrw, r⟩ := h3.get ha
        have mem : rw ∈ rws := List.mem_of_getElem? hrw
        generalize hDE : ({ nx := _, rt := _, bk := _, ct := _ } : Ends) = DE
        have enx : ∀ σ' H', (∃ x2 : Option V, σ' = [some (.ref fa), some (.ref s), x2] ∧ Same H H' ∧ (rws.take (j + 1)).all (keepR kvs pg) = true) → DE.nx σ' H' := fun σ' H' h => by
          rw [← hDE]
          exact h
        have ert : DE.rt = Q := by rw [← hDE]
        clear hDE
        refine ⟨_, rfl, _, rfl, s, a, kvs, pg, rw, rfl, hst.same s2, hki, hpg, r.same s2, hasR_of hki hall rw mem, fun H3 s3 => ⟨_, rfl, ?_⟩⟩
        cases hk : keepR kvs pg rw with
        | true =>
          refine iteF (enx _ _ ⟨_, rfl, s2.trans s3, ?_⟩)
          rw [List.take_succ, hrw, List.all_append, hj]
          show (true && (keepR kvs pg rw && true)) = true
          rw [hk]
          rfl
        | false =>
          refine iteT ?_
          show DE.rt (.bl false) H3
          rw [ert]
          have e : rws.all (keepR kvs pg) = false := by
            rw [List.all_eq_false]
            exact ⟨rw, mem, by rw [hk]; decide⟩
          rw [e] at q
          exact q _ (s2.trans s3)
      · rintro σ H2 ⟨x2, rfl, s2, hj⟩
        rw [List.length_map, h3.length, List.take_length] at hj
        rw [hj] at q
        exact q _ s2
    · rcases h with ⟨s, kvs, pg, rfl, hst, hall⟩ | ⟨t, ty, kt⟩
      · refine ⟨.ref s, .ref S, .ref S, .ref S, true, rfl, .own S, isS hst, kit_self, true, rfl, iteF ?_⟩
        refine ⟨_, rfl, _, rfl, fa, F, dx, _, _, rfl, h1, T.cl, T.nU, fcF_unk, s, ul, kvs, pg, ys, rfl, hst, SqL.of h4, ysm, by omega, fun H1 s1 => ⟨_, rfl, ?_⟩⟩
        rw [has_unk h5, hall]
        exact iteT (mko_x1 rfl fun d H' nd2 s2 hd => q d H' (s1.free nd2) (s1.trans s2) hd)
      · exact ⟨v, .ref S, t, .ref S, false, rfl, .own S, ty, kt, false, rfl, iteT (iteT (mko_x1 rfl fun d H' nd2 s2 hd => q d H' nd2 s2 hd))⟩
/-- len -/
def spLenF (F C : Addr) : Sp := fun vs H Q _ => ∃ (f : Addr) (rws : List Row), vs = [.ref f] ∧ Fac F C H f rws ∧ Q (.int (rws.length : Nat)) H
theorem scLenF : FnScope ["self"] ["self"] (defScope (inClass sFacts 5)) := ⟨rfl, rfl, rfl, by decide +kernel, rfl, by decide +kernel, by decide +kernel⟩
theorem ok_lenF {f F C : Addr} {fd : FuncData} (F0 : Fun K "__len__" "Facts.__len__" (inClass sFacts 5) f fd) (T : Fcl K mg F) (B : Blt mg) : FnOk P w K mg base CX0 1 f fd ["self"] (spLenF F C) := by
  refine F0.ok scLenF (fun vs H Q E h => ?_) (fun cdv A outer s H vs Q E hr h => ?_)
  · obtain ⟨f, rws, rfl, _⟩ := h
    rfl
  · obtain ⟨fa, rws, rfl, ⟨dx, rl, ul, as, ys, h1, h2, h3, _⟩, q⟩ := h
    refine ⟨_, pss_one (ps_ret (pe_callB call_len_seq (by rfl) B.len PySem.boot_len (pa_cons (pe_fld (pv 0) rfl) pa_nil))), ?_⟩
    refine ⟨_, rfl, fa, F, dx, _, _, rfl, h1, T.cl, T.nR, fcF_rows, rl, _, rfl, .inl (SqL.of h2), ?_⟩
    rw [List.length_map, h3.length]
    exact q
end
end Mz
set_option Elab.async false
set_option linter.all false
set_option maxRecDepth 100000
set_option maxHeartbeats 4000000
namespace Mz
open PySem PySem.Spec PyProof.Rows L2
theorem RwP.g {K : PySem.W.Frag} {C : Addr} {H : Hp} {a : Addr} {rw : Row} (h : RwP C H a rw) : RwG K C H a rw := by
  obtain ⟨qs, h1, h2, h3⟩ := h
  refine ⟨qs.map V.ref, h1, ?_, h3⟩
  clear h1 h3
  generalize rw.2 = ps at h2
  induction h2 with
  | nil => exact .nil
  | cons h _ ih => exact .cons (.inl ⟨_, rfl, h⟩) ih
/-- the rows have at most two names -/
def Two (rws : List Row) : Prop := ∀ ys, Unk (plsOf rws) ys → ys.length ≤ 2
/-- Facts(..), as its __init__ promises -/
def spMakeF (K : PySem.W.Frag) (C F cR cF : Addr) : Sp := fun vs H Q E => ∃ ws rest, vs = ws ++ rest ∧ ws.length = (["self"] : List Str).length ∧ rest.length ≤ sizeLine ∧ ∀ p, H p = Option.none → spInitF K C F cR cF (ws ++ [V.ref p]) (upd H p (.tup rest)) Q E
theorem mk_facts {K : PySem.W.Frag} {C F cR cF x dx : Addr} {H : Hp} {as : List Addr} {rws : List Row} {R : Addr → Hp → Prop} {E : XK} (nx : H x = Option.none) (ndx : H dx = Option.none) (hR : Lk (RwG K C H) as rws) (hn : rws.length ≤ 20) (h2 : Two rws)
    (q : ∀ f H', Same H H' → H f = none → Fac F C H' f rws → R f H') : spMakeF K C F cR cF (V.ref x :: as.map V.ref) (upd (upd H dx (.own x)) x (.ins F dx [])) (fun v H2 => v = .non ∧ R x H2) E := by
  have sm : Same H (upd (upd H dx (.own x)) x (.ins F dx [])) := fun b o e => by
    rw [upd_ne (ne_of_none e nx), upd_ne (ne_of_none e ndx)]
    exact e
  have tx : upd (upd H dx (.own x)) x (.ins F dx []) x = some (.ins F dx []) := upd_same
  generalize upd (upd H dx (.own x)) x (.ins F dx []) = H1 at sm tx
  have lR := hR.length
  refine ⟨[.ref x], as.map V.ref, rfl, rfl, ?_, fun p np => ?_⟩
  · rw [List.length_map]
    exact Nat.le_trans (show as.length ≤ 100 by omega) (by decide)
  have s2 : Same H1 (upd H1 p (.tup (as.map V.ref))) := same_nw np
  have t2 : upd H1 p (.tup (as.map V.ref)) p = some (.tup (as.map V.ref)) := upd_same
  generalize upd H1 p (.tup (as.map V.ref)) = H2 at s2 t2
  have s02 := sm.trans s2
  refine ⟨x, dx, p, _, rfl, s2 _ _ tx, t2, by rw [List.length_map]; omega, .inl ⟨as, rws, rfl, hR.imp fun _ _ r => r.same s02, .inl ⟨h2, fun H3 k hf => ⟨rfl, q x H3 (fun b o e => k b o (ne_of_none e nx) (s02 _ _ e)) nx hf⟩⟩⟩⟩
theorem mk_factsA {K : PySem.W.Frag} {C F cR cF : Addr} {H : Hp} {as : List Addr} {rws : List Row} {R : Addr → Hp → Prop} {E : XK} (hR : Lk (RwG K C H) as rws) (hn : rws.length ≤ 20) (h2 : Two rws)
    (q : ∀ f H', Same H H' → H f = none → Fac F C H' f rws → R f H') : ∀ x dx, H x = Option.none → H dx = Option.none → dx ≠ x → spMakeF K C F cR cF (V.ref x :: as.map V.ref) (upd (upd H dx (.own x)) x (.ins F dx [])) (fun v H2 => v = .non ∧ R x H2) E :=
  fun x dx nx ndx _ => mk_facts nx ndx hR hn h2 q
def spAnd (K : PySem.W.Frag) (F C cF : Addr) : Sp := fun vs H Q E => ∃ (f : Addr) (v : V) (rws : List Row), vs = [.ref f, v] ∧ Fac F C H f rws ∧
  ((∃ (g : Addr) (rws2 : List Row), v = .ref g ∧ Fac F C H g rws2 ∧ (rws ++ rws2).length ≤ 20 ∧ ((Two (rws ++ rws2) ∧ ∀ h H', Same H H' → H h = none → Fac F C H' h (rws ++ rws2) → Q (.ref h) H') ∨
      ((∀ ys, Unk (plsOf (rws ++ rws2)) ys → ¬ ys.length ≤ 2) ∧ ∀ d H', H d = none → Same H H' → H' d = some (.xd [("value", v)]) → E (.ref cF) (some d) H'))) ∨
    (Oty K F H v ∧ ∀ d H', H d = none → Same H H' → H' d = some (.xd [("value", v)]) → E (.ref cF) (some d) H'))
theorem pass_all {X : Cx} : Passes (L2.CX X.prog X.w) X E0 := by
  intro pins σ H s e s2 I c
  obtain ⟨_, _, _, _, _, _, _, _, _, _, _, _, z⟩ := c
  exact z.elim
section
variable {P : Program} {w : World} {K : PySem.W.Frag} {mg : Str → Option Value} {base : Heap}
theorem scAnd : FnScope ["self", "other", "rows"] ["self", "other"] (defScope (inClass sFacts 4)) := ⟨rfl, rfl, rfl, by decide +kernel, rfl, by decide +kernel, by decide +kernel⟩
theorem ok_and {f F C cR cF fI fF f3 f4 : Addr} {fd fdF fd3 fd4 : FuncData} {t : Tok} (F0 : Fun K "__and__" "Facts.__and__" (inClass sFacts 4) f fd) (T : Fcl K mg F) (Y : Pty K F) (XF : Xr P w K mg base "InvalidFacts" cF fF fdF) (B : Blt mg) (D : Blp mg) (M : Mk K F fI) (GI : FnR P w K mg base (L2.CX P w) 8 fI (spMakeF K C F cR cF))
    (G3 : D1 P w K mg base "places_of_rows" 1 ["rows"] (spPlacesOf K C) f3 fd3) (G4 : D1 P w K mg base "unknowns_of" 3 ["places"] (spUnkOf K C) f4 fd4) (mU : mg "MOST_UNKNOWNS" = some (.int 2 t)) :
    FnOk P w K mg base (L2.CX P w) 10 f fd ["self", "other"] (spAnd K F C cF) := by
  refine F0.okX scAnd (fun vs H Q E h => ?_) (fun cdv A outer s H vs Q E hr h => ?_)
  · obtain ⟨f, v, rws, rfl, _⟩ := h
    rfl
  · obtain ⟨fa, v, rws, rfl, hf, h⟩ := h
    have nd := scAnd.nd
    have hr1 : Room 1 _ := hr.mono (by decide)
    have hr2 : Room 2 _ := hr.mono (by decide)
    have hr3 : Room 3 _ := hr.mono (by decide)
    refine ⟨_, pss_cons (ps_if (pt_not (pt_val (pe_callB call_isi (by rfl) D.isi (by decide +kernel) (pa_cons (pv 1) (pa_cons (pe_glob (v := .ref F) rfl T.mgF rfl) pa_nil))))) (pss_one (ps_raise rfl (takes_of rfl rfl rfl rfl) (pmk_oex XF.T.ox XF.i XF.t XF.G hr2 XF.b .nil pass0 (by rfl) XF.T.m (pa_cons (pv 1) pa_nil)))) pss_nil)
      (pss_cons (ps_set (i := 2) nd rfl (Or.inl rfl) (pe_op op_cat (pe_fld (pv 0) rfl) (pe_fld (pv 1) rfl)))
      (pss_cons (ps_if (pt_cmpR op_gt (pe_callB call_len_seq (by rfl) B.len PySem.boot_len (pa_cons (pe_call G4.ok hr3 (by rfl) G4.m G4.k G4.b .nil pass0 (pa_cons (pe_call G3.ok hr1 (by rfl) G3.m G3.k G3.b .nil pass0 (pa_cons (pv 2) pa_nil)) pa_nil)) pa_nil)) (pe_glob (v := .int 2) rfl mU ⟨_, rfl⟩) (nomark _)) (pss_one (ps_raise rfl (takes_of rfl rfl rfl rfl) (pmk_oex XF.T.ox XF.i XF.t XF.G hr2 XF.b .nil pass0 (by rfl) XF.T.m (pa_cons (pv 1) pa_nil)))) pss_nil)
      (pss_one (ps_ret (pe_makeRS (E := E0) M GI hr (by rfl) T.mgF pass_all (pv 2)))))), ?_⟩
    obtain ⟨dx, rl, ul, as, ys, h1, h2, h3, h4, h5, h6, h7⟩ := id hf
    refine ⟨_, rfl, ?_⟩
    rcases h with ⟨g, rws2, rfl, hg, hn, h⟩ | ⟨⟨t0, ty, kt⟩, q⟩
    · obtain ⟨dy, rl2, ul2, as2, ys2, e1, e2, e3, e4, e5, e6, e7⟩ := id hg
      refine ⟨.ref g, .ref F, .ref F, .ref F, true, rfl, .own F, .base (.ins e1 Y.cl Y.ha Y.hn Y.htk Y.hm), kit_self, true, rfl, iteF ?_⟩
      have l1 := h3.length
      have l2 := e3.length
      rw [List.length_append] at hn
      refine ⟨_, rfl, fa, F, dx, _, _, rfl, h1, T.cl, T.nR, fcF_rows, _, rfl, g, F, dy, _, _, rfl, e1, T.cl, T.nR, fcF_rows, rl, rl2, _, _, rfl, rfl, h2, e2, ?_, fun p np => ?_⟩
      · rw [List.length_map, List.length_map]
        exact Nat.le_trans (show as.length + as2.length ≤ 100 by omega) (by decide)
      have s1 : Same H (upd H p (.lst (as.map V.ref ++ as2.map V.ref))) := same_nw np
      have t1 : upd H p (.lst (as.map V.ref ++ as2.map V.ref)) p = some (.lst ((as ++ as2).map V.ref)) := by rw [upd_same, List.map_append]
      generalize upd H p (.lst (as.map V.ref ++ as2.map V.ref)) = H1 at s1 t1
      have hR : Lk (RwP C H1) (as ++ as2) (rws ++ rws2) := (h3.imp fun _ _ x => x.same s1).append (e3.imp fun _ _ x => x.same s1)
      refine ⟨_, rfl, p, as ++ as2, rws ++ rws2, rfl, SqL.of t1, hR, by rw [List.length_append]; omega, fun pl qs H2 s2 npl hpl hq => ?_⟩
      have lp : (plsOf (rws ++ rws2)).length ≤ 2 * (rws ++ rws2).length := by
        have all : ∀ l : List Row, (∀ rw ∈ l, rw.2.length ≤ 2) → (plsOf l).length ≤ 2 * l.length := by
          intro l
          induction l with
          | nil => intro _; decide
          | cons r l ih =>
            intro h
            have h1 := h r (List.mem_cons_self ..)
            have h2 := ih fun x hx => h x (List.mem_cons_of_mem _ hx)
            show (r.2 ++ plsOf l).length ≤ _
            rw [List.length_append, List.length_cons]
            omega
        refine all _ fun rw hrw => ?_
        obtain ⟨a, _, items, _, _, x3⟩ := hR.memR hrw
        exact (Row.le x3).2
      rw [List.length_append] at lp
      refine ⟨pl, qs, _, rfl, SqL.of hpl, hq, by omega, fun u2 zs H3 s3 nu hu hU => ?_⟩
      refine ⟨u2, _, rfl, .inl (SqL.of hu), _, _, rfl, rfl, _, rfl, ?_⟩
      have s03 := s1.trans (s2.trans s3)
      rcases h with ⟨two, q⟩ | ⟨more, q⟩
      · have lz := two zs hU
        rw [decide_eq_false (by rw [List.length_map]; omega)]
        refine iteF ⟨_, rfl, p, _, rfl, .inr (SqL.of (s3 _ _ (s2 _ _ t1))), ?_⟩
        exact fun x dx nx ndx ne => mk_facts nx ndx (hR.imp fun _ _ x => (x.same (s2.trans s3)).g) (by rw [List.length_append]; omega) two fun h H4 s4 nh hh => q h H4 (s03.trans s4) (s03.free nh) hh
      · have lz := more zs hU
        rw [decide_eq_true (by rw [List.length_map]; omega)]
        exact iteT (mko_x1 rfl fun d H' nd2 s4 hd => q d H' (s03.free nd2) (s03.trans s4) hd)
    · exact ⟨v, .ref F, t0, .ref F, false, rfl, .own F, ty, kt, false, rfl, iteT (mko_x1 rfl fun d H' nd2 s2 hd => q d H' nd2 s2 hd)⟩
end
end Mz
set_option Elab.async false
set_option linter.all false
set_option maxRecDepth 100000
set_option maxHeartbeats 4000000
namespace Mz
open PySem PySem.Spec PyProof.Rows L2
/-! rows as data, as the law draws them; facts of them -/
theorem ofV_flat {v : V} {x : Str × Int} (h : ofV v = some x) : ∀ a, v ≠ .ref a := by
  intro a e
  rw [e] at h
  cases h
theorem Bx.off {H : Hp} {b p : Addr} {n : Nat} {o : HO} (B : Bx H b n) (e : H p = some o) (h : ∀ x y z : Int, o ≠ .lst [.int x, .int y, .int z]) : p ≠ b := by
  obtain ⟨x, y, z, hb, _⟩ := B
  intro e2
  rw [e2, hb] at e
  cases e
  exact h _ _ _ rfl
theorem Pv6.kp {K : PySem.W.Frag} {C b : Addr} {H H' : Hp} {n : Nat} (B : Bx H b n) (k : Kp b H H') {v : V} {z : Str} {i : Int} (h : Pv6 K C H v z i) : Pv6 K C H' v z i := by
  rcases h with ⟨a, e, ⟨dx, p⟩⟩ | ⟨⟨h1, t, h2, h3⟩, e⟩
  · exact .inl ⟨a, e, dx, k _ _ (B.off p (fun _ _ _ x => nomatch x)) p⟩
  · have fl := ofV_flat e
    exact .inr ⟨⟨h1.at fun a ea => absurd ea (fl a), t, ty_at (fun a ea => absurd ea (fl a)) h2, h3⟩, e⟩
theorem RwG.kp {K : PySem.W.Frag} {C b : Addr} {H H' : Hp} {n : Nat} (B : Bx H b n) (k : Kp b H H') {a : Addr} {rw : Row} (h : RwG K C H a rw) : RwG K C H' a rw := by
  obtain ⟨items, h1, h2, h3⟩ := h
  exact ⟨items, k _ _ (B.off h1 (fun _ _ _ x => nomatch x)) h1, h2.imp fun _ _ p => p.kp B k, h3⟩
section
variable {K : PySem.W.Frag} {C F S b : Addr} {H H' : Hp} {n : Nat}
theorem bx_ne {a : Addr} {o : HO} (B : Bx H b n) (h : H a = some o) (d : ∀ x y z : Int, o ≠ .lst [.int x, .int y, .int z]) : a ≠ b := by
  obtain ⟨x, y, z, hb, _⟩ := B
  intro e
  rw [e, hb] at h
  exact d x y z (Option.some.inj h).symm
theorem RwP.kp (B : Bx H b n) (k : Kp b H H') {a : Addr} {rw : Row} (h : RwP C H a rw) : RwP C H' a rw := by
  obtain ⟨qs, h1, h2, h3⟩ := h
  exact ⟨qs, k _ _ (bx_ne B h1 fun _ _ _ e => nomatch e) h1, h2.imp fun _ _ ⟨dx, e⟩ => ⟨dx, k _ _ (bx_ne B e fun _ _ _ e => nomatch e) e⟩, h3⟩
theorem Stg.kp (B : Bx H b n) (k : Kp b H H') {s : Addr} {kvs : List (Key × V)} {pg : Int} (h : Stg S H s kvs pg) : Stg S H' s kvs pg := by
  obtain ⟨dx, d, h1, h2⟩ := h
  exact ⟨dx, d, k _ _ (bx_ne B h1 fun _ _ _ e => nomatch e) h1, k _ _ (bx_ne B h2 fun _ _ _ e => nomatch e) h2⟩
theorem RwG.upd {D a : Addr} {l l' : List V} {rw : Row} (hD : H D = some (.lst l)) (h : RwG K C H a rw) : RwG K C (upd H D (.lst l')) a rw := by
  have ne : ∀ {q : Addr} {o : HO}, H q = some o → (∀ l, o ≠ .lst l) → L2.upd H D (.lst l') q = some o := fun {q o} e d => by
    rw [upd_ne (fun x => by rw [x, hD] at e; exact d _ (Option.some.inj e).symm)]
    exact e
  obtain ⟨items, h1, h2, h3⟩ := h
  refine ⟨items, ne h1 (fun _ e => nomatch e), h2.imp fun v p pv => ?_, h3⟩
  rcases pv with ⟨q, e, dx, pq⟩ | ⟨⟨k1, t, k2, k3⟩, e⟩
  · exact .inl ⟨q, e, dx, ne pq (fun _ e => nomatch e)⟩
  · have fl := ofV_flat e
    exact .inr ⟨⟨k1.at fun a ea => absurd ea (fl a), t, ty_at (fun a ea => absurd ea (fl a)) k2, k3⟩, e⟩
end
theorem Fac.kp {C F b : Addr} {H H' : Hp} {n : Nat} (B : Bx H b n) (k : Kp b H H') {f : Addr} {rws : List Row} (h : Fac F C H f rws) : Fac F C H' f rws := by
  obtain ⟨dx, rl, ul, as, ys, h1, h2, h3, h4, h5⟩ := h
  have nl : ∀ {l : Addr} {xs : List V}, H l = some (.lst xs) → (∀ x y z : Int, xs ≠ [.int x, .int y, .int z]) → l ≠ b := fun e n2 => B.off e (fun x y z e2 => n2 x y z (by injection e2))
  refine ⟨dx, rl, ul, as, ys, k _ _ (B.off h1 (fun _ _ _ x => nomatch x)) h1, k _ _ (nl h2 fun x y z e => ?_) h2, h3.imp fun a rw ⟨qs, e1, e2, e3⟩ => ⟨qs, k _ _ (B.off e1 (fun _ _ _ x => nomatch x)) e1, e2.imp fun q p ⟨dy, e⟩ => ⟨dy, k _ _ (B.off e (fun _ _ _ x => nomatch x)) e⟩, e3⟩, k _ _ (nl h4 fun x y z e => ?_) h4, h5⟩
  · have := congrArg List.head? e
    cases as <;> simp at this
  · have := congrArg List.head? e
    cases ys <;> simp at this
/-- the places of a row are numbers or of these names -/
def InR (roots : List Str) (rw : Row) : Prop := ∀ p ∈ rw.2, p.1 = "" ∨ p.1 ∈ roots
theorem nodup_sub {α : Type} [DecidableEq α] : ∀ (l D : List α), l.Nodup → (∀ x ∈ l, x ∈ D) → l.length ≤ D.length
  | [], _, _, _ => Nat.zero_le _
  | x :: l, D, nd, h => by
    obtain ⟨n1, n2⟩ := List.nodup_cons.mp nd
    have hx := h x (List.mem_cons_self ..)
    have ih := nodup_sub l (D.erase x) n2 fun y hy => (List.mem_erase_of_ne (fun e => n1 (by rw [← e]; exact hy))).mpr (h y (List.mem_cons_of_mem _ hy))
    rw [List.length_erase_of_mem hx] at ih
    have := List.length_pos_of_mem hx
    rw [List.length_cons]
    omega
theorem two_of {roots : List Str} (hl : roots.length ≤ 2) {rws : List Row} (h : ∀ rw ∈ rws, InR roots rw) : Two rws := by
  intro ys hU
  refine Nat.le_trans (nodup_sub ys roots hU.2.1 fun z hz => ?_) hl
  obtain ⟨e, k, hk⟩ := (hU.2.2 z).mp hz
  obtain ⟨rw, hrw, hp⟩ := List.mem_flatMap.mp hk
  exact (h rw hrw _ hp).resolve_left e
theorem Prt.prs {roots : List Str} (hr : ∀ y ∈ roots, Rt y) {z : Str} {k : Int} (h : Prt roots z k) : Prs z k := by
  rcases h with h | ⟨m, h0, h1⟩
  · exact .inl h
  · exact .inr ⟨(hr z m).1, (hr z m).2, h0, h1⟩
theorem Prt.inr {roots : List Str} {z : Str} {k : Int} (h : Prt roots z k) : z = "" ∨ z ∈ roots := by
  rcases h with h | h
  · exact .inl h.1
  · exact .inr h.1
theorem Good.prs {z : Str} {k : Int} (h : Good z k) : Prs z k := by
  obtain ⟨h1, h2, h3, h4, h5⟩ := h
  rcases h3 with rfl | h3
  · exact .inl ⟨rfl, by unfold lowS at h4; rw [if_pos rfl] at h4; exact h4, h5⟩
  · exact .inr ⟨h3, ⟨by have := (name_len h3).2; omega, h2⟩, by rw [low_name h3] at h4; exact h4, h5⟩
/-- a pair at an address -/
def PrD (H : Hp) (q : Addr) (p : Str × Int) : Prop := H q = some (.tup [.str p.1, .int p.2])
/-- a row as data: a word and pairs -/
def RwD (H : Hp) (a : Addr) (rw : Row) : Prop := ∃ qs : List Addr, H a = some (.tup (.str rw.1 :: qs.map V.ref)) ∧ Lk (PrD H) qs rw.2 ∧ RwOk rw
theorem RwD.same {H H' : Hp} (s : Same H H') {a : Addr} {rw : Row} (h : RwD H a rw) : RwD H' a rw := by
  obtain ⟨qs, h1, h2, h3⟩ := h
  exact ⟨qs, s _ _ h1, h2.imp fun _ _ x => s _ _ x, h3⟩
theorem RwD.kp {b : Addr} {H H' : Hp} {n : Nat} (B : Bx H b n) (k : Kp b H H') {a : Addr} {rw : Row} (h : RwD H a rw) : RwD H' a rw := by
  obtain ⟨qs, h1, h2, h3⟩ := h
  exact ⟨qs, k _ _ (B.off h1 (fun _ _ _ x => nomatch x)) h1, h2.imp fun q p e => k _ _ (B.off e (fun _ _ _ x => nomatch x)) e, h3⟩
theorem Kp.free {b q : Addr} {H G : Hp} (kp : Kp b H G) (nq : q ≠ b) (e : G q = none) : H q = none := by
  cases x : H q with
  | none => rfl
  | some o =>
    rw [kp q o nq x] at e
    cases e
theorem Bx.new {G : Hp} {b p : Addr} {m : Nat} (hb : Bx G b m) (hp : G p = none) : p ≠ b := by
  obtain ⟨_, _, _, e, _⟩ := hb
  exact (ne_of_none e hp).symm
def spRow8 (K : PySem.W.Frag) : Sp := fun vs H Q _ => ∃ (b rl : Addr) (n : Nat) (roots : List Str), vs = [.ref b, .ref rl] ∧ Bx H b n ∧ n ≤ 800000 ∧ H rl = some (.lst (roots.map V.str)) ∧ roots.length ≤ 2 ∧ (∀ y ∈ roots, Rt y) ∧ rl ≠ b ∧
  ∀ (a : Addr) (rw : Row) (H' : Hp), RwD H' a rw → InR roots rw → H a = none → a ≠ b → Bx H' b (n + 5) → Kp b H H' → Q (.ref a) H'
def spReal8 (K : PySem.W.Frag) (C : Addr) : Sp := fun vs H Q _ => ∃ (b a : Addr) (n : Nat) (rw : Row), vs = [.ref b, .ref a] ∧ Bx H b n ∧ n ≤ 800000 ∧ RwD H a rw ∧
  ∀ (q : Addr) (H' : Hp), RwG K C H' q rw → H q = none → q ≠ b → Bx H' b (n + 2) → Kp b H H' → Q (.ref q) H'
section
variable {P : Program} {w : World} {K : PySem.W.Frag} {mg : Str → Option Value} {base : Heap}
theorem scRow8 : FnScope ["_law_box_here", "_law_roots_here"] ["_law_box_here", "_law_roots_here"] (defScope sRow) := ⟨rfl, rfl, rfl, by decide +kernel, rfl, by decide +kernel, by decide +kernel⟩
theorem ok_row8 {f f1 fP : Addr} {fd fd1 fdP : FuncData} (F0 : Fun K "_law_row" "_law_row" sRow f fd) (T : Tk P w K mg base f1 fd1) (GP : D1 P w K mg base "_law_pair" 2 ["_law_box_here", "_law_roots_here"] (spPair6 K) fP fdP) :
    FnOk P w K mg base CX0 3 f fd ["_law_box_here", "_law_roots_here"] (spRow8 K) := by
  refine F0.ok scRow8 (fun vs H Q E h => ?_) (fun cdv A outer s H vs Q E hr h => ?_)
  · obtain ⟨b, rl, n, roots, rfl, _⟩ := h
    rfl
  · obtain ⟨b, rl, n, roots, rfl, hB, hn, hR, hl, hrt, ne, q⟩ := h
    have nd := scRow8.nd
    have hr1 : Room 1 _ := hr.mono (by decide)
    refine ⟨_, pss_cons (ps_if (pt_cmpR op_eq (pe_call T.ok hr1 (by rfl) T.m T.k T.b .nil pass0 (pa_cons (pv 0) (pa_cons pe_int pa_nil))) pe_int (nomark _)) (pss_one (ps_ret (pe_tup (pa_cons pe_str (pa_cons (pe_call GP.ok hr (by rfl) GP.m GP.k GP.b .nil pass0 (pa_cons (pv 0) (pa_cons (pv 1) pa_nil))) pa_nil))))) pss_nil)
      (pss_one (ps_ret (pe_tup (pa_cons pe_str (pa_cons (pe_call GP.ok hr (by rfl) GP.m GP.k GP.b .nil pass0 (pa_cons (pv 0) (pa_cons (pv 1) pa_nil))) (pa_cons (pe_call GP.ok hr (by rfl) GP.m GP.k GP.b .nil pass0 (pa_cons (pv 0) (pa_cons (pv 1) pa_nil))) pa_nil)))))), ?_⟩
    refine ⟨_, rfl, b, n, 3, rfl, hB, by omega, by decide, by decide, fun r H1 r0 r1 B1 K1 => ⟨rfl, _, rfl, ite2 (fun _ => ?_) (fun _ => ?_)⟩⟩
    · refine ⟨_, rfl, _, rfl, b, rl, n + 1, roots, rfl, B1, by omega, K1 _ _ ne hR, hl, ne, fun p z k H2 pr hp np B2 K2 => ?_⟩
      refine ⟨(by show 2 ≤ sizeLine; decide), fun t nt => ?_⟩
      have s4 : Same H2 (upd H2 t (.tup [.str "page", .ref p])) := same_nw nt
      have kp := K1.trans K2
      refine q t ("page", [(z, k)]) _ ⟨[p], upd_same, Lk.one (s4 _ _ hp), rfl, ?_⟩ ?_ (kp.free (B2.new nt) nt) (B2.new nt) ((B2.same s4).more (by omega)) (kp.trans (Kp.same s4))
      · intro y hy
        rw [List.mem_singleton.mp hy]
        exact (pr.prs hrt).good
      · intro y hy
        rw [List.mem_singleton.mp hy]
        exact pr.inr
    · refine ⟨_, rfl, _, rfl, b, rl, n + 1, roots, rfl, B1, by omega, K1 _ _ ne hR, hl, ne, fun p z k H2 pr hp np B2 K2 => ?_⟩
      refine ⟨_, rfl, _, rfl, b, rl, n + 3, roots, rfl, B2, by omega, K2 _ _ ne (K1 _ _ ne hR), hl, ne, fun p2 z2 k2 H3 pr2 hp2 np2 B3 K3 => ?_⟩
      have pb : p ≠ b := B2.off hp (fun _ _ _ x => nomatch x)
      refine ⟨(by show 3 ≤ sizeLine; decide), fun t nt => ?_⟩
      have s6 : Same H3 (upd H3 t (.tup [.str "at_most", .ref p, .ref p2])) := same_nw nt
      have kp := K1.trans (K2.trans K3)
      refine q t ("at_most", [(z, k), (z2, k2)]) _ ⟨[p, p2], upd_same, .cons (s6 _ _ (K3 _ _ pb hp)) (Lk.one (s6 _ _ hp2)), rfl, ?_⟩ ?_ (kp.free (B3.new nt) nt) (B3.new nt) ((B3.same s6).more (by omega)) (kp.trans (Kp.same s6))
      · intro y hy
        rcases List.mem_cons.mp hy with rfl | hy
        · exact (pr.prs hrt).good
        · rw [List.mem_singleton.mp hy]
          exact (pr2.prs hrt).good
      · intro y hy
        rcases List.mem_cons.mp hy with rfl | hy
        · exact pr.inr
        · rw [List.mem_singleton.mp hy]
          exact pr2.inr
theorem scReal8 : FnScope ["_law_box_here", "_law_row_here"] ["_law_box_here", "_law_row_here"] (defScope sReal) := ⟨rfl, rfl, rfl, by decide +kernel, rfl, by decide +kernel, by decide +kernel⟩
theorem ok_real8 {f fT C : Addr} {fd fdT : FuncData} (F0 : Fun K "_law_real" "_law_real" sReal f fd) (B : Blt mg) (GT : D1 P w K mg base "_law_told" 6 ["_law_box_here", "_law_pair_here"] (spTold6 K C) fT fdT) :
    FnOk P w K mg base CX0 7 f fd ["_law_box_here", "_law_row_here"] (spReal8 K C) := by
  refine F0.ok scReal8 (fun vs H Q E h => ?_) (fun cdv A outer s H vs Q E hr h => ?_)
  · obtain ⟨b, a, n, rw, rfl, _⟩ := h
    rfl
  · obtain ⟨b, a, n, rw, rfl, hB, hn, ⟨qs, ha, hq, hok⟩, q⟩ := h
    have nd := scReal8.nd
    refine ⟨_, pss_cons (ps_if (pt_cmpR op_eq (pe_callB call_len_seq (by rfl) B.len PySem.boot_len (pa_cons (pv 1) pa_nil)) pe_int (nomark _)) (pss_one (ps_ret (pe_tup (pa_cons (pe_ix ix_tup (pv 1) pe_int (fun _ _ => rfl)) (pa_cons (pe_call GT.ok hr (by rfl) GT.m GT.k GT.b .nil pass0 (pa_cons (pv 0) (pa_cons (pe_ix ix_tup (pv 1) pe_int (fun _ _ => rfl)) pa_nil))) pa_nil))))) pss_nil)
      (pss_one (ps_ret (pe_tup (pa_cons (pe_ix ix_tup (pv 1) pe_int (fun _ _ => rfl)) (pa_cons (pe_call GT.ok hr (by rfl) GT.m GT.k GT.b .nil pass0 (pa_cons (pv 0) (pa_cons (pe_ix ix_tup (pv 1) pe_int (fun _ _ => rfl)) pa_nil))) (pa_cons (pe_call GT.ok hr (by rfl) GT.m GT.k GT.b .nil pass0 (pa_cons (pv 0) (pa_cons (pe_ix ix_tup (pv 1) pe_int (fun _ _ => rfl)) pa_nil))) pa_nil)))))), ?_⟩
    have ab : a ≠ b := hB.off ha (fun _ _ _ x => nomatch x)
    refine ⟨_, rfl, a, _, rfl, .inr (SqT.of ha), rfl, _, rfl, ?_⟩
    obtain ⟨wd, prs⟩ := rw
    obtain ⟨hpl, hgd⟩ := id hok
    match qs, prs, hq, ha, hpl, hgd, hok, q with
    | [r], [p], .cons pr .nil, ha, hpl, hgd, hok, q =>
      have i0 : atI [V.str wd, V.ref r] (0 : Int) = some (.str wd) := rfl
      have i1 : atI [V.str wd, V.ref r] (1 : Int) = some (.ref r) := rfl
      refine iteT ⟨_, rfl, a, _, _, _, rfl, rfl, SqT.of ha, i0, _, rfl, _, rfl, a, _, _, _, rfl, rfl, SqT.of ha, i1, ?_⟩
      refine ⟨b, r, n, p.1, p.2, rfl, hB, by omega, pr, (hgd p (by simp)).prs, fun v H1 pv1 vn B1 K1 => ?_⟩
      refine ⟨(by show 2 ≤ sizeLine; decide), fun t nt => ?_⟩
      have s4 : Same H1 (upd H1 t (.tup [.str wd, v])) := same_nw nt
      exact q t _ ⟨[v], upd_same, Lk.one (pv1.same s4), hok⟩ (K1.free (B1.new nt) nt) (B1.new nt) ((B1.same s4).more (by omega)) (K1.trans (Kp.same s4))
    | [r, r2], [p, p2], .cons pr (.cons pr2 .nil), ha, hpl, hgd, hok, q =>
      have i0 : atI [V.str wd, V.ref r, V.ref r2] (0 : Int) = some (.str wd) := rfl
      have i1 : atI [V.str wd, V.ref r, V.ref r2] (1 : Int) = some (.ref r) := rfl
      have i2 : atI [V.str wd, V.ref r, V.ref r2] (2 : Int) = some (.ref r2) := rfl
      refine iteF ⟨_, rfl, a, _, _, _, rfl, rfl, SqT.of ha, i0, _, rfl, _, rfl, a, _, _, _, rfl, rfl, SqT.of ha, i1, ?_⟩
      refine ⟨b, r, n, p.1, p.2, rfl, hB, by omega, pr, (hgd p (by simp)).prs, fun v H1 pv1 vn B1 K1 => ?_⟩
      have a1 := K1 _ _ ab ha
      have pr21 := K1 _ _ (hB.off pr2 (fun _ _ _ x => nomatch x)) pr2
      refine ⟨_, rfl, _, rfl, a, _, _, _, rfl, rfl, SqT.of a1, i2, ?_⟩
      refine ⟨b, r2, n + 1, p2.1, p2.2, rfl, B1, by omega, pr21, (hgd p2 (by simp)).prs, fun v2 H2 pv2 vn2 B2 K2 => ?_⟩
      refine ⟨(by show 3 ≤ sizeLine; decide), fun t nt => ?_⟩
      have s4 : Same H2 (upd H2 t (.tup [.str wd, v, v2])) := same_nw nt
      have kp := K1.trans K2
      exact q t _ ⟨[v, v2], upd_same, .cons ((pv1.kp B1 K2).same s4) (Lk.one (pv2.same s4)), hok⟩ (kp.free (B2.new nt) nt) (B2.new nt) ((B2.same s4).more (by omega)) (kp.trans (Kp.same s4))
    | [], [], _, _, hpl, _, _, _ =>
      have h0 : (1 : Int) ≤ 0 := (plS_le hpl).1
      omega
    | _ :: _ :: _ :: _, _ :: _ :: _ :: _, _, _, hpl, _, _, _ =>
      have := (plS_le hpl).2
      simp only [List.length_cons] at this
      omega
    | [_], _ :: _ :: _, .cons _ h, _, _, _, _, _ => nomatch h
    | [_, _], [_], .cons _ h, _, _, _, _, _ => nomatch h
    | [_, _], _ :: _ :: _ :: _, .cons _ (.cons _ h), _, _, _, _, _ => nomatch h
    | _ :: _ :: _ :: _, [_, _], .cons _ (.cons _ h), _, _, _, _, _ => nomatch h
    | _ :: _ :: _ :: _, [_], .cons _ h, _, _, _, _, _ => nomatch h
end
end Mz
set_option Elab.async false
set_option linter.all false
set_option maxRecDepth 100000
set_option maxHeartbeats 4000000
namespace Mz
open PySem PySem.Spec PyProof.Rows L2
def spMade (K : PySem.W.Frag) (C F : Addr) (m : Nat) : Sp := fun vs H Q _ => ∃ (b l : Addr) (n : Nat) (as : List Addr) (rws : List Row) (roots : List Str), vs = [.ref b, .ref l] ∧ Bx H b n ∧ n + 20 * m ≤ 700000 ∧ H l = some (.lst (as.map V.ref)) ∧ l ≠ b ∧ Lk (RwD H) as rws ∧ rws.length ≤ m ∧ roots.length ≤ 2 ∧ (∀ rw ∈ rws, InR roots rw) ∧
  ∀ f H', Kp b H H' → Bx H' b (n + 20 + 20 * m) → H f = none → f ≠ b → Fac F C H' f rws → Q (.ref f) H'
section
variable {P : Program} {w : World} {K : PySem.W.Frag} {mg : Str → Option Value} {base : Heap}
theorem scMade : FnScope ["_law_box_here", "_law_rows", "_law_real_here", "_law_row_here"] ["_law_box_here", "_law_rows"] (defScope sMade) := ⟨rfl, rfl, rfl, by decide +kernel, rfl, by decide +kernel, by decide +kernel⟩
theorem ok_made {f f1 fR fI fA C F cR cF : Addr} {fd fd1 fdR fdA : FuncData} {kk m : Nat} {spR : Sp} (F0 : Fun K "_law_made" "_law_made" sMade f fd) (B : Blt mg) (Tk_ : Tk P w K mg base f1 fd1) (GR : D1 P w K mg base "_law_real" 7 ["_law_box_here", "_law_row_here"] (spReal8 K C) fR fdR)
    (T : Fcl K mg F) (YF : Pty K F) (MF : Mk K F fI) (GI : FnR P w K mg base (L2.CX P w) 8 fI (spMakeF K C F cR cF)) (GA : FnOk P w K mg base (L2.CX P w) 10 fA fdA ["self", "other"] (spAnd K F C cF)) (bA : Binds K fdA ["self", "other"] []) (TA : Lty K F .BitAnd fA)
    (GM : FnOk P w K mg base CX0 kk f fd ["_law_box_here", "_law_rows"] spR) (mM : mg "_law_made" = some (.ref f)) (kM : PySem.W.keepIn K (.ref f) = true) (bM : Binds K fd ["_law_box_here", "_law_rows"] []) (hk : 10 ≤ kk) (hm : m ≤ 5) (hR : 4 < m → ∀ vs H Q E, spMade K C F 1 vs H Q E → spR vs H Q E) :
    FnOk P w K mg base CX0 (kk + 1) f fd ["_law_box_here", "_law_rows"] (spMade K C F m) := by
  refine F0.ok scMade (fun vs H Q E h => ?_) (fun cdv A outer s H vs Q E hr h => ?_)
  · obtain ⟨b, l, n, as, rws, roots, rfl, _⟩ := h
    rfl
  · obtain ⟨b, l, n, as, rws, roots, rfl, hB, hn, hL, lb, hR0, hlen, hl, hin, q⟩ := h
    have nd := scMade.nd
    have hr1 : Room 1 _ := hr.mono (by omega)
    have hr7 : Room 7 _ := hr.mono (by omega)
    have hr9 : Room 9 _ := hr.mono (by omega)
    have hr10 : Room 10 _ := hr.mono (by omega)
    refine ⟨_, (pss_cons (ps_setLc (i := 2) (own := [("_law_row_here", 3)]) (g := gName 3) (tt := tYes) rfl nd rfl rfl (sw_true rfl rfl rfl (by decide +kernel)) (pi_list (pv 1)) (blkOk_by (N := ["_law_box_here", "_law_rows", "_law_real_here", "_law_row_here"]) (sc := defScope sMade) (by decide +kernel)) (fun _ _ _ _ _ => (pg_name (i := 3) nd rfl (Or.inl rfl))) (fun _ _ _ _ _ => pts_nil) (fun _ _ _ _ _ => (pe_call GR.ok hr7 (by rfl) GR.m GR.k GR.b .nil pass0 (pa_cons (pv 0) (pa_cons (pv 3) pa_nil)))))
      (pss_cons (ps_if (pt_cmpR op_eq (pe_callB call_len_seq (by rfl) B.len PySem.boot_len (pa_cons (pv 2) pa_nil)) pe_int (nomark _)) (pss_one (ps_ret (pe_makeR0 (E := E0) MF GI hr9 (by rfl) T.mgF pass_all))) pss_nil)
      (pss_cons (ps_if (pt_cmpR op_eq (pe_callB call_len_seq (by rfl) B.len PySem.boot_len (pa_cons (pv 2) pa_nil)) pe_int (nomark _)) (pss_one (ps_ret (StX.pe_makeR (E := E0) MF GI hr9 (by rfl) T.mgF pass_all (pa_cons (pe_ix ix_list (pv 2) pe_int (fun _ _ => rfl)) pa_nil)))) pss_nil)
      (pss_cons (ps_if (pt_cmpR op_eq (pe_callB call_len_seq (by rfl) B.len PySem.boot_len (pa_cons (pv 2) pa_nil)) pe_int (nomark _)) (pss_one (ps_ret (StX.pe_makeR (E := E0) MF GI hr9 (by rfl) T.mgF pass_all (pa_cons (pe_ix ix_list (pv 2) pe_int (fun _ _ => rfl)) (pa_cons (pe_ix ix_list (pv 2) pe_int (fun _ _ => rfl)) pa_nil))))) pss_nil)
      (pss_cons (ps_if (pt_cmpR op_eq (pe_callB call_len_seq (by rfl) B.len PySem.boot_len (pa_cons (pv 2) pa_nil)) pe_int (nomark _)) (pss_one (ps_ret (StX.pe_makeR (E := E0) MF GI hr9 (by rfl) T.mgF pass_all (pa_cons (pe_ix ix_list (pv 2) pe_int (fun _ _ => rfl)) (pa_cons (pe_ix ix_list (pv 2) pe_int (fun _ _ => rfl)) (pa_cons (pe_ix ix_list (pv 2) pe_int (fun _ _ => rfl)) pa_nil)))))) pss_nil)
      (pss_cons (ps_if (pt_cmpR op_eq (pe_callB call_len_seq (by rfl) B.len PySem.boot_len (pa_cons (pv 2) pa_nil)) pe_int (nomark _)) (pss_one (ps_ret (StX.pe_makeR (E := E0) MF GI hr9 (by rfl) T.mgF pass_all (pa_cons (pe_ix ix_list (pv 2) pe_int (fun _ _ => rfl)) (pa_cons (pe_ix ix_list (pv 2) pe_int (fun _ _ => rfl)) (pa_cons (pe_ix ix_list (pv 2) pe_int (fun _ _ => rfl)) (pa_cons (pe_ix ix_list (pv 2) pe_int (fun _ _ => rfl)) pa_nil))))))) pss_nil)
      (pss_cons (ps_if (pt_cmpR op_eq (pe_call Tk_.ok hr1 (by rfl) Tk_.m Tk_.k Tk_.b .nil pass0 (pa_cons (pv 0) (pa_cons pe_int pa_nil))) pe_int (nomark _)) (pss_one (ps_ret (StX.pe_makeR (E := E0) MF GI hr9 (by rfl) T.mgF pass_all (pa_cons (pe_ix ix_list (pv 2) pe_int (fun _ _ => rfl)) (pa_cons (pe_ix ix_list (pv 2) pe_int (fun _ _ => rfl)) (pa_cons (pe_ix ix_list (pv 2) pe_int (fun _ _ => rfl)) (pa_cons (pe_ix ix_list (pv 2) pe_int (fun _ _ => rfl)) (pa_cons (pe_ix ix_list (pv 2) pe_int (fun _ _ => rfl)) pa_nil)))))))) pss_nil)
      (pss_one (ps_ret (pe_leftS (E := fun _ => E0) GA hr10 bA TA (fun σ => pass_no) (pe_leftS (E := fun _ => E0) GA hr10 bA TA (fun σ => pass_no) (StX.pe_makeR (E := E0) MF GI hr9 (by rfl) T.mgF pass_all (pa_cons (pe_ix ix_list (pv 2) pe_int (fun _ _ => rfl)) (pa_cons (pe_ix ix_list (pv 2) pe_int (fun _ _ => rfl)) (pa_cons (pe_ix ix_list (pv 2) pe_int (fun _ _ => rfl)) pa_nil)))) (StX.pe_makeR (E := E0) MF GI hr9 (by rfl) T.mgF pass_all (pa_cons (pe_ix ix_list (pv 2) pe_int (fun _ _ => rfl)) pa_nil))) (pe_call GM hr (by rfl) mM kM bM .nil pass0 (pa_cons (pv 0) (pa_cons (pe_slice sl_list (pv 1) (po_some pe_int) po_none) pa_nil))))))))))))), ?_⟩
    have l0 := hR0.length
    have sb : 1000 ≤ sizeLine := by decide
    refine ⟨_, rfl, l, rfl, ⟨_, SqL.of hL⟩, fun D nD => ?_⟩
    have Db : D ≠ b := hB.new nD
    have lD : l ≠ D := ne_of_none hL nD
    refine lc_it (walk_list (xs := as.map V.ref)) (fun i H' => Bx H' b (n + 2 * i) ∧ Kp b H H' ∧ ∃ bs : List Addr, H' D = some (.lst (bs.map V.ref)) ∧ Lk (RwG K C H') bs (rws.take i))
      ⟨hB.upd nD, Kp.fresh nD, [], upd_same, by rw [List.take_zero]; exact .nil⟩ (fun i H' _ h => SqL.of (h.2.1 _ _ lb hL)) ?_ ?_
    · rintro i x H1 H2 hi ⟨B2, K2, bs, hD, hB2⟩ ⟨rfl, hx⟩
      rw [List.getElem?_map] at hx
      obtain ⟨a, ha, rfl⟩ := Option.map_eq_some_iff.mp hx
      obtain ⟨rw, hrw, r⟩ := hR0.get ha
      rw [List.length_map] at hi
      have lB := hB2.length
      rw [List.length_take] at lB
      refine ⟨rfl, yesT ?_⟩
      refine ⟨_, rfl, _, rfl, b, a, n + 2 * i, rw, rfl, B2, by omega, r.kp hB K2, fun q3 H3 g3 n3 b3 B3 K3 => ?_⟩
      have hD3 := K3 _ _ Db hD
      have kp : ∀ {b2 : Addr} {rw : Row} {l2 : List V}, RwG K C H3 b2 rw → RwG K C (upd H3 D (.lst l2)) b2 rw := fun {b2 rw l2} g => g.upd hD3
      refine ⟨_, hD3, ?_, ?_, ?_, bs ++ [q3], by rw [upd_same, List.map_append]; rfl, ?_⟩
      · rw [List.length_map]
        omega
      · obtain ⟨w1, w2, w3, e, h⟩ := B3.more (show n + 2 * i + 2 ≤ n + 2 * (i + 1) by omega)
        exact ⟨w1, w2, w3, by rw [upd_ne Db.symm]; exact e, h⟩
      · intro p o np e
        rw [upd_ne (fun z => by rw [z, nD] at e; cases e)]
        exact K3 p o np (K2 p o np e)
      · rw [List.take_succ, hrw]
        exact (hB2.imp fun _ _ x => kp (x.kp B2 K3)).append (Lk.one (kp g3))
    · rintro H1 ⟨B1, K1, bs, hD, hB1⟩
      rw [List.length_map, List.take_of_length_le (by omega)] at hB1
      rw [List.length_map] at B1
      have B1' := B1.more (show n + 2 * as.length ≤ n + 10 by omega)
      clear B1
      have two := two_of hl hin
      -- the end of each way
      have fin : ∀ f H', Same H1 H' → H1 f = none → Fac F C H' f rws → Q (.ref f) H' := fun f H' s nf hf => q f H' (K1.trans (Kp.same s)) ((B1'.same s).more (by omega)) (K1.free (B1'.new nf) nf) (B1'.new nf) hf
      match bs, rws, hB1, hD, hlen, hin, two, fin, q with
      | [], [], .nil, hD, hlen, hin, two, fin, q =>
        refine ⟨_, rfl, D, _, rfl, .inl (SqL.of hD), rfl, _, rfl, iteT ?_⟩
        exact mk_factsA (as := []) (rws := []) .nil (by show 0 ≤ 20; decide) two fin
      | [a0], [r0], .cons g0 .nil, hD, hlen, hin, two, fin, q =>
        have i0 : atI [V.ref a0] (0 : Int) = some (.ref a0) := rfl
        refine ⟨_, rfl, D, _, rfl, .inl (SqL.of hD), rfl, _, rfl, iteF ?_⟩
        refine ⟨_, rfl, D, _, rfl, .inl (SqL.of hD), rfl, _, rfl, iteT ?_⟩
        refine ⟨_, rfl, D, _, _, _, rfl, rfl, SqL.of hD, i0, ?_⟩
        exact mk_factsA (as := [a0]) (rws := [r0]) (.cons g0 .nil) (by show 1 ≤ 20; decide) two fin
      | [a0, a1], [r0, r1], .cons g0 (.cons g1 .nil), hD, hlen, hin, two, fin, q =>
        have i0 : atI [V.ref a0, V.ref a1] (0 : Int) = some (.ref a0) := rfl
        have i1 : atI [V.ref a0, V.ref a1] (1 : Int) = some (.ref a1) := rfl
        refine ⟨_, rfl, D, _, rfl, .inl (SqL.of hD), rfl, _, rfl, iteF ?_⟩
        refine ⟨_, rfl, D, _, rfl, .inl (SqL.of hD), rfl, _, rfl, iteF ?_⟩
        refine ⟨_, rfl, D, _, rfl, .inl (SqL.of hD), rfl, _, rfl, iteT ?_⟩
        refine ⟨_, rfl, D, _, _, _, rfl, rfl, SqL.of hD, i0, _, rfl, D, _, _, _, rfl, rfl, SqL.of hD, i1, ?_⟩
        exact mk_factsA (as := [a0, a1]) (rws := [r0, r1]) (.cons g0 (.cons g1 .nil)) (by show 2 ≤ 20; decide) two fin
      | [a0, a1, a2], [r0, r1, r2], .cons g0 (.cons g1 (.cons g2 .nil)), hD, hlen, hin, two, fin, q =>
        have i0 : atI [V.ref a0, V.ref a1, V.ref a2] (0 : Int) = some (.ref a0) := rfl
        have i1 : atI [V.ref a0, V.ref a1, V.ref a2] (1 : Int) = some (.ref a1) := rfl
        have i2 : atI [V.ref a0, V.ref a1, V.ref a2] (2 : Int) = some (.ref a2) := rfl
        refine ⟨_, rfl, D, _, rfl, .inl (SqL.of hD), rfl, _, rfl, iteF ?_⟩
        refine ⟨_, rfl, D, _, rfl, .inl (SqL.of hD), rfl, _, rfl, iteF ?_⟩
        refine ⟨_, rfl, D, _, rfl, .inl (SqL.of hD), rfl, _, rfl, iteF ?_⟩
        refine ⟨_, rfl, D, _, rfl, .inl (SqL.of hD), rfl, _, rfl, iteT ?_⟩
        refine ⟨_, rfl, D, _, _, _, rfl, rfl, SqL.of hD, i0, _, rfl, D, _, _, _, rfl, rfl, SqL.of hD, i1, _, rfl, D, _, _, _, rfl, rfl, SqL.of hD, i2, ?_⟩
        exact mk_factsA (as := [a0, a1, a2]) (rws := [r0, r1, r2]) (.cons g0 (.cons g1 (.cons g2 .nil))) (by show 3 ≤ 20; decide) two fin
      | [a0, a1, a2, a3], [r0, r1, r2, r3], .cons g0 (.cons g1 (.cons g2 (.cons g3 .nil))), hD, hlen, hin, two, fin, q =>
        have i0 : atI [V.ref a0, V.ref a1, V.ref a2, V.ref a3] (0 : Int) = some (.ref a0) := rfl
        have i1 : atI [V.ref a0, V.ref a1, V.ref a2, V.ref a3] (1 : Int) = some (.ref a1) := rfl
        have i2 : atI [V.ref a0, V.ref a1, V.ref a2, V.ref a3] (2 : Int) = some (.ref a2) := rfl
        have i3 : atI [V.ref a0, V.ref a1, V.ref a2, V.ref a3] (3 : Int) = some (.ref a3) := rfl
        refine ⟨_, rfl, D, _, rfl, .inl (SqL.of hD), rfl, _, rfl, iteF ?_⟩
        refine ⟨_, rfl, D, _, rfl, .inl (SqL.of hD), rfl, _, rfl, iteF ?_⟩
        refine ⟨_, rfl, D, _, rfl, .inl (SqL.of hD), rfl, _, rfl, iteF ?_⟩
        refine ⟨_, rfl, D, _, rfl, .inl (SqL.of hD), rfl, _, rfl, iteF ?_⟩
        refine ⟨_, rfl, D, _, rfl, .inl (SqL.of hD), rfl, _, rfl, iteT ?_⟩
        refine ⟨_, rfl, D, _, _, _, rfl, rfl, SqL.of hD, i0, _, rfl, D, _, _, _, rfl, rfl, SqL.of hD, i1, _, rfl, D, _, _, _, rfl, rfl, SqL.of hD, i2, _, rfl, D, _, _, _, rfl, rfl, SqL.of hD, i3, ?_⟩
        exact mk_factsA (as := [a0, a1, a2, a3]) (rws := [r0, r1, r2, r3]) (.cons g0 (.cons g1 (.cons g2 (.cons g3 .nil)))) (by show 4 ≤ 20; decide) two fin
      | [a0, a1, a2, a3, a4], [r0, r1, r2, r3, r4], .cons g0 (.cons g1 (.cons g2 (.cons g3 (.cons g4 .nil)))), hD, hlen, hin, two, fin, q =>
        have i0 : atI [V.ref a0, V.ref a1, V.ref a2, V.ref a3, V.ref a4] (0 : Int) = some (.ref a0) := rfl
        have i1 : atI [V.ref a0, V.ref a1, V.ref a2, V.ref a3, V.ref a4] (1 : Int) = some (.ref a1) := rfl
        have i2 : atI [V.ref a0, V.ref a1, V.ref a2, V.ref a3, V.ref a4] (2 : Int) = some (.ref a2) := rfl
        have i3 : atI [V.ref a0, V.ref a1, V.ref a2, V.ref a3, V.ref a4] (3 : Int) = some (.ref a3) := rfl
        have i4 : atI [V.ref a0, V.ref a1, V.ref a2, V.ref a3, V.ref a4] (4 : Int) = some (.ref a4) := rfl
        refine ⟨_, rfl, D, _, rfl, .inl (SqL.of hD), rfl, _, rfl, iteF ?_⟩
        refine ⟨_, rfl, D, _, rfl, .inl (SqL.of hD), rfl, _, rfl, iteF ?_⟩
        refine ⟨_, rfl, D, _, rfl, .inl (SqL.of hD), rfl, _, rfl, iteF ?_⟩
        refine ⟨_, rfl, D, _, rfl, .inl (SqL.of hD), rfl, _, rfl, iteF ?_⟩
        refine ⟨_, rfl, D, _, rfl, .inl (SqL.of hD), rfl, _, rfl, iteF ?_⟩
        have hm4 : 4 < m := by
          have : 5 ≤ m := hlen
          omega
        refine ⟨_, rfl, b, n + 10, 2, rfl, B1', by omega, by decide, by decide, fun r H2 _ _ B2 K2 => ⟨rfl, _, rfl, ite2 (fun _ => ?_) (fun _ => ?_)⟩⟩
        · have hD2 := K2 _ _ Db hD
          refine ⟨_, rfl, D, _, _, _, rfl, rfl, SqL.of hD2, i0, _, rfl, D, _, _, _, rfl, rfl, SqL.of hD2, i1, _, rfl, D, _, _, _, rfl, rfl, SqL.of hD2, i2, _, rfl, D, _, _, _, rfl, rfl, SqL.of hD2, i3, _, rfl, D, _, _, _, rfl, rfl, SqL.of hD2, i4, ?_⟩
          exact mk_factsA (as := [a0, a1, a2, a3, a4]) (rws := [r0, r1, r2, r3, r4]) (Lk.imp (.cons g0 (.cons g1 (.cons g2 (.cons g3 (.cons g4 .nil))))) fun _ _ x => x.kp B1' K2) (by show 5 ≤ 20; decide) two fun f H3 s3 n3 h3 => q f H3 (K1.trans (K2.trans (Kp.same s3))) ((B2.same s3).more (by omega)) (K1.free (B1'.new (K2.free (B2.new n3) n3)) (K2.free (B2.new n3) n3)) (B2.new n3) h3
        · have hD2 := K2 _ _ Db hD
          have g2 := Lk.imp (.cons g0 (.cons g1 (.cons g2 (.cons g3 (.cons g4 .nil))))) fun _ _ x => RwG.kp B1' K2 x
          have in3 : ∀ rw ∈ [r0, r1, r2], InR roots rw := fun rw h => hin rw (by simp only [List.mem_cons, List.not_mem_nil, or_false] at h ⊢; rcases h with h | h | h <;> simp [h])
          have in1 : ∀ rw ∈ [r3], InR roots rw := fun rw h => hin rw (by simp only [List.mem_cons, List.not_mem_nil, or_false] at h ⊢; simp [h])
          have in4 : ∀ rw ∈ [r4], InR roots rw := fun rw h => hin rw (by simp only [List.mem_cons, List.not_mem_nil, or_false] at h ⊢; simp [h])
          have in34 : ∀ rw ∈ [r0, r1, r2] ++ [r3], InR roots rw := fun rw h => (List.mem_append.mp h).elim (in3 rw) (in1 rw)
          refine ⟨_, rfl, D, _, _, _, rfl, rfl, SqL.of hD2, i0, _, rfl, D, _, _, _, rfl, rfl, SqL.of hD2, i1, _, rfl, D, _, _, _, rfl, rfl, SqL.of hD2, i2, ?_⟩
          refine mk_factsA (as := [a0, a1, a2]) (rws := [r0, r1, r2]) (g2.take 3) (by show 3 ≤ 20; decide) (two_of hl in3) fun f3 H3 s3 n3 h3 => ?_
          refine ⟨_, rfl, D, _, _, _, rfl, rfl, SqL.of (s3 _ _ hD2), i3, ?_⟩
          refine mk_factsA (as := [a3]) (rws := [r3]) (((g2.drop 3).take 1).imp fun _ _ x => x.same s3) (by show 1 ≤ 20; decide) (two_of hl in1) fun f4 H4 s4 n4 h4 => ?_
          have h34 := h3.same s4
          obtain ⟨dx3, _, _, _, _, e3, _⟩ := id h34
          obtain ⟨dx4, _, _, _, _, e4, _⟩ := id h4
          refine ⟨f3, dx3, _, rfl, e3, .inr (.base (.ins e4 YF.cl YF.ha YF.hn YF.htk YF.hm)), f3, .ref f4, [r0, r1, r2], rfl, h34, .inl ⟨f4, [r3], rfl, h4, (by show 4 ≤ 20; decide), .inl ⟨two_of hl in34, fun f5 H5 s5 n5 h5 => ?_⟩⟩⟩
          have s25 := s3.trans (s4.trans s5)
          have B5 := B2.same s25
          have K15 := K2.trans (Kp.same s25)
          have hL5 : H5 l = some (.lst (as.map V.ref)) := K15 _ _ lb (K1 _ _ lb hL)
          have hl5 : as.length = 5 := l0
          have s4' : HT.sIx 5 0 (some (4 : Int)) = 4 := by
            unfold HT.sIx
            simp
          have ecut : cutV (as.map V.ref) (some (4 : Int)) none = (as.drop 4).map V.ref := by
            unfold cutV
            rw [List.length_map, hl5, s4']
            show ((as.map V.ref).drop 4).take (5 - 4) = _
            rw [← List.map_drop, List.take_of_length_le (by rw [List.length_map, List.length_drop, hl5]; decide)]
          refine ⟨_, rfl, _, rfl, _, rfl, l, _, rfl, SqL.of hL5, fun p6 n6 => ?_⟩
          rw [ecut]
          have s6 : Same H5 (upd H5 p6 (.lst ((as.drop 4).map V.ref))) := same_nw n6
          have t6 : upd H5 p6 (.lst ((as.drop 4).map V.ref)) p6 = some (.lst ((as.drop 4).map V.ref)) := upd_same
          generalize upd H5 p6 (.lst ((as.drop 4).map V.ref)) = H6 at s6 t6
          have K06 : Kp b H H6 := K1.trans (K15.trans (Kp.same s6))
          have lk6 : Lk (RwD H6) (as.drop 4) [r4] := (hR0.drop 4).imp fun _ _ x => RwD.kp hB K06 x
          refine hR hm4 _ _ _ _ ⟨b, p6, n + 11, as.drop 4, [r4], roots, rfl, B5.same s6, by omega, t6, B5.new n6, lk6, (by show 1 ≤ 1; decide), hl, in4, fun f7 H7 K7 B7 n7 b7 h7 => ?_⟩
          have h57 := (h5.same s6).kp (B5.same s6) K7
          obtain ⟨dx5, _, _, _, _, e5, _⟩ := id h57
          obtain ⟨dx7, _, _, _, _, e7, _⟩ := id h7
          refine ⟨f5, dx5, _, rfl, e5, .inr (.base (.ins e7 YF.cl YF.ha YF.hn YF.htk YF.hm)), f5, .ref f7, [r0, r1, r2] ++ [r3], rfl, h57, .inl ⟨f7, [r4], rfl, h7, (by show 5 ≤ 20; decide), .inl ⟨two, fun f8 H8 s8 n8 h8 => ?_⟩⟩⟩
          have K68 := K7.trans (Kp.same s8)
          have b8 := B7.new n8
          exact q f8 H8 (K06.trans K68) ((B7.same s8).more (by omega)) (K06.free b8 (K7.free b8 n8)) b8 h8
      | _ :: _ :: _ :: _ :: _ :: _ :: _, _ :: _ :: _ :: _ :: _ :: _ :: _, _, _, hlen, _, _, _, _ =>
        simp only [List.length_cons] at hlen
        omega
end
end Mz
set_option Elab.async false
set_option linter.all false
set_option maxRecDepth 100000
set_option maxHeartbeats 4000000
namespace Mz
open PySem PySem.Spec PyProof.Rows L2
theorem cutV_to (xs : List V) (i : Nat) : cutV xs none (some (i : Int)) = xs.take i := by
  unfold cutV
  rw [HT.sIx_nat, HT.sIx_none, List.drop_zero, Nat.sub_zero, Nat.min_comm]
  rcases Nat.le_total i xs.length with h | h
  · rw [Nat.min_eq_right h]
  · rw [Nat.min_eq_left h, List.take_of_length_le (Nat.le_refl _), List.take_of_length_le h]
theorem cutV_from (xs : List V) (i : Nat) : cutV xs (some (i : Int)) none = xs.drop i := by
  unfold cutV
  rw [HT.sIx_nat, HT.sIx_none]
  rcases Nat.le_total i xs.length with h | h
  · rw [Nat.min_eq_left h, List.take_of_length_le (by rw [List.length_drop]; exact Nat.le_refl _)]
  · rw [Nat.min_eq_right h, Nat.sub_self, List.take_zero, List.drop_of_length_le h]
def spChanged (K : PySem.W.Frag) : Sp := fun vs H Q _ => ∃ (b l rl : Addr) (n : Nat) (as : List Addr) (rws : List Row) (roots : List Str), vs = [.ref b, .ref l, .ref rl] ∧ Bx H b n ∧ n ≤ 700000 ∧ H l = some (.lst (as.map V.ref)) ∧ l ≠ b ∧ Lk (RwD H) as rws ∧ rws.length ≤ 20 ∧ H rl = some (.lst (roots.map V.str)) ∧ roots.length ≤ 2 ∧ (∀ y ∈ roots, Rt y) ∧ rl ≠ b ∧ (∀ rw ∈ rws, InR roots rw) ∧
  ∀ (p : Addr) (as2 : List Addr) (rws2 : List Row) (H' : Hp), H' p = some (.lst (as2.map V.ref)) → Lk (RwD H') as2 rws2 → rws2.length ≤ rws.length + 1 → (∀ rw ∈ rws2, InR roots rw) → H p = none → p ≠ b → Bx H' b (n + 20) → Kp b H H' → Q (.ref p) H'
/-- a row with another pair at a spot -/
theorem row_set {H : Hp} {t : Addr} {wd : Str} {qs : List Addr} {prs : List (Str × Int)} {q : Addr} {z : Str} {k : Int} {j : Nat} (ht : H t = some (.tup (.str wd :: (qs.set j q).map V.ref))) (hq : Lk (PrD H) qs prs) (ok : RwOk (wd, prs)) (hp : PrD H q (z, k)) (g : Good z k) : RwD H t (wd, prs.set j (z, k)) := by
  refine ⟨qs.set j q, ht, ?_, ?_, fun p h => ?_⟩
  · clear ht ok
    induction hq generalizing j with
    | nil => exact .nil
    | cons h t ih =>
      cases j with
      | zero => exact .cons hp t
      | succ j => exact .cons h ih
  · show plS wd = some (((prs.set j (z, k)).length : Nat) : Int)
    rw [List.length_set]
    exact ok.1
  · rcases List.mem_or_eq_of_mem_set h with h | h
    · exact ok.2 p h
    · rw [h]
      exact g
section
variable {P : Program} {w : World} {K : PySem.W.Frag} {mg : Str → Option Value} {base : Heap}
theorem scChanged : FnScope ["_law_box_here", "_law_rows", "_law_roots_here", "_law_way", "_law_at", "_law_row_here", "_law_spot", "_law_pair_here", "_law_moved"] ["_law_box_here", "_law_rows", "_law_roots_here"] (defScope sChanged) := ⟨rfl, rfl, rfl, by decide +kernel, rfl, by decide +kernel, by decide +kernel⟩
theorem ok_changed {f f1 fP fW : Addr} {fd fd1 fdP fdW : FuncData} (F0 : Fun K "_law_changed" "_law_changed" sChanged f fd) (B : Blt mg) (T : Tk P w K mg base f1 fd1) (GP : D1 P w K mg base "_law_pair" 2 ["_law_box_here", "_law_roots_here"] (spPair6 K) fP fdP) (GW : D1 P w K mg base "_law_row" 3 ["_law_box_here", "_law_roots_here"] (spRow8 K) fW fdW) :
    FnOk P w K mg base CX0 4 f fd ["_law_box_here", "_law_rows", "_law_roots_here"] (spChanged K) := by
  refine F0.ok scChanged (fun vs H Q E h => ?_) (fun cdv A outer s H vs Q E hr h => ?_)
  · obtain ⟨b, l, rl, n, as, rws, roots, rfl, _⟩ := h
    rfl
  · obtain ⟨b, l, rl, n, as, rws, roots, rfl, hB, hn, hL, lb, hR, hlen, hRl, hl, hrt, rlb, hin, q⟩ := h
    have nd := scChanged.nd
    have hr1 : Room 1 _ := hr.mono (by decide)
    have hr2 : Room 2 _ := hr.mono (by decide)
    refine ⟨_, (pss_cons (ps_set (i := 3) nd rfl (Or.inl rfl) (pe_call T.ok hr1 (by rfl) T.m T.k T.b .nil pass0 (pa_cons (pv 0) (pa_cons pe_int pa_nil))))
      (pss_cons (ps_if (PW.pt (pw_or (pt_cmpR op_eq (pv 3) pe_int (nomark _)) (pw_or1 (pt_cmpR (op_eqL0 hr.units) (pv 1) (pe_lst pa_nil) (nomark _))))) (pss_one (ps_ret (pe_op op_cat (pv 1) (pe_lst (pa_cons (pe_call GW.ok hr (by rfl) GW.m GW.k GW.b .nil pass0 (pa_cons (pv 0) (pa_cons (pv 2) pa_nil))) pa_nil))))) pss_nil)
      (pss_cons (ps_set (i := 4) nd rfl (Or.inl rfl) (pe_call T.ok hr1 (by rfl) T.m T.k T.b .nil pass0 (pa_cons (pv 0) (pa_cons (pe_callB call_len_seq (by rfl) B.len PySem.boot_len (pa_cons (pv 1) pa_nil)) pa_nil))))
      (pss_cons (ps_if (pt_cmpR op_eq (pv 3) pe_int (nomark _)) (pss_one (ps_ret (pe_op op_cat (pe_slice sl_list (pv 1) po_none (po_some (pv 4))) (pe_slice sl_list (pv 1) (po_some (pe_op op_add (pv 4) pe_int)) po_none)))) pss_nil)
      (pss_cons (ps_set (i := 5) nd rfl (Or.inl rfl) (pe_ix ix_list (pv 1) (pv 4) (fun _ _ => rfl)))
      (pss_cons (ps_set (i := 6) nd rfl (Or.inl rfl) (pe_op op_add pe_int (pe_call T.ok hr1 (by rfl) T.m T.k T.b .nil pass0 (pa_cons (pv 0) (pa_cons (pe_op op_sub (pe_callB call_len_seq (by rfl) B.len PySem.boot_len (pa_cons (pv 5) pa_nil)) pe_int) pa_nil)))))
      (pss_cons (ps_set (i := 7) nd rfl (Or.inl rfl) (pe_ix ix_tup (pv 5) (pv 6) (fun _ _ => rfl)))
      (pss_cons (ps_set (i := 8) nd rfl (Or.inl rfl) (pe_tup (pa_cons (pe_ix ix_tup (pv 7) pe_int (fun _ _ => rfl)) (pa_cons (pe_ifExp (pt_cmpR op_lt (pe_ix ix_tup (pv 7) pe_int (fun _ _ => rfl)) pe_int (nomark _)) (pe_op op_add (pe_ix ix_tup (pv 7) pe_int (fun _ _ => rfl)) pe_int) (pe_op op_sub (pe_ix ix_tup (pv 7) pe_int (fun _ _ => rfl)) pe_int)) pa_nil))))
      (pss_cons (ps_if (pt_cmpR op_eq (pv 3) pe_int (nomark _)) (pss_one (ps_set (i := 8) nd rfl (Or.inl rfl) (pe_call GP.ok hr2 (by rfl) GP.m GP.k GP.b .nil pass0 (pa_cons (pv 0) (pa_cons (pv 2) pa_nil))))) pss_nil)
      (pss_one (ps_ret (pe_op op_cat (pe_op op_cat (pe_slice sl_list (pv 1) po_none (po_some (pv 4))) (pe_lst (pa_cons (pe_op op_catT (pe_op op_catT (pe_slice sl_tup (pv 5) po_none (po_some (pv 6))) (pe_tup (pa_cons (pv 8) pa_nil))) (pe_slice sl_tup (pv 5) (po_some (pe_op op_add (pv 6) pe_int)) po_none)) pa_nil))) (pe_slice sl_list (pv 1) (po_some (pe_op op_add (pv 4) pe_int)) po_none))))))))))))), ?_⟩
    have l0 := hR.length
    have sb : 1000 ≤ sizeLine := by decide
    refine ⟨_, rfl, b, n, 4, rfl, hB, by omega, by decide, by decide, fun way H1 w0 w1 B1 K1 => ?_⟩
    have hL1 := K1 _ _ lb hL
    have hRl1 := K1 _ _ rlb hRl
    have hR1 : Lk (RwD H1) as rws := hR.imp fun _ _ x => x.kp hB K1
    refine ⟨_, rfl, rfl, _, rfl, ite2 (fun _ => iteT ?_) (fun _ => ?_)⟩
    · refine ⟨_, rfl, _, rfl, _, rfl, b, rl, n + 1, roots, rfl, B1, by omega, hRl1, hl, hrt, rlb, fun a rw H4 ra inr na ab B4 K4 => ?_⟩
      refine ⟨(by show 1 ≤ sizeLine; decide), fun p5 n5 => ?_⟩
      have s5 : Same H4 (upd H4 p5 (.lst [.ref a])) := same_nw n5
      have t5 : upd H4 p5 (.lst [.ref a]) p5 = some (.lst [.ref a]) := upd_same
      generalize upd H4 p5 (.lst [.ref a]) = H5 at s5 t5
      have K5 : Kp b H1 H5 := K4.trans (Kp.same s5)
      have B5 := B4.same s5
      refine ⟨l, p5, _, _, rfl, rfl, K5 _ _ lb hL1, t5, ?_, fun p6 n6 => ?_⟩
      · rw [List.length_map]
        show as.length + 1 ≤ sizeLine
        omega
      have s6 := same_nw (o := .lst (as.map V.ref ++ [.ref a])) n6
      have b6 := B5.new n6
      have K06 := K1.trans (K5.trans (Kp.same s6))
      refine q p6 (as ++ [a]) (rws ++ [rw]) _ (by rw [upd_same, List.map_append]; rfl) (((hR1).imp fun _ _ x => (RwD.kp B1 K5 x).same s6).append (Lk.one ((ra.same s5).same s6))) (by rw [List.length_append]; exact Nat.le_refl _) (fun u hu => ?_) ((K1.trans K5).free b6 n6) b6 ((B5.same s6).more (by omega)) K06
      rcases List.mem_append.mp hu with hu | hu
      · exact hin u hu
      · rw [List.mem_singleton.mp hu]
        exact inr
    · refine ⟨_, rfl, (by show 0 ≤ sizeLine; decide), fun p0 n0 => ?_⟩
      have s2 : Same H1 (upd H1 p0 (.lst [])) := same_nw n0
      have t2 : upd H1 p0 (.lst []) p0 = some (.lst []) := upd_same
      generalize upd H1 p0 (.lst []) = H2 at s2 t2
      have K2 : Kp b H H2 := K1.trans (Kp.same s2)
      have B2 := B1.same s2
      have hL2 := s2 _ _ hL1
      have hRl2 := s2 _ _ hRl1
      have hR2 : Lk (RwD H2) as rws := hR1.imp fun _ _ x => x.same s2
      refine ⟨l, p0, _, rfl, rfl, SqL.of hL2, SqL.of t2, _, rfl, ?_⟩
      by_cases e0 : as = []
      · rw [show (as.map V.ref).isEmpty = true by rw [e0]; rfl]
        refine iteT ?_
        clear e0
        refine ⟨_, rfl, _, rfl, _, rfl, b, rl, n + 1, roots, rfl, B2, by omega, hRl2, hl, hrt, rlb, fun a rw H4 ra inr na ab B4 K4 => ?_⟩
        refine ⟨(by show 1 ≤ sizeLine; decide), fun p5 n5 => ?_⟩
        have s5 : Same H4 (upd H4 p5 (.lst [.ref a])) := same_nw n5
        have t5 : upd H4 p5 (.lst [.ref a]) p5 = some (.lst [.ref a]) := upd_same
        generalize upd H4 p5 (.lst [.ref a]) = H5 at s5 t5
        have K5 : Kp b H2 H5 := K4.trans (Kp.same s5)
        have B5 := B4.same s5
        refine ⟨l, p5, _, _, rfl, rfl, K5 _ _ lb hL2, t5, ?_, fun p6 n6 => ?_⟩
        · rw [List.length_map]
          show as.length + 1 ≤ sizeLine
          omega
        have s6 := same_nw (o := .lst (as.map V.ref ++ [.ref a])) n6
        have b6 := B5.new n6
        have K06 := K2.trans (K5.trans (Kp.same s6))
        refine q p6 (as ++ [a]) (rws ++ [rw]) _ (by rw [upd_same, List.map_append]; rfl) (((hR2).imp fun _ _ x => (RwD.kp B2 K5 x).same s6).append (Lk.one ((ra.same s5).same s6))) (by rw [List.length_append]; exact Nat.le_refl _) (fun u hu => ?_) ((K2.trans K5).free b6 n6) b6 ((B5.same s6).more (by omega)) K06
        rcases List.mem_append.mp hu with hu | hu
        · exact hin u hu
        · rw [List.mem_singleton.mp hu]
          exact inr
      · rw [show (as.map V.ref).isEmpty = false by cases as with | nil => exact absurd rfl e0 | cons _ _ => rfl]
        refine iteF ?_
        have l1 : 1 ≤ as.length := by
          cases as with
          | nil => exact absurd rfl e0
          | cons _ _ => rw [List.length_cons]; omega
        refine ⟨_, rfl, _, rfl, l, _, rfl, .inl (SqL.of hL2), b, n + 1, _, rfl, B2, by omega, by rw [List.length_map]; omega, by rw [List.length_map]; omega, fun at_ H3 a0 a1 B3 K3 => ?_⟩
        rw [List.length_map] at a1
        obtain ⟨i, rfl⟩ : ∃ i : Nat, at_ = (i : Int) := ⟨at_.toNat, by omega⟩
        have hi : i < as.length := by omega
        have hL3 := K3 _ _ lb hL2
        have hRl3 := K3 _ _ rlb hRl2
        have hR3 : Lk (RwD H3) as rws := hR2.imp fun _ _ x => x.kp B2 K3
        have K03 := K2.trans K3
        have i1 : ((i : Int) + 1) = ((i + 1 : Nat) : Int) := rfl
        refine ⟨_, rfl, rfl, _, rfl, ite2 (fun _ => ?_) (fun _ => ?_)⟩
        · refine ⟨_, rfl, _, rfl, _, rfl, l, _, rfl, SqL.of hL3, fun p4 n4 => ?_⟩
          rw [cutV_to]
          have s4 : Same H3 (upd H3 p4 (.lst ((as.map V.ref).take i))) := same_nw n4
          have t4 : upd H3 p4 (.lst ((as.map V.ref).take i)) p4 = some (.lst ((as.map V.ref).take i)) := upd_same
          generalize upd H3 p4 (.lst ((as.map V.ref).take i)) = H4 at s4 t4
          refine ⟨_, rfl, _, rfl, _, _, rfl, rfl, _, rfl, l, _, rfl, SqL.of (s4 _ _ hL3), fun p5 n5 => ?_⟩
          rw [i1, cutV_from]
          have s5 : Same H4 (upd H4 p5 (.lst ((as.map V.ref).drop (i + 1)))) := same_nw n5
          have t5 : upd H4 p5 (.lst ((as.map V.ref).drop (i + 1))) p5 = some (.lst ((as.map V.ref).drop (i + 1))) := upd_same
          generalize upd H4 p5 (.lst ((as.map V.ref).drop (i + 1))) = H5 at s5 t5
          refine ⟨p4, p5, _, _, rfl, rfl, s5 _ _ t4, t5, ?_, fun p6 n6 => ?_⟩
          · rw [List.length_take, List.length_drop, List.length_map]
            omega
          have s35 := s4.trans s5
          have s6 := same_nw (o := .lst ((as.map V.ref).take i ++ (as.map V.ref).drop (i + 1))) n6
          have b6 := (B3.same s35).new n6
          have K06 := K03.trans (Kp.same (s35.trans s6))
          refine q p6 (as.take i ++ as.drop (i + 1)) (rws.take i ++ rws.drop (i + 1)) _ (by rw [upd_same, List.map_append, List.map_take, List.map_drop]) (((hR3.take i).append (hR3.drop (i + 1))).imp fun _ _ x => x.same (s35.trans s6)) ?_ (fun u hu => ?_) ((K03.trans (Kp.same s35)).free b6 n6) b6 ((B3.same (s35.trans s6)).more (by omega)) K06
          · rw [List.length_append, List.length_take, List.length_drop]
            omega
          · rcases List.mem_append.mp hu with hu | hu
            · exact hin u (List.mem_of_mem_take hu)
            · exact hin u (List.mem_of_mem_drop hu)
        · have ha := List.getElem?_eq_getElem hi
          generalize as[i] = a at ha
          obtain ⟨rw, hrw, r⟩ := hR3.get ha
          have hrin := hin rw (List.mem_of_getElem? hrw)
          obtain ⟨qs, h1, h2, ok⟩ := id r
          have lq := h2.length
          obtain ⟨wd, prs⟩ := rw
          have lok := Row.le ok
          have h1 : H3 a = some (.tup (.str wd :: qs.map V.ref)) := h1
          have h2 : Lk (PrD H3) qs prs := h2
          have lq : qs.length = prs.length := lq
          have lok : 1 ≤ prs.length ∧ prs.length ≤ 2 := lok
          have ab : a ≠ b := B3.off h1 (fun _ _ _ x => nomatch x)
          have ixa : atI (as.map V.ref) (i : Int) = some (.ref a) := atI_nat (by rw [List.getElem?_map, ha]; rfl)
          refine ⟨_, rfl, _, rfl, l, _, _, _, rfl, rfl, SqL.of hL3, ixa, ?_⟩
          refine ⟨_, rfl, _, rfl, a, _, rfl, .inr (SqT.of h1), _, _, rfl, rfl, b, n + 2, _, rfl, B3, by omega, by rw [List.length_cons, List.length_map]; omega, by rw [List.length_cons, List.length_map]; omega, fun sp H4 p0 p1 B4 K4 => ?_⟩
          rw [List.length_cons, List.length_map] at p1
          obtain ⟨j, rfl⟩ : ∃ j : Nat, sp = (j : Int) := ⟨sp.toNat, by omega⟩
          have hj : j < qs.length := by omega
          have h14 := K4 _ _ ab h1
          have hL4 := K4 _ _ lb hL3
          have hRl4 := K4 _ _ rlb hRl3
          have hR4 : Lk (RwD H4) as rws := hR3.imp fun _ _ x => x.kp B3 K4
          have K04 := K03.trans K4
          have h24 : Lk (PrD H4) qs prs := h2.imp fun q p e => K4 _ _ (B3.off e (fun _ _ _ x => nomatch x)) e
          have hqj := List.getElem?_eq_getElem hj
          generalize qs[j] = r0 at hqj
          obtain ⟨⟨z, k⟩, hp0, hr0⟩ := h24.get hqj
          have gz := ok.2 (z, k) (List.mem_of_getElem? hp0)
          have pz := Good.prs gz
          have inz := hrin (z, k) (List.mem_of_getElem? hp0)
          have j1 : (1 + (j : Int)) = ((j + 1 : Nat) : Int) := by omega
          have j2 : (((j + 1 : Nat) : Int) + 1) = ((j + 2 : Nat) : Int) := rfl
          refine ⟨_, _, rfl, rfl, ?_⟩
          have ixr : atI (V.str wd :: qs.map V.ref) (1 + (j : Int)) = some (.ref r0) := by rw [j1]; exact atI_nat (by rw [List.getElem?_cons_succ, List.getElem?_map, hqj]; rfl)
          refine ⟨_, rfl, _, rfl, a, _, _, _, rfl, rfl, SqT.of h14, ixr, ?_⟩
          have hr0' : H4 r0 = some (.tup [.str z, .int k]) := hr0
          have x0 : atI [V.str z, V.int k] (0 : Int) = some (.str z) := rfl
          have x1 : atI [V.str z, V.int k] (1 : Int) = some (.int k) := rfl
          refine ⟨_, rfl, r0, _, _, _, rfl, rfl, SqT.of hr0', x0, ?_⟩
          refine ⟨_, rfl, r0, _, _, _, rfl, rfl, SqT.of hr0', x1, _, _, rfl, rfl, _, rfl, ite2 (fun e3 => ?_) (fun e3 => ?_)⟩
          · have e3 : k < 3 := of_decide_eq_true e3
            refine ⟨_, rfl, r0, _, _, _, rfl, rfl, SqT.of hr0', x1, _, _, rfl, rfl, (by show 2 ≤ sizeLine; decide), fun t7 n7 => ?_⟩
            have pm : Prs z (k + 1) := by
              rcases pz with ⟨y1, y2, y3⟩ | ⟨y1, y2, y3, y4⟩
              · exact .inl ⟨y1, by omega, by omega⟩
              · exact .inr ⟨y1, y2, by omega, by omega⟩
            have s7 : Same H4 (upd H4 t7 (.tup [.str z, .int (k + 1)])) := same_nw n7
            have t7_ : upd H4 t7 (.tup [.str z, .int (k + 1)]) t7 = some (.tup [.str z, .int (k + 1)]) := upd_same
            generalize upd H4 t7 (.tup [.str z, .int (k + 1)]) = H7 at s7 t7_
            have K7 : Kp b H4 H7 := Kp.same s7
            have B7 := B4.same s7
            refine ⟨_, rfl, rfl, _, rfl, ite2 (fun _ => ?_) (fun _ => ?_)⟩
            · refine ⟨_, rfl, _, rfl, b, rl, n + 3, roots, rfl, B7, by omega, s7 _ _ hRl4, hl, rlb, fun pp z2 k2 H8 pr hp np B8 K8 => ?_⟩
              have K78 := K7.trans K8
              refine ⟨_, rfl, _, rfl, _, rfl, l, _, rfl, SqL.of (K78 _ _ lb hL4), fun pa na => ?_⟩
              rw [cutV_to]
              have sa : Same H8 (upd H8 pa (.lst ((as.map V.ref).take i))) := same_nw na
              have ta : upd H8 pa (.lst ((as.map V.ref).take i)) pa = some (.lst ((as.map V.ref).take i)) := upd_same
              generalize upd H8 pa (.lst ((as.map V.ref).take i)) = Ga at sa ta
              have Kga : Kp b H4 Ga := K78.trans (Kp.same sa)
              have h1a := Kga _ _ ab h14
              refine ⟨_, rfl, _, rfl, _, rfl, a, _, rfl, SqT.of h1a, ?_, fun pb nb => ?_⟩
              · rw [List.length_cons, List.length_map]
                intro e
                have e := e.2
                rw [j1, HT.sIx_nat] at e
                omega
              rw [j1, cutV_to]
              have sb_ : Same Ga (upd Ga pb (.tup ((V.str wd :: qs.map V.ref).take (j + 1)))) := same_nw nb
              have tb : upd Ga pb (.tup ((V.str wd :: qs.map V.ref).take (j + 1))) pb = some (.tup ((V.str wd :: qs.map V.ref).take (j + 1))) := upd_same
              generalize upd Ga pb (.tup ((V.str wd :: qs.map V.ref).take (j + 1))) = Gb at sb_ tb
              refine ⟨_, rfl, (by show 1 ≤ sizeLine; decide), fun pc nc => ?_⟩
              have sc : Same Gb (upd Gb pc (.tup [.ref pp])) := same_nw nc
              have tc : upd Gb pc (.tup [.ref pp]) pc = some (.tup [.ref pp]) := upd_same
              generalize upd Gb pc (.tup [.ref pp]) = Gc at sc tc
              refine ⟨pb, pc, _, _, rfl, rfl, SqT.of (sc _ _ tb), SqT.of tc, (by rw [List.take_succ_cons]; exact fun e => nomatch e), ?_, (fun e => nomatch e), fun _ pd nd_ => ?_⟩
              · rw [List.length_take, List.length_cons, List.length_map]
                show min (j + 1) (qs.length + 1) + 1 ≤ sizeLine
                omega
              have sd : Same Gc (upd Gc pd (.tup ((V.str wd :: qs.map V.ref).take (j + 1) ++ [.ref pp]))) := same_nw nd_
              have td : upd Gc pd (.tup ((V.str wd :: qs.map V.ref).take (j + 1) ++ [.ref pp])) pd = some (.tup ((V.str wd :: qs.map V.ref).take (j + 1) ++ [.ref pp])) := upd_same
              generalize upd Gc pd (.tup ((V.str wd :: qs.map V.ref).take (j + 1) ++ [.ref pp])) = Gd at sd td
              have sad := sb_.trans (sc.trans sd)
              refine ⟨_, rfl, _, rfl, _, _, rfl, rfl, _, rfl, a, _, rfl, SqT.of (sad _ _ h1a), ?_, fun pe ne => ?_⟩
              · rw [List.length_cons, List.length_map]
                intro e
                have e := e.1
                rw [j1, j2, HT.sIx_nat] at e
                omega
              rw [j1, j2, cutV_from]
              have se : Same Gd (upd Gd pe (.tup ((V.str wd :: qs.map V.ref).drop (j + 2)))) := same_nw ne
              have te : upd Gd pe (.tup ((V.str wd :: qs.map V.ref).drop (j + 2))) pe = some (.tup ((V.str wd :: qs.map V.ref).drop (j + 2))) := upd_same
              generalize upd Gd pe (.tup ((V.str wd :: qs.map V.ref).drop (j + 2))) = Ge at se te
              have eset : (V.str wd :: qs.map V.ref).take (j + 1) ++ [.ref pp] ++ (V.str wd :: qs.map V.ref).drop (j + 2) = V.str wd :: (qs.set j pp).map V.ref := by
                rw [List.take_succ_cons, List.drop_succ_cons, List.set_eq_take_append_cons_drop, if_pos hj, List.map_append, List.map_cons, List.map_take, List.map_drop]
                simp
              have whole : ∀ (t : Addr) (Gf : Hp), Same Ge Gf → Gf t = some (.tup (V.str wd :: (qs.set j pp).map V.ref)) → RwD Gf t (wd, prs.set j (z2, k2)) := fun t Gf sf ht => by
                have s4f := sad.trans (se.trans sf)
                have Kf : Kp b H4 Gf := Kga.trans (Kp.same s4f)
                exact row_set ht (h24.imp fun q p e => Kf _ _ (B4.off e (fun _ _ _ x => nomatch x)) e) ok (s4f _ _ (sa _ _ hp)) (pr.prs hrt).good
              have lqs : (qs.set j pp).length = qs.length := List.length_set ..
              have hRk : ∀ (Gz : Hp), Same Ge Gz → Lk (RwD Gz) as rws := fun Gz sz => hR4.imp fun _ _ x => x.kp B4 (Kga.trans (Kp.same (sad.trans (se.trans sz))))
              have inn : InR roots (wd, prs.set j (z2, k2)) := fun p hp => (List.mem_or_eq_of_mem_set hp).elim (fun h => hrin p h) (fun h => by rw [h]; exact pr.inr)
              by_cases em : (V.str wd :: qs.map V.ref).drop (j + 2) = []
              · have hpd : Gd pd = some (.tup (V.str wd :: (qs.set j pp).map V.ref)) := by
                  rw [td, ← eset, em, List.append_nil]
                refine ⟨pd, pe, _, _, rfl, rfl, SqT.of (se _ _ td), SqT.of te, (by rw [List.take_succ_cons]; exact fun e => nomatch e), ?_, (fun _ => ?_), fun x => absurd em x⟩
                · rw [← List.length_append, eset, List.length_cons, List.length_map, lqs]
                  omega
                refine ⟨(by show 1 ≤ sizeLine; decide), fun pf nf => ?_⟩
                have wt := whole pd Ge (Same.refl Ge) (se _ _ hpd)
                have sf : Same Ge (upd Ge pf (.lst [.ref pd])) := same_nw nf
                have tf : upd Ge pf (.lst [.ref pd]) pf = some (.lst [.ref pd]) := upd_same
                generalize upd Ge pf (.lst [.ref pd]) = Gf at sf tf
                have saf := sad.trans (se.trans (Same.trans (Same.refl Ge) sf))
                refine ⟨pa, pf, _, _, rfl, rfl, saf _ _ ta, tf, ?_, fun pg ng => ?_⟩
                · rw [List.length_take, List.length_map]
                  show min i as.length + 1 ≤ sizeLine
                  omega
                have sg : Same Gf (upd Gf pg (.lst ((as.map V.ref).take i ++ [.ref pd]))) := same_nw ng
                have tg : upd Gf pg (.lst ((as.map V.ref).take i ++ [.ref pd])) pg = some (.lst ((as.map V.ref).take i ++ [.ref pd])) := upd_same
                generalize upd Gf pg (.lst ((as.map V.ref).take i ++ [.ref pd])) = Gg at sg tg
                have sag := saf.trans sg
                have hLg := sag _ _ (sa _ _ (K78 _ _ lb hL4))
                refine ⟨_, rfl, _, rfl, _, _, rfl, rfl, _, rfl, l, _, rfl, SqL.of hLg, fun ph nh => ?_⟩
                rw [i1, cutV_from]
                have sh : Same Gg (upd Gg ph (.lst ((as.map V.ref).drop (i + 1)))) := same_nw nh
                have th : upd Gg ph (.lst ((as.map V.ref).drop (i + 1))) ph = some (.lst ((as.map V.ref).drop (i + 1))) := upd_same
                generalize upd Gg ph (.lst ((as.map V.ref).drop (i + 1))) = Gh at sh th
                refine ⟨pg, ph, _, _, rfl, rfl, sh _ _ tg, th, ?_, fun pi_ ni => ?_⟩
                · rw [List.length_append, List.length_take, List.length_drop, List.length_map]
                  show min i as.length + 1 + (as.length - (i + 1)) ≤ sizeLine
                  omega
                have si := same_nw (o := .lst ((as.map V.ref).take i ++ [.ref pd] ++ (as.map V.ref).drop (i + 1))) ni
                have s2h := Same.trans (Same.refl Ge) (sf.trans (sg.trans sh))
                have s2i := s2h.trans si
                have Kgh : Kp b H Gh := K04.trans (Kga.trans (Kp.same (sad.trans (se.trans s2h))))
                have bi := (B8.same (sa.trans (sad.trans (se.trans s2h)))).new ni
                refine q pi_ (as.take i ++ [pd] ++ as.drop (i + 1)) (rws.take i ++ [(wd, prs.set j (z2, k2))] ++ rws.drop (i + 1)) _ (by rw [upd_same, List.map_append, List.map_append, List.map_take, List.map_drop]; rfl) ((((hRk _ s2i).take i).append (Lk.one (wt.same (sf.trans (sg.trans (sh.trans si)))))).append ((hRk _ s2i).drop (i + 1))) ?_ (fun u hu => ?_) (Kgh.free bi ni) bi ((B8.same (sa.trans (sad.trans (se.trans s2i)))).more (by omega)) (Kgh.trans (Kp.same si))
                · rw [List.length_append, List.length_append, List.length_take, List.length_drop]
                  show min i rws.length + 1 + (rws.length - (i + 1)) ≤ rws.length + 1
                  omega
                · rcases List.mem_append.mp hu with hu | hu
                  · rcases List.mem_append.mp hu with hu | hu
                    · exact hin u (List.mem_of_mem_take hu)
                    · rw [List.mem_singleton.mp hu]
                      exact inn
                  · exact hin u (List.mem_of_mem_drop hu)
              · refine ⟨pd, pe, _, _, rfl, rfl, SqT.of (se _ _ td), SqT.of te, (by rw [List.take_succ_cons]; exact fun e => nomatch e), ?_, (fun x => absurd x em), fun _ px nx => ?_⟩
                · rw [← List.length_append, eset, List.length_cons, List.length_map, lqs]
                  omega
                rw [eset]
                have sx : Same Ge (upd Ge px (.tup (V.str wd :: (qs.set j pp).map V.ref))) := same_nw nx
                have tx : upd Ge px (.tup (V.str wd :: (qs.set j pp).map V.ref)) px = some (.tup (V.str wd :: (qs.set j pp).map V.ref)) := upd_same
                generalize upd Ge px (.tup (V.str wd :: (qs.set j pp).map V.ref)) = Gx at sx tx
                refine ⟨(by show 1 ≤ sizeLine; decide), fun pf nf => ?_⟩
                have wt := whole px Gx sx tx
                have sf : Same Gx (upd Gx pf (.lst [.ref px])) := same_nw nf
                have tf : upd Gx pf (.lst [.ref px]) pf = some (.lst [.ref px]) := upd_same
                generalize upd Gx pf (.lst [.ref px]) = Gf at sf tf
                have saf := sad.trans (se.trans (Same.trans sx sf))
                refine ⟨pa, pf, _, _, rfl, rfl, saf _ _ ta, tf, ?_, fun pg ng => ?_⟩
                · rw [List.length_take, List.length_map]
                  show min i as.length + 1 ≤ sizeLine
                  omega
                have sg : Same Gf (upd Gf pg (.lst ((as.map V.ref).take i ++ [.ref px]))) := same_nw ng
                have tg : upd Gf pg (.lst ((as.map V.ref).take i ++ [.ref px])) pg = some (.lst ((as.map V.ref).take i ++ [.ref px])) := upd_same
                generalize upd Gf pg (.lst ((as.map V.ref).take i ++ [.ref px])) = Gg at sg tg
                have sag := saf.trans sg
                have hLg := sag _ _ (sa _ _ (K78 _ _ lb hL4))
                refine ⟨_, rfl, _, rfl, _, _, rfl, rfl, _, rfl, l, _, rfl, SqL.of hLg, fun ph nh => ?_⟩
                rw [i1, cutV_from]
                have sh : Same Gg (upd Gg ph (.lst ((as.map V.ref).drop (i + 1)))) := same_nw nh
                have th : upd Gg ph (.lst ((as.map V.ref).drop (i + 1))) ph = some (.lst ((as.map V.ref).drop (i + 1))) := upd_same
                generalize upd Gg ph (.lst ((as.map V.ref).drop (i + 1))) = Gh at sh th
                refine ⟨pg, ph, _, _, rfl, rfl, sh _ _ tg, th, ?_, fun pi_ ni => ?_⟩
                · rw [List.length_append, List.length_take, List.length_drop, List.length_map]
                  show min i as.length + 1 + (as.length - (i + 1)) ≤ sizeLine
                  omega
                have si := same_nw (o := .lst ((as.map V.ref).take i ++ [.ref px] ++ (as.map V.ref).drop (i + 1))) ni
                have s2h := Same.trans sx (sf.trans (sg.trans sh))
                have s2i := s2h.trans si
                have Kgh : Kp b H Gh := K04.trans (Kga.trans (Kp.same (sad.trans (se.trans s2h))))
                have bi := (B8.same (sa.trans (sad.trans (se.trans s2h)))).new ni
                refine q pi_ (as.take i ++ [px] ++ as.drop (i + 1)) (rws.take i ++ [(wd, prs.set j (z2, k2))] ++ rws.drop (i + 1)) _ (by rw [upd_same, List.map_append, List.map_append, List.map_take, List.map_drop]; rfl) ((((hRk _ s2i).take i).append (Lk.one (wt.same (sf.trans (sg.trans (sh.trans si)))))).append ((hRk _ s2i).drop (i + 1))) ?_ (fun u hu => ?_) (Kgh.free bi ni) bi ((B8.same (sa.trans (sad.trans (se.trans s2i)))).more (by omega)) (Kgh.trans (Kp.same si))
                · rw [List.length_append, List.length_append, List.length_take, List.length_drop]
                  show min i rws.length + 1 + (rws.length - (i + 1)) ≤ rws.length + 1
                  omega
                · rcases List.mem_append.mp hu with hu | hu
                  · rcases List.mem_append.mp hu with hu | hu
                    · exact hin u (List.mem_of_mem_take hu)
                    · rw [List.mem_singleton.mp hu]
                      exact inn
                  · exact hin u (List.mem_of_mem_drop hu)
            · refine ⟨_, rfl, _, rfl, _, rfl, l, _, rfl, SqL.of (K7 _ _ lb hL4), fun pa na => ?_⟩
              rw [cutV_to]
              have sa : Same H7 (upd H7 pa (.lst ((as.map V.ref).take i))) := same_nw na
              have ta : upd H7 pa (.lst ((as.map V.ref).take i)) pa = some (.lst ((as.map V.ref).take i)) := upd_same
              generalize upd H7 pa (.lst ((as.map V.ref).take i)) = Ga at sa ta
              have Kga : Kp b H4 Ga := K7.trans (Kp.same sa)
              have h1a := Kga _ _ ab h14
              refine ⟨_, rfl, _, rfl, _, rfl, a, _, rfl, SqT.of h1a, ?_, fun pb nb => ?_⟩
              · rw [List.length_cons, List.length_map]
                intro e
                have e := e.2
                rw [j1, HT.sIx_nat] at e
                omega
              rw [j1, cutV_to]
              have sb_ : Same Ga (upd Ga pb (.tup ((V.str wd :: qs.map V.ref).take (j + 1)))) := same_nw nb
              have tb : upd Ga pb (.tup ((V.str wd :: qs.map V.ref).take (j + 1))) pb = some (.tup ((V.str wd :: qs.map V.ref).take (j + 1))) := upd_same
              generalize upd Ga pb (.tup ((V.str wd :: qs.map V.ref).take (j + 1))) = Gb at sb_ tb
              refine ⟨_, rfl, (by show 1 ≤ sizeLine; decide), fun pc nc => ?_⟩
              have sc : Same Gb (upd Gb pc (.tup [.ref t7])) := same_nw nc
              have tc : upd Gb pc (.tup [.ref t7]) pc = some (.tup [.ref t7]) := upd_same
              generalize upd Gb pc (.tup [.ref t7]) = Gc at sc tc
              refine ⟨pb, pc, _, _, rfl, rfl, SqT.of (sc _ _ tb), SqT.of tc, (by rw [List.take_succ_cons]; exact fun e => nomatch e), ?_, (fun e => nomatch e), fun _ pd nd_ => ?_⟩
              · rw [List.length_take, List.length_cons, List.length_map]
                show min (j + 1) (qs.length + 1) + 1 ≤ sizeLine
                omega
              have sd : Same Gc (upd Gc pd (.tup ((V.str wd :: qs.map V.ref).take (j + 1) ++ [.ref t7]))) := same_nw nd_
              have td : upd Gc pd (.tup ((V.str wd :: qs.map V.ref).take (j + 1) ++ [.ref t7])) pd = some (.tup ((V.str wd :: qs.map V.ref).take (j + 1) ++ [.ref t7])) := upd_same
              generalize upd Gc pd (.tup ((V.str wd :: qs.map V.ref).take (j + 1) ++ [.ref t7])) = Gd at sd td
              have sad := sb_.trans (sc.trans sd)
              refine ⟨_, rfl, _, rfl, _, _, rfl, rfl, _, rfl, a, _, rfl, SqT.of (sad _ _ h1a), ?_, fun pe ne => ?_⟩
              · rw [List.length_cons, List.length_map]
                intro e
                have e := e.1
                rw [j1, j2, HT.sIx_nat] at e
                omega
              rw [j1, j2, cutV_from]
              have se : Same Gd (upd Gd pe (.tup ((V.str wd :: qs.map V.ref).drop (j + 2)))) := same_nw ne
              have te : upd Gd pe (.tup ((V.str wd :: qs.map V.ref).drop (j + 2))) pe = some (.tup ((V.str wd :: qs.map V.ref).drop (j + 2))) := upd_same
              generalize upd Gd pe (.tup ((V.str wd :: qs.map V.ref).drop (j + 2))) = Ge at se te
              have eset : (V.str wd :: qs.map V.ref).take (j + 1) ++ [.ref t7] ++ (V.str wd :: qs.map V.ref).drop (j + 2) = V.str wd :: (qs.set j t7).map V.ref := by
                rw [List.take_succ_cons, List.drop_succ_cons, List.set_eq_take_append_cons_drop, if_pos hj, List.map_append, List.map_cons, List.map_take, List.map_drop]
                simp
              have whole : ∀ (t : Addr) (Gf : Hp), Same Ge Gf → Gf t = some (.tup (V.str wd :: (qs.set j t7).map V.ref)) → RwD Gf t (wd, prs.set j (z, (k + 1))) := fun t Gf sf ht => by
                have s4f := sad.trans (se.trans sf)
                have Kf : Kp b H4 Gf := Kga.trans (Kp.same s4f)
                exact row_set ht (h24.imp fun q p e => Kf _ _ (B4.off e (fun _ _ _ x => nomatch x)) e) ok (s4f _ _ (sa _ _ t7_)) pm.good
              have lqs : (qs.set j t7).length = qs.length := List.length_set ..
              have hRk : ∀ (Gz : Hp), Same Ge Gz → Lk (RwD Gz) as rws := fun Gz sz => hR4.imp fun _ _ x => x.kp B4 (Kga.trans (Kp.same (sad.trans (se.trans sz))))
              have inn : InR roots (wd, prs.set j (z, (k + 1))) := fun p hp => (List.mem_or_eq_of_mem_set hp).elim (fun h => hrin p h) (fun h => by rw [h]; exact inz)
              by_cases em : (V.str wd :: qs.map V.ref).drop (j + 2) = []
              · have hpd : Gd pd = some (.tup (V.str wd :: (qs.set j t7).map V.ref)) := by
                  rw [td, ← eset, em, List.append_nil]
                refine ⟨pd, pe, _, _, rfl, rfl, SqT.of (se _ _ td), SqT.of te, (by rw [List.take_succ_cons]; exact fun e => nomatch e), ?_, (fun _ => ?_), fun x => absurd em x⟩
                · rw [← List.length_append, eset, List.length_cons, List.length_map, lqs]
                  omega
                refine ⟨(by show 1 ≤ sizeLine; decide), fun pf nf => ?_⟩
                have wt := whole pd Ge (Same.refl Ge) (se _ _ hpd)
                have sf : Same Ge (upd Ge pf (.lst [.ref pd])) := same_nw nf
                have tf : upd Ge pf (.lst [.ref pd]) pf = some (.lst [.ref pd]) := upd_same
                generalize upd Ge pf (.lst [.ref pd]) = Gf at sf tf
                have saf := sad.trans (se.trans (Same.trans (Same.refl Ge) sf))
                refine ⟨pa, pf, _, _, rfl, rfl, saf _ _ ta, tf, ?_, fun pg ng => ?_⟩
                · rw [List.length_take, List.length_map]
                  show min i as.length + 1 ≤ sizeLine
                  omega
                have sg : Same Gf (upd Gf pg (.lst ((as.map V.ref).take i ++ [.ref pd]))) := same_nw ng
                have tg : upd Gf pg (.lst ((as.map V.ref).take i ++ [.ref pd])) pg = some (.lst ((as.map V.ref).take i ++ [.ref pd])) := upd_same
                generalize upd Gf pg (.lst ((as.map V.ref).take i ++ [.ref pd])) = Gg at sg tg
                have sag := saf.trans sg
                have hLg := sag _ _ (sa _ _ (K7 _ _ lb hL4))
                refine ⟨_, rfl, _, rfl, _, _, rfl, rfl, _, rfl, l, _, rfl, SqL.of hLg, fun ph nh => ?_⟩
                rw [i1, cutV_from]
                have sh : Same Gg (upd Gg ph (.lst ((as.map V.ref).drop (i + 1)))) := same_nw nh
                have th : upd Gg ph (.lst ((as.map V.ref).drop (i + 1))) ph = some (.lst ((as.map V.ref).drop (i + 1))) := upd_same
                generalize upd Gg ph (.lst ((as.map V.ref).drop (i + 1))) = Gh at sh th
                refine ⟨pg, ph, _, _, rfl, rfl, sh _ _ tg, th, ?_, fun pi_ ni => ?_⟩
                · rw [List.length_append, List.length_take, List.length_drop, List.length_map]
                  show min i as.length + 1 + (as.length - (i + 1)) ≤ sizeLine
                  omega
                have si := same_nw (o := .lst ((as.map V.ref).take i ++ [.ref pd] ++ (as.map V.ref).drop (i + 1))) ni
                have s2h := Same.trans (Same.refl Ge) (sf.trans (sg.trans sh))
                have s2i := s2h.trans si
                have Kgh : Kp b H Gh := K04.trans (Kga.trans (Kp.same (sad.trans (se.trans s2h))))
                have bi := (B7.same (sa.trans (sad.trans (se.trans s2h)))).new ni
                refine q pi_ (as.take i ++ [pd] ++ as.drop (i + 1)) (rws.take i ++ [(wd, prs.set j (z, (k + 1)))] ++ rws.drop (i + 1)) _ (by rw [upd_same, List.map_append, List.map_append, List.map_take, List.map_drop]; rfl) ((((hRk _ s2i).take i).append (Lk.one (wt.same (sf.trans (sg.trans (sh.trans si)))))).append ((hRk _ s2i).drop (i + 1))) ?_ (fun u hu => ?_) (Kgh.free bi ni) bi ((B7.same (sa.trans (sad.trans (se.trans s2i)))).more (by omega)) (Kgh.trans (Kp.same si))
                · rw [List.length_append, List.length_append, List.length_take, List.length_drop]
                  show min i rws.length + 1 + (rws.length - (i + 1)) ≤ rws.length + 1
                  omega
                · rcases List.mem_append.mp hu with hu | hu
                  · rcases List.mem_append.mp hu with hu | hu
                    · exact hin u (List.mem_of_mem_take hu)
                    · rw [List.mem_singleton.mp hu]
                      exact inn
                  · exact hin u (List.mem_of_mem_drop hu)
              · refine ⟨pd, pe, _, _, rfl, rfl, SqT.of (se _ _ td), SqT.of te, (by rw [List.take_succ_cons]; exact fun e => nomatch e), ?_, (fun x => absurd x em), fun _ px nx => ?_⟩
                · rw [← List.length_append, eset, List.length_cons, List.length_map, lqs]
                  omega
                rw [eset]
                have sx : Same Ge (upd Ge px (.tup (V.str wd :: (qs.set j t7).map V.ref))) := same_nw nx
                have tx : upd Ge px (.tup (V.str wd :: (qs.set j t7).map V.ref)) px = some (.tup (V.str wd :: (qs.set j t7).map V.ref)) := upd_same
                generalize upd Ge px (.tup (V.str wd :: (qs.set j t7).map V.ref)) = Gx at sx tx
                refine ⟨(by show 1 ≤ sizeLine; decide), fun pf nf => ?_⟩
                have wt := whole px Gx sx tx
                have sf : Same Gx (upd Gx pf (.lst [.ref px])) := same_nw nf
                have tf : upd Gx pf (.lst [.ref px]) pf = some (.lst [.ref px]) := upd_same
                generalize upd Gx pf (.lst [.ref px]) = Gf at sf tf
                have saf := sad.trans (se.trans (Same.trans sx sf))
                refine ⟨pa, pf, _, _, rfl, rfl, saf _ _ ta, tf, ?_, fun pg ng => ?_⟩
                · rw [List.length_take, List.length_map]
                  show min i as.length + 1 ≤ sizeLine
                  omega
                have sg : Same Gf (upd Gf pg (.lst ((as.map V.ref).take i ++ [.ref px]))) := same_nw ng
                have tg : upd Gf pg (.lst ((as.map V.ref).take i ++ [.ref px])) pg = some (.lst ((as.map V.ref).take i ++ [.ref px])) := upd_same
                generalize upd Gf pg (.lst ((as.map V.ref).take i ++ [.ref px])) = Gg at sg tg
                have sag := saf.trans sg
                have hLg := sag _ _ (sa _ _ (K7 _ _ lb hL4))
                refine ⟨_, rfl, _, rfl, _, _, rfl, rfl, _, rfl, l, _, rfl, SqL.of hLg, fun ph nh => ?_⟩
                rw [i1, cutV_from]
                have sh : Same Gg (upd Gg ph (.lst ((as.map V.ref).drop (i + 1)))) := same_nw nh
                have th : upd Gg ph (.lst ((as.map V.ref).drop (i + 1))) ph = some (.lst ((as.map V.ref).drop (i + 1))) := upd_same
                generalize upd Gg ph (.lst ((as.map V.ref).drop (i + 1))) = Gh at sh th
                refine ⟨pg, ph, _, _, rfl, rfl, sh _ _ tg, th, ?_, fun pi_ ni => ?_⟩
                · rw [List.length_append, List.length_take, List.length_drop, List.length_map]
                  show min i as.length + 1 + (as.length - (i + 1)) ≤ sizeLine
                  omega
                have si := same_nw (o := .lst ((as.map V.ref).take i ++ [.ref px] ++ (as.map V.ref).drop (i + 1))) ni
                have s2h := Same.trans sx (sf.trans (sg.trans sh))
                have s2i := s2h.trans si
                have Kgh : Kp b H Gh := K04.trans (Kga.trans (Kp.same (sad.trans (se.trans s2h))))
                have bi := (B7.same (sa.trans (sad.trans (se.trans s2h)))).new ni
                refine q pi_ (as.take i ++ [px] ++ as.drop (i + 1)) (rws.take i ++ [(wd, prs.set j (z, (k + 1)))] ++ rws.drop (i + 1)) _ (by rw [upd_same, List.map_append, List.map_append, List.map_take, List.map_drop]; rfl) ((((hRk _ s2i).take i).append (Lk.one (wt.same (sf.trans (sg.trans (sh.trans si)))))).append ((hRk _ s2i).drop (i + 1))) ?_ (fun u hu => ?_) (Kgh.free bi ni) bi ((B7.same (sa.trans (sad.trans (se.trans s2i)))).more (by omega)) (Kgh.trans (Kp.same si))
                · rw [List.length_append, List.length_append, List.length_take, List.length_drop]
                  show min i rws.length + 1 + (rws.length - (i + 1)) ≤ rws.length + 1
                  omega
                · rcases List.mem_append.mp hu with hu | hu
                  · rcases List.mem_append.mp hu with hu | hu
                    · exact hin u (List.mem_of_mem_take hu)
                    · rw [List.mem_singleton.mp hu]
                      exact inn
                  · exact hin u (List.mem_of_mem_drop hu)
          · have e3 : ¬ k < 3 := fun x => e3 (decide_eq_true x)
            refine ⟨_, rfl, r0, _, _, _, rfl, rfl, SqT.of hr0', x1, _, _, rfl, rfl, (by show 2 ≤ sizeLine; decide), fun t7 n7 => ?_⟩
            have pm : Prs z (k - 1) := by
              rcases pz with ⟨y1, y2, y3⟩ | ⟨y1, y2, y3, y4⟩
              · exact .inl ⟨y1, by omega, by omega⟩
              · exact .inr ⟨y1, y2, by omega, by omega⟩
            have s7 : Same H4 (upd H4 t7 (.tup [.str z, .int (k - 1)])) := same_nw n7
            have t7_ : upd H4 t7 (.tup [.str z, .int (k - 1)]) t7 = some (.tup [.str z, .int (k - 1)]) := upd_same
            generalize upd H4 t7 (.tup [.str z, .int (k - 1)]) = H7 at s7 t7_
            have K7 : Kp b H4 H7 := Kp.same s7
            have B7 := B4.same s7
            refine ⟨_, rfl, rfl, _, rfl, ite2 (fun _ => ?_) (fun _ => ?_)⟩
            · refine ⟨_, rfl, _, rfl, b, rl, n + 3, roots, rfl, B7, by omega, s7 _ _ hRl4, hl, rlb, fun pp z2 k2 H8 pr hp np B8 K8 => ?_⟩
              have K78 := K7.trans K8
              refine ⟨_, rfl, _, rfl, _, rfl, l, _, rfl, SqL.of (K78 _ _ lb hL4), fun pa na => ?_⟩
              rw [cutV_to]
              have sa : Same H8 (upd H8 pa (.lst ((as.map V.ref).take i))) := same_nw na
              have ta : upd H8 pa (.lst ((as.map V.ref).take i)) pa = some (.lst ((as.map V.ref).take i)) := upd_same
              generalize upd H8 pa (.lst ((as.map V.ref).take i)) = Ga at sa ta
              have Kga : Kp b H4 Ga := K78.trans (Kp.same sa)
              have h1a := Kga _ _ ab h14
              refine ⟨_, rfl, _, rfl, _, rfl, a, _, rfl, SqT.of h1a, ?_, fun pb nb => ?_⟩
              · rw [List.length_cons, List.length_map]
                intro e
                have e := e.2
                rw [j1, HT.sIx_nat] at e
                omega
              rw [j1, cutV_to]
              have sb_ : Same Ga (upd Ga pb (.tup ((V.str wd :: qs.map V.ref).take (j + 1)))) := same_nw nb
              have tb : upd Ga pb (.tup ((V.str wd :: qs.map V.ref).take (j + 1))) pb = some (.tup ((V.str wd :: qs.map V.ref).take (j + 1))) := upd_same
              generalize upd Ga pb (.tup ((V.str wd :: qs.map V.ref).take (j + 1))) = Gb at sb_ tb
              refine ⟨_, rfl, (by show 1 ≤ sizeLine; decide), fun pc nc => ?_⟩
              have sc : Same Gb (upd Gb pc (.tup [.ref pp])) := same_nw nc
              have tc : upd Gb pc (.tup [.ref pp]) pc = some (.tup [.ref pp]) := upd_same
              generalize upd Gb pc (.tup [.ref pp]) = Gc at sc tc
              refine ⟨pb, pc, _, _, rfl, rfl, SqT.of (sc _ _ tb), SqT.of tc, (by rw [List.take_succ_cons]; exact fun e => nomatch e), ?_, (fun e => nomatch e), fun _ pd nd_ => ?_⟩
              · rw [List.length_take, List.length_cons, List.length_map]
                show min (j + 1) (qs.length + 1) + 1 ≤ sizeLine
                omega
              have sd : Same Gc (upd Gc pd (.tup ((V.str wd :: qs.map V.ref).take (j + 1) ++ [.ref pp]))) := same_nw nd_
              have td : upd Gc pd (.tup ((V.str wd :: qs.map V.ref).take (j + 1) ++ [.ref pp])) pd = some (.tup ((V.str wd :: qs.map V.ref).take (j + 1) ++ [.ref pp])) := upd_same
              generalize upd Gc pd (.tup ((V.str wd :: qs.map V.ref).take (j + 1) ++ [.ref pp])) = Gd at sd td
              have sad := sb_.trans (sc.trans sd)
              refine ⟨_, rfl, _, rfl, _, _, rfl, rfl, _, rfl, a, _, rfl, SqT.of (sad _ _ h1a), ?_, fun pe ne => ?_⟩
              · rw [List.length_cons, List.length_map]
                intro e
                have e := e.1
                rw [j1, j2, HT.sIx_nat] at e
                omega
              rw [j1, j2, cutV_from]
              have se : Same Gd (upd Gd pe (.tup ((V.str wd :: qs.map V.ref).drop (j + 2)))) := same_nw ne
              have te : upd Gd pe (.tup ((V.str wd :: qs.map V.ref).drop (j + 2))) pe = some (.tup ((V.str wd :: qs.map V.ref).drop (j + 2))) := upd_same
              generalize upd Gd pe (.tup ((V.str wd :: qs.map V.ref).drop (j + 2))) = Ge at se te
              have eset : (V.str wd :: qs.map V.ref).take (j + 1) ++ [.ref pp] ++ (V.str wd :: qs.map V.ref).drop (j + 2) = V.str wd :: (qs.set j pp).map V.ref := by
                rw [List.take_succ_cons, List.drop_succ_cons, List.set_eq_take_append_cons_drop, if_pos hj, List.map_append, List.map_cons, List.map_take, List.map_drop]
                simp
              have whole : ∀ (t : Addr) (Gf : Hp), Same Ge Gf → Gf t = some (.tup (V.str wd :: (qs.set j pp).map V.ref)) → RwD Gf t (wd, prs.set j (z2, k2)) := fun t Gf sf ht => by
                have s4f := sad.trans (se.trans sf)
                have Kf : Kp b H4 Gf := Kga.trans (Kp.same s4f)
                exact row_set ht (h24.imp fun q p e => Kf _ _ (B4.off e (fun _ _ _ x => nomatch x)) e) ok (s4f _ _ (sa _ _ hp)) (pr.prs hrt).good
              have lqs : (qs.set j pp).length = qs.length := List.length_set ..
              have hRk : ∀ (Gz : Hp), Same Ge Gz → Lk (RwD Gz) as rws := fun Gz sz => hR4.imp fun _ _ x => x.kp B4 (Kga.trans (Kp.same (sad.trans (se.trans sz))))
              have inn : InR roots (wd, prs.set j (z2, k2)) := fun p hp => (List.mem_or_eq_of_mem_set hp).elim (fun h => hrin p h) (fun h => by rw [h]; exact pr.inr)
              by_cases em : (V.str wd :: qs.map V.ref).drop (j + 2) = []
              · have hpd : Gd pd = some (.tup (V.str wd :: (qs.set j pp).map V.ref)) := by
                  rw [td, ← eset, em, List.append_nil]
                refine ⟨pd, pe, _, _, rfl, rfl, SqT.of (se _ _ td), SqT.of te, (by rw [List.take_succ_cons]; exact fun e => nomatch e), ?_, (fun _ => ?_), fun x => absurd em x⟩
                · rw [← List.length_append, eset, List.length_cons, List.length_map, lqs]
                  omega
                refine ⟨(by show 1 ≤ sizeLine; decide), fun pf nf => ?_⟩
                have wt := whole pd Ge (Same.refl Ge) (se _ _ hpd)
                have sf : Same Ge (upd Ge pf (.lst [.ref pd])) := same_nw nf
                have tf : upd Ge pf (.lst [.ref pd]) pf = some (.lst [.ref pd]) := upd_same
                generalize upd Ge pf (.lst [.ref pd]) = Gf at sf tf
                have saf := sad.trans (se.trans (Same.trans (Same.refl Ge) sf))
                refine ⟨pa, pf, _, _, rfl, rfl, saf _ _ ta, tf, ?_, fun pg ng => ?_⟩
                · rw [List.length_take, List.length_map]
                  show min i as.length + 1 ≤ sizeLine
                  omega
                have sg : Same Gf (upd Gf pg (.lst ((as.map V.ref).take i ++ [.ref pd]))) := same_nw ng
                have tg : upd Gf pg (.lst ((as.map V.ref).take i ++ [.ref pd])) pg = some (.lst ((as.map V.ref).take i ++ [.ref pd])) := upd_same
                generalize upd Gf pg (.lst ((as.map V.ref).take i ++ [.ref pd])) = Gg at sg tg
                have sag := saf.trans sg
                have hLg := sag _ _ (sa _ _ (K78 _ _ lb hL4))
                refine ⟨_, rfl, _, rfl, _, _, rfl, rfl, _, rfl, l, _, rfl, SqL.of hLg, fun ph nh => ?_⟩
                rw [i1, cutV_from]
                have sh : Same Gg (upd Gg ph (.lst ((as.map V.ref).drop (i + 1)))) := same_nw nh
                have th : upd Gg ph (.lst ((as.map V.ref).drop (i + 1))) ph = some (.lst ((as.map V.ref).drop (i + 1))) := upd_same
                generalize upd Gg ph (.lst ((as.map V.ref).drop (i + 1))) = Gh at sh th
                refine ⟨pg, ph, _, _, rfl, rfl, sh _ _ tg, th, ?_, fun pi_ ni => ?_⟩
                · rw [List.length_append, List.length_take, List.length_drop, List.length_map]
                  show min i as.length + 1 + (as.length - (i + 1)) ≤ sizeLine
                  omega
                have si := same_nw (o := .lst ((as.map V.ref).take i ++ [.ref pd] ++ (as.map V.ref).drop (i + 1))) ni
                have s2h := Same.trans (Same.refl Ge) (sf.trans (sg.trans sh))
                have s2i := s2h.trans si
                have Kgh : Kp b H Gh := K04.trans (Kga.trans (Kp.same (sad.trans (se.trans s2h))))
                have bi := (B8.same (sa.trans (sad.trans (se.trans s2h)))).new ni
                refine q pi_ (as.take i ++ [pd] ++ as.drop (i + 1)) (rws.take i ++ [(wd, prs.set j (z2, k2))] ++ rws.drop (i + 1)) _ (by rw [upd_same, List.map_append, List.map_append, List.map_take, List.map_drop]; rfl) ((((hRk _ s2i).take i).append (Lk.one (wt.same (sf.trans (sg.trans (sh.trans si)))))).append ((hRk _ s2i).drop (i + 1))) ?_ (fun u hu => ?_) (Kgh.free bi ni) bi ((B8.same (sa.trans (sad.trans (se.trans s2i)))).more (by omega)) (Kgh.trans (Kp.same si))
                · rw [List.length_append, List.length_append, List.length_take, List.length_drop]
                  show min i rws.length + 1 + (rws.length - (i + 1)) ≤ rws.length + 1
                  omega
                · rcases List.mem_append.mp hu with hu | hu
                  · rcases List.mem_append.mp hu with hu | hu
                    · exact hin u (List.mem_of_mem_take hu)
                    · rw [List.mem_singleton.mp hu]
                      exact inn
                  · exact hin u (List.mem_of_mem_drop hu)
              · refine ⟨pd, pe, _, _, rfl, rfl, SqT.of (se _ _ td), SqT.of te, (by rw [List.take_succ_cons]; exact fun e => nomatch e), ?_, (fun x => absurd x em), fun _ px nx => ?_⟩
                · rw [← List.length_append, eset, List.length_cons, List.length_map, lqs]
                  omega
                rw [eset]
                have sx : Same Ge (upd Ge px (.tup (V.str wd :: (qs.set j pp).map V.ref))) := same_nw nx
                have tx : upd Ge px (.tup (V.str wd :: (qs.set j pp).map V.ref)) px = some (.tup (V.str wd :: (qs.set j pp).map V.ref)) := upd_same
                generalize upd Ge px (.tup (V.str wd :: (qs.set j pp).map V.ref)) = Gx at sx tx
                refine ⟨(by show 1 ≤ sizeLine; decide), fun pf nf => ?_⟩
                have wt := whole px Gx sx tx
                have sf : Same Gx (upd Gx pf (.lst [.ref px])) := same_nw nf
                have tf : upd Gx pf (.lst [.ref px]) pf = some (.lst [.ref px]) := upd_same
                generalize upd Gx pf (.lst [.ref px]) = Gf at sf tf
                have saf := sad.trans (se.trans (Same.trans sx sf))
                refine ⟨pa, pf, _, _, rfl, rfl, saf _ _ ta, tf, ?_, fun pg ng => ?_⟩
                · rw [List.length_take, List.length_map]
                  show min i as.length + 1 ≤ sizeLine
                  omega
                have sg : Same Gf (upd Gf pg (.lst ((as.map V.ref).take i ++ [.ref px]))) := same_nw ng
                have tg : upd Gf pg (.lst ((as.map V.ref).take i ++ [.ref px])) pg = some (.lst ((as.map V.ref).take i ++ [.ref px])) := upd_same
                generalize upd Gf pg (.lst ((as.map V.ref).take i ++ [.ref px])) = Gg at sg tg
                have sag := saf.trans sg
                have hLg := sag _ _ (sa _ _ (K78 _ _ lb hL4))
                refine ⟨_, rfl, _, rfl, _, _, rfl, rfl, _, rfl, l, _, rfl, SqL.of hLg, fun ph nh => ?_⟩
                rw [i1, cutV_from]
                have sh : Same Gg (upd Gg ph (.lst ((as.map V.ref).drop (i + 1)))) := same_nw nh
                have th : upd Gg ph (.lst ((as.map V.ref).drop (i + 1))) ph = some (.lst ((as.map V.ref).drop (i + 1))) := upd_same
                generalize upd Gg ph (.lst ((as.map V.ref).drop (i + 1))) = Gh at sh th
                refine ⟨pg, ph, _, _, rfl, rfl, sh _ _ tg, th, ?_, fun pi_ ni => ?_⟩
                · rw [List.length_append, List.length_take, List.length_drop, List.length_map]
                  show min i as.length + 1 + (as.length - (i + 1)) ≤ sizeLine
                  omega
                have si := same_nw (o := .lst ((as.map V.ref).take i ++ [.ref px] ++ (as.map V.ref).drop (i + 1))) ni
                have s2h := Same.trans sx (sf.trans (sg.trans sh))
                have s2i := s2h.trans si
                have Kgh : Kp b H Gh := K04.trans (Kga.trans (Kp.same (sad.trans (se.trans s2h))))
                have bi := (B8.same (sa.trans (sad.trans (se.trans s2h)))).new ni
                refine q pi_ (as.take i ++ [px] ++ as.drop (i + 1)) (rws.take i ++ [(wd, prs.set j (z2, k2))] ++ rws.drop (i + 1)) _ (by rw [upd_same, List.map_append, List.map_append, List.map_take, List.map_drop]; rfl) ((((hRk _ s2i).take i).append (Lk.one (wt.same (sf.trans (sg.trans (sh.trans si)))))).append ((hRk _ s2i).drop (i + 1))) ?_ (fun u hu => ?_) (Kgh.free bi ni) bi ((B8.same (sa.trans (sad.trans (se.trans s2i)))).more (by omega)) (Kgh.trans (Kp.same si))
                · rw [List.length_append, List.length_append, List.length_take, List.length_drop]
                  show min i rws.length + 1 + (rws.length - (i + 1)) ≤ rws.length + 1
                  omega
                · rcases List.mem_append.mp hu with hu | hu
                  · rcases List.mem_append.mp hu with hu | hu
                    · exact hin u (List.mem_of_mem_take hu)
                    · rw [List.mem_singleton.mp hu]
                      exact inn
                  · exact hin u (List.mem_of_mem_drop hu)
            · refine ⟨_, rfl, _, rfl, _, rfl, l, _, rfl, SqL.of (K7 _ _ lb hL4), fun pa na => ?_⟩
              rw [cutV_to]
              have sa : Same H7 (upd H7 pa (.lst ((as.map V.ref).take i))) := same_nw na
              have ta : upd H7 pa (.lst ((as.map V.ref).take i)) pa = some (.lst ((as.map V.ref).take i)) := upd_same
              generalize upd H7 pa (.lst ((as.map V.ref).take i)) = Ga at sa ta
              have Kga : Kp b H4 Ga := K7.trans (Kp.same sa)
              have h1a := Kga _ _ ab h14
              refine ⟨_, rfl, _, rfl, _, rfl, a, _, rfl, SqT.of h1a, ?_, fun pb nb => ?_⟩
              · rw [List.length_cons, List.length_map]
                intro e
                have e := e.2
                rw [j1, HT.sIx_nat] at e
                omega
              rw [j1, cutV_to]
              have sb_ : Same Ga (upd Ga pb (.tup ((V.str wd :: qs.map V.ref).take (j + 1)))) := same_nw nb
              have tb : upd Ga pb (.tup ((V.str wd :: qs.map V.ref).take (j + 1))) pb = some (.tup ((V.str wd :: qs.map V.ref).take (j + 1))) := upd_same
              generalize upd Ga pb (.tup ((V.str wd :: qs.map V.ref).take (j + 1))) = Gb at sb_ tb
              refine ⟨_, rfl, (by show 1 ≤ sizeLine; decide), fun pc nc => ?_⟩
              have sc : Same Gb (upd Gb pc (.tup [.ref t7])) := same_nw nc
              have tc : upd Gb pc (.tup [.ref t7]) pc = some (.tup [.ref t7]) := upd_same
              generalize upd Gb pc (.tup [.ref t7]) = Gc at sc tc
              refine ⟨pb, pc, _, _, rfl, rfl, SqT.of (sc _ _ tb), SqT.of tc, (by rw [List.take_succ_cons]; exact fun e => nomatch e), ?_, (fun e => nomatch e), fun _ pd nd_ => ?_⟩
              · rw [List.length_take, List.length_cons, List.length_map]
                show min (j + 1) (qs.length + 1) + 1 ≤ sizeLine
                omega
              have sd : Same Gc (upd Gc pd (.tup ((V.str wd :: qs.map V.ref).take (j + 1) ++ [.ref t7]))) := same_nw nd_
              have td : upd Gc pd (.tup ((V.str wd :: qs.map V.ref).take (j + 1) ++ [.ref t7])) pd = some (.tup ((V.str wd :: qs.map V.ref).take (j + 1) ++ [.ref t7])) := upd_same
              generalize upd Gc pd (.tup ((V.str wd :: qs.map V.ref).take (j + 1) ++ [.ref t7])) = Gd at sd td
              have sad := sb_.trans (sc.trans sd)
              refine ⟨_, rfl, _, rfl, _, _, rfl, rfl, _, rfl, a, _, rfl, SqT.of (sad _ _ h1a), ?_, fun pe ne => ?_⟩
              · rw [List.length_cons, List.length_map]
                intro e
                have e := e.1
                rw [j1, j2, HT.sIx_nat] at e
                omega
              rw [j1, j2, cutV_from]
              have se : Same Gd (upd Gd pe (.tup ((V.str wd :: qs.map V.ref).drop (j + 2)))) := same_nw ne
              have te : upd Gd pe (.tup ((V.str wd :: qs.map V.ref).drop (j + 2))) pe = some (.tup ((V.str wd :: qs.map V.ref).drop (j + 2))) := upd_same
              generalize upd Gd pe (.tup ((V.str wd :: qs.map V.ref).drop (j + 2))) = Ge at se te
              have eset : (V.str wd :: qs.map V.ref).take (j + 1) ++ [.ref t7] ++ (V.str wd :: qs.map V.ref).drop (j + 2) = V.str wd :: (qs.set j t7).map V.ref := by
                rw [List.take_succ_cons, List.drop_succ_cons, List.set_eq_take_append_cons_drop, if_pos hj, List.map_append, List.map_cons, List.map_take, List.map_drop]
                simp
              have whole : ∀ (t : Addr) (Gf : Hp), Same Ge Gf → Gf t = some (.tup (V.str wd :: (qs.set j t7).map V.ref)) → RwD Gf t (wd, prs.set j (z, (k - 1))) := fun t Gf sf ht => by
                have s4f := sad.trans (se.trans sf)
                have Kf : Kp b H4 Gf := Kga.trans (Kp.same s4f)
                exact row_set ht (h24.imp fun q p e => Kf _ _ (B4.off e (fun _ _ _ x => nomatch x)) e) ok (s4f _ _ (sa _ _ t7_)) pm.good
              have lqs : (qs.set j t7).length = qs.length := List.length_set ..
              have hRk : ∀ (Gz : Hp), Same Ge Gz → Lk (RwD Gz) as rws := fun Gz sz => hR4.imp fun _ _ x => x.kp B4 (Kga.trans (Kp.same (sad.trans (se.trans sz))))
              have inn : InR roots (wd, prs.set j (z, (k - 1))) := fun p hp => (List.mem_or_eq_of_mem_set hp).elim (fun h => hrin p h) (fun h => by rw [h]; exact inz)
              by_cases em : (V.str wd :: qs.map V.ref).drop (j + 2) = []
              · have hpd : Gd pd = some (.tup (V.str wd :: (qs.set j t7).map V.ref)) := by
                  rw [td, ← eset, em, List.append_nil]
                refine ⟨pd, pe, _, _, rfl, rfl, SqT.of (se _ _ td), SqT.of te, (by rw [List.take_succ_cons]; exact fun e => nomatch e), ?_, (fun _ => ?_), fun x => absurd em x⟩
                · rw [← List.length_append, eset, List.length_cons, List.length_map, lqs]
                  omega
                refine ⟨(by show 1 ≤ sizeLine; decide), fun pf nf => ?_⟩
                have wt := whole pd Ge (Same.refl Ge) (se _ _ hpd)
                have sf : Same Ge (upd Ge pf (.lst [.ref pd])) := same_nw nf
                have tf : upd Ge pf (.lst [.ref pd]) pf = some (.lst [.ref pd]) := upd_same
                generalize upd Ge pf (.lst [.ref pd]) = Gf at sf tf
                have saf := sad.trans (se.trans (Same.trans (Same.refl Ge) sf))
                refine ⟨pa, pf, _, _, rfl, rfl, saf _ _ ta, tf, ?_, fun pg ng => ?_⟩
                · rw [List.length_take, List.length_map]
                  show min i as.length + 1 ≤ sizeLine
                  omega
                have sg : Same Gf (upd Gf pg (.lst ((as.map V.ref).take i ++ [.ref pd]))) := same_nw ng
                have tg : upd Gf pg (.lst ((as.map V.ref).take i ++ [.ref pd])) pg = some (.lst ((as.map V.ref).take i ++ [.ref pd])) := upd_same
                generalize upd Gf pg (.lst ((as.map V.ref).take i ++ [.ref pd])) = Gg at sg tg
                have sag := saf.trans sg
                have hLg := sag _ _ (sa _ _ (K7 _ _ lb hL4))
                refine ⟨_, rfl, _, rfl, _, _, rfl, rfl, _, rfl, l, _, rfl, SqL.of hLg, fun ph nh => ?_⟩
                rw [i1, cutV_from]
                have sh : Same Gg (upd Gg ph (.lst ((as.map V.ref).drop (i + 1)))) := same_nw nh
                have th : upd Gg ph (.lst ((as.map V.ref).drop (i + 1))) ph = some (.lst ((as.map V.ref).drop (i + 1))) := upd_same
                generalize upd Gg ph (.lst ((as.map V.ref).drop (i + 1))) = Gh at sh th
                refine ⟨pg, ph, _, _, rfl, rfl, sh _ _ tg, th, ?_, fun pi_ ni => ?_⟩
                · rw [List.length_append, List.length_take, List.length_drop, List.length_map]
                  show min i as.length + 1 + (as.length - (i + 1)) ≤ sizeLine
                  omega
                have si := same_nw (o := .lst ((as.map V.ref).take i ++ [.ref pd] ++ (as.map V.ref).drop (i + 1))) ni
                have s2h := Same.trans (Same.refl Ge) (sf.trans (sg.trans sh))
                have s2i := s2h.trans si
                have Kgh : Kp b H Gh := K04.trans (Kga.trans (Kp.same (sad.trans (se.trans s2h))))
                have bi := (B7.same (sa.trans (sad.trans (se.trans s2h)))).new ni
                refine q pi_ (as.take i ++ [pd] ++ as.drop (i + 1)) (rws.take i ++ [(wd, prs.set j (z, (k - 1)))] ++ rws.drop (i + 1)) _ (by rw [upd_same, List.map_append, List.map_append, List.map_take, List.map_drop]; rfl) ((((hRk _ s2i).take i).append (Lk.one (wt.same (sf.trans (sg.trans (sh.trans si)))))).append ((hRk _ s2i).drop (i + 1))) ?_ (fun u hu => ?_) (Kgh.free bi ni) bi ((B7.same (sa.trans (sad.trans (se.trans s2i)))).more (by omega)) (Kgh.trans (Kp.same si))
                · rw [List.length_append, List.length_append, List.length_take, List.length_drop]
                  show min i rws.length + 1 + (rws.length - (i + 1)) ≤ rws.length + 1
                  omega
                · rcases List.mem_append.mp hu with hu | hu
                  · rcases List.mem_append.mp hu with hu | hu
                    · exact hin u (List.mem_of_mem_take hu)
                    · rw [List.mem_singleton.mp hu]
                      exact inn
                  · exact hin u (List.mem_of_mem_drop hu)
              · refine ⟨pd, pe, _, _, rfl, rfl, SqT.of (se _ _ td), SqT.of te, (by rw [List.take_succ_cons]; exact fun e => nomatch e), ?_, (fun x => absurd x em), fun _ px nx => ?_⟩
                · rw [← List.length_append, eset, List.length_cons, List.length_map, lqs]
                  omega
                rw [eset]
                have sx : Same Ge (upd Ge px (.tup (V.str wd :: (qs.set j t7).map V.ref))) := same_nw nx
                have tx : upd Ge px (.tup (V.str wd :: (qs.set j t7).map V.ref)) px = some (.tup (V.str wd :: (qs.set j t7).map V.ref)) := upd_same
                generalize upd Ge px (.tup (V.str wd :: (qs.set j t7).map V.ref)) = Gx at sx tx
                refine ⟨(by show 1 ≤ sizeLine; decide), fun pf nf => ?_⟩
                have wt := whole px Gx sx tx
                have sf : Same Gx (upd Gx pf (.lst [.ref px])) := same_nw nf
                have tf : upd Gx pf (.lst [.ref px]) pf = some (.lst [.ref px]) := upd_same
                generalize upd Gx pf (.lst [.ref px]) = Gf at sf tf
                have saf := sad.trans (se.trans (Same.trans sx sf))
                refine ⟨pa, pf, _, _, rfl, rfl, saf _ _ ta, tf, ?_, fun pg ng => ?_⟩
                · rw [List.length_take, List.length_map]
                  show min i as.length + 1 ≤ sizeLine
                  omega
                have sg : Same Gf (upd Gf pg (.lst ((as.map V.ref).take i ++ [.ref px]))) := same_nw ng
                have tg : upd Gf pg (.lst ((as.map V.ref).take i ++ [.ref px])) pg = some (.lst ((as.map V.ref).take i ++ [.ref px])) := upd_same
                generalize upd Gf pg (.lst ((as.map V.ref).take i ++ [.ref px])) = Gg at sg tg
                have sag := saf.trans sg
                have hLg := sag _ _ (sa _ _ (K7 _ _ lb hL4))
                refine ⟨_, rfl, _, rfl, _, _, rfl, rfl, _, rfl, l, _, rfl, SqL.of hLg, fun ph nh => ?_⟩
                rw [i1, cutV_from]
                have sh : Same Gg (upd Gg ph (.lst ((as.map V.ref).drop (i + 1)))) := same_nw nh
                have th : upd Gg ph (.lst ((as.map V.ref).drop (i + 1))) ph = some (.lst ((as.map V.ref).drop (i + 1))) := upd_same
                generalize upd Gg ph (.lst ((as.map V.ref).drop (i + 1))) = Gh at sh th
                refine ⟨pg, ph, _, _, rfl, rfl, sh _ _ tg, th, ?_, fun pi_ ni => ?_⟩
                · rw [List.length_append, List.length_take, List.length_drop, List.length_map]
                  show min i as.length + 1 + (as.length - (i + 1)) ≤ sizeLine
                  omega
                have si := same_nw (o := .lst ((as.map V.ref).take i ++ [.ref px] ++ (as.map V.ref).drop (i + 1))) ni
                have s2h := Same.trans sx (sf.trans (sg.trans sh))
                have s2i := s2h.trans si
                have Kgh : Kp b H Gh := K04.trans (Kga.trans (Kp.same (sad.trans (se.trans s2h))))
                have bi := (B7.same (sa.trans (sad.trans (se.trans s2h)))).new ni
                refine q pi_ (as.take i ++ [px] ++ as.drop (i + 1)) (rws.take i ++ [(wd, prs.set j (z, (k - 1)))] ++ rws.drop (i + 1)) _ (by rw [upd_same, List.map_append, List.map_append, List.map_take, List.map_drop]; rfl) ((((hRk _ s2i).take i).append (Lk.one (wt.same (sf.trans (sg.trans (sh.trans si)))))).append ((hRk _ s2i).drop (i + 1))) ?_ (fun u hu => ?_) (Kgh.free bi ni) bi ((B7.same (sa.trans (sad.trans (se.trans s2i)))).more (by omega)) (Kgh.trans (Kp.same si))
                · rw [List.length_append, List.length_append, List.length_take, List.length_drop]
                  show min i rws.length + 1 + (rws.length - (i + 1)) ≤ rws.length + 1
                  omega
                · rcases List.mem_append.mp hu with hu | hu
                  · rcases List.mem_append.mp hu with hu | hu
                    · exact hin u (List.mem_of_mem_take hu)
                    · rw [List.mem_singleton.mp hu]
                      exact inn
                  · exact hin u (List.mem_of_mem_drop hu)
end
end Mz
set_option Elab.async false
set_option linter.all false
set_option maxRecDepth 100000
set_option maxHeartbeats 4000000
/-! a class called with keywords alone, whose __init__ may raise -/
namespace Mz
open PySem PySem.Spec PyProof.Rows L2
section
variable {X : Cx} {CX : CXT} {k : Nat} {f C : Addr} {fd : FuncData} {ps ks : List Str} {sp : Sp} {x : Str} {p pos : Pos} {kws : List Keyword} {tk : TA} {g : List Value → List Value → List Value} {gV : List V → List V → List V}
theorem pe_makeKS0 {ES : L2.St → XK} (M : Mk X.K C f) (F : FnOk X.prog X.w X.K X.mg X.base CX k f fd ps sp) (hr : Room (k + 1) X.A) (hg : Gl X x) (hm : X.mg x = some (.ref C)) (hb : KBn X.K fd ps 1 ks g gV) (hx : ∀ σ, PassesAt CX X σ (ES σ)) (hkw : PK X kws tk)
    (hall : (backToKw pos (keywordEach kws X.env)).all (·.1.isSome) = true := by rfl) (hks : (backToKw pos (keywordEach kws X.env)).filterMap (·.1) = ks := by rfl) (hdb : (x == ("__debug__" : Str)) = false := by decide)
    (hpl : ((backTo pos (starEach [] X.env)).any (·.1) || (backToKw pos (keywordEach kws X.env)).any (·.1.isNone)) = false := by rfl) :
    PE X (.Call (.Name x p) [] kws pos) (fun σ H Q => tMakeK C 0 ks.length sp gV (ES σ) tNil tk σ H Q) := by
  refine ⟨fun pins s σ H Q I h => ?_⟩
  refine wpAny_Call_Name_kw (ld_glob I hg hm ?_ hdb)
  refine PySem.W.callWith_KW0 (h₀ := X.base) I.ok.mod.kin M.kp hall ?_ hpl
  refine thn (hkw.run pos pins s σ H _ I h) fun ws s2 ⟨zs, H2, I2, rz, l1, l2, q2⟩ => ⟨I2.kIn, ?_⟩
  rw [hks]
  exact run_makeKS M F hr hb (hx σ) I2 .nil rz l1 l2 q2
end
end Mz
set_option Elab.async false
set_option linter.all false
set_option maxRecDepth 100000
set_option maxHeartbeats 4000000
/-! == of lists and tuples whose items may have an own ==, whichever way it goes -/
namespace Mz
open PySem PySem.Spec PyProof.Rows L2
open PySem.SeqAt
open AutoSeq1 (wpAny_loadPart')
open MeetsSeq MeetsSeq2 MeetsSeq3 SeqRoads2
open GQ (FinOf call_here)
section
variable {prog : Program} {w : World} {A : Around} {R : Result → Shared → Prop}
/-- at each moment of the loop the two lists are as they were, and an item is compared so -/
def ListB (prog : Program) (w : World) (A : Around) (E : Value → Shared → Prop) (l b : Addr) (N : Nat) (e : Nat → Bool) (I : Shared → Prop) : Prop :=
  ∀ s, I s → ∃ (items items2 : Array Value) (n n2 : Nat), s.heap.get? l = some { cls := .type "list", data := .seq items n } ∧ s.heap.get? b = some { cls := .type "list", data := .seq items2 n2 } ∧ items.size = N ∧ items2.size = N ∧
    ∀ i (h1 : i < items.size) (h2 : i < items2.size), wpAny (model prog w) A.in1 (eqBool items[i] items2[i]) (fun r s' => r = e i ∧ I s') E s
theorem all_of {N : Nat} {e : Nat → Bool} (h : ∀ j, j < N → e j = true) : (List.range N).all e = true := by
  rw [List.all_eq_true]
  exact fun j hj => h j (List.mem_range.mp hj)
theorem not_all {N i : Nat} {e : Nat → Bool} (hi : i < N) (h : e i = false) : (List.range N).all e = false := by
  rw [List.all_eq_false]
  exact ⟨i, List.mem_range.mpr hi, by rw [h]; decide⟩
theorem eq_loopB (l b : Addr) (N : Nat) (e : Nat → Bool) (I : Shared → Prop) (hl : ListB prog w A (fun e s' => R (.error e) s') l b N e I)
    (fin : ∀ s, I s → R (.ok (.ret (.bool ((List.range N).all e)))) s) (k : Nat) :
    ∀ i : Nat, N - i = k → i ≤ N → (∀ j, j < i → e j = true) → ∀ s, I s →
      wpAny (model prog w) A.in1 (Builtin.«list.__eq__.loop» ⟨[.ref l, .ref b, rawInt i, rawInt 2], []⟩) (FinOf prog w A R) (fun e s' => R (.error e) s') s := by
  induction k with
  | zero =>
    intro i hk hi hj s h
    obtain ⟨items, items2, n, n2, hl1, hb1, hs1, hs2, _⟩ := hl _ h
    have hi' : i = N := by omega
    have hR := fin s h
    rw [all_of (hi' ▸ hj)] at hR
    obtain ⟨hp, g, d, tk, os⟩ := s
    wp_walk using wpAny_loadPart' hl1, wpAny_loadPart' hb1
    have hi1 : items[((i : Nat) : Int).toNat]? = none := by simp; omega
    have hi2 : items2[((i : Nat) : Int).toNat]? = none := by simp; omega
    rw [hi1, hi2]
    wp_walk using wpAny_loadPart' hl1, wpAny_loadPart' hb1
    show R (.ok (.ret (.bool (items.size == items2.size)))) _
    rw [hs1, hs2]
    simpa using hR
  | succ k ih =>
    intro i hk hi hj s h
    obtain ⟨items, items2, n, n2, hl1, hb1, hs1, hs2, turn⟩ := hl _ h
    have hlt : i < items.size := by omega
    have hlt2 : i < items2.size := by omega
    have ht := turn i hlt hlt2
    obtain ⟨hp, g, d, tk, os⟩ := s
    wp_walk using wpAny_loadPart' hl1, wpAny_loadPart' hb1
    have hi1 : items[((i : Nat) : Int).toNat]? = some items[i] := by simp [hlt]
    have hi2 : items2[((i : Nat) : Int).toNat]? = some items2[i] := by simp [hlt2]
    have hc : ((i : Int) + 1) = ((i + 1 : Nat) : Int) := by omega
    rw [hi1, hi2]
    refine wpAny_bind (wpAny_mono ht (fun r s2 h2 => ?_) fun _ _ x => x)
    obtain ⟨hr, h2⟩ := h2
    cases he : e i with
    | true =>
      rw [he] at hr
      subst hr
      have hrec := ih (i + 1) (by omega) (by omega) (fun j hj' => by
        rcases Nat.lt_or_ge j i with lt | ge
        · exact hj j lt
        · rw [show j = i by omega]; exact he) s2 h2
      obtain ⟨hp2, g2, d2, tk2, os2⟩ := s2
      wp_walk
      rw [hc]
      exact ⟨plainId_quiet plain_eq_loop _, codeAny_builtin entry_eq_loop (by
        rw [Around.under_plainId plain_eq_loop _]
        exact hrec)⟩
    | false =>
      rw [he] at hr
      subst hr
      have hR := fin s2 h2
      rw [not_all (by omega) he] at hR
      obtain ⟨items3, items4, n3, n4, hl3, hb3, hs3, hs4, _⟩ := hl _ h2
      obtain ⟨hp2, g2, d2, tk2, os2⟩ := s2
      wp_walk using wpAny_loadPart' hl3, wpAny_loadPart' hb3
      have hi3 : items3[((i : Nat) : Int).toNat]? = some (items3[i]'(by omega)) := by simp [show i < items3.size by omega]
      have hi4 : items4[((i : Nat) : Int).toNat]? = some (items4[i]'(by omega)) := by simp [show i < items4.size by omega]
      rw [hi3, hi4]
      wp_walk using wpAny_loadPart' hl3, wpAny_loadPart' hb3
      exact hR
theorem list_eqB (l b : Addr) (N : Nat) (e : Nat → Bool) (I : Shared → Prop) (hl : ListB prog w A (fun e s' => R (.error e) s') l b N e I)
    (fin : ∀ s, I s → R (.ok (.ret (.bool ((List.range N).all e)))) s) {s : Shared} (h : I s) :
    wpAny (model prog w) A.in1 (Builtin.«list.__eq__» ⟨[.ref l, .ref b], []⟩) (FinOf prog w A R) (fun e s' => R (.error e) s') s := by
  obtain ⟨items, items2, n, n2, hl1, hb1, hs1, hs2, _⟩ := hl _ h
  have hrec := eq_loopB (A := A) (R := R) l b N e I hl fin _ 0 rfl (Nat.zero_le _) (fun _ h => absurd h (Nat.not_lt_zero _)) s h
  obtain ⟨hp, g, d, tk, os⟩ := s
  have f3 := AutoSeq1.sub_list_list
  have hne : ¬ (items.size != items2.size) = true := by simp [hs1, hs2]
  wp_walk using wpAny_loadPart' hl1, wpAny_loadPart' hb1
  exact ⟨plainId_quiet plain_eq_loop _, codeAny_builtin entry_eq_loop (by
    rw [Around.under_plainId plain_eq_loop _]
    exact hrec)⟩
theorem tuple_eqB (l b : Addr) (items items2 : Array Value) (n n2 : Nat) (dd dd2 : Option Addr) (sl sl2 : Array (Option Value)) (e : Nat → Bool) (I : Shared → Prop)
    (turn : ∀ i (h1 : i < items.size) (h2 : i < items2.size) s, I s → wpAny (model prog w) A.in1 (eqBool items[i] items2[i]) (fun r s' => r = e i ∧ I s') (fun e s' => R (.error e) s') s)
    (fin : ∀ s, I s → R (.ok (.ret (.bool ((List.range (min items.size items2.size)).all e && decide (items.size = items2.size))))) s) {s : Shared} (hl1 : s.heap.get? l = some { cls := .type "tuple", dict := dd, data := .seq items n, slots := sl }) (hb1 : s.heap.get? b = some { cls := .type "tuple", dict := dd2, data := .seq items2 n2, slots := sl2 }) (h : I s) :
    wpAny (model prog w) A.in1 (Builtin.«tuple.__eq__» ⟨[.ref l, .ref b], []⟩) (FinOf prog w A R) (fun e s' => R (.error e) s') s := by
  have f2 := AutoSeq1.sub_tuple_tuple
  have hZ : (items.toList.zip items2.toList).length = min items.size items2.size := by simp
  have h0 := h
  obtain ⟨hp, g, d, tk, os⟩ := s
  wp_walk using wpAny_loadPart' hl1, wpAny_loadPart' hb1, wpAny_forIn_list _ (fun rest b s' => ((b.1 = none ∧ ∃ i, rest = (items.toList.zip items2.toList).drop i ∧ i ≤ min items.size items2.size ∧ (∀ j, j < i → e j = true) ∧ I s')) ) _
  case turn =>
    rintro ⟨y, x⟩ rest b s' ⟨hb', i, hz, hi, hj, hI⟩
    have hlt : i < (items.toList.zip items2.toList).length := by
      rcases Nat.lt_or_ge i (items.toList.zip items2.toList).length with h' | h'
      · exact h'
      · rw [List.drop_of_length_le h'] at hz; cases hz
    have h12 := hlt
    rw [hZ] at h12
    have h1 : i < items.size := by omega
    have h2 : i < items2.size := by omega
    rw [List.drop_eq_getElem_cons hlt] at hz
    injection hz with hyx hrest
    have hy : y = items[i] := by have := congrArg Prod.fst hyx; simpa using this
    have hx : x = items2[i] := by have := congrArg Prod.snd hyx; simpa using this
    subst hy hx
    refine wpAny_bind (wpAny_mono (turn i h1 h2 s' hI) (fun r s2 q2 => ?_) fun _ _ x => x)
    obtain ⟨hr, q2⟩ := q2
    cases he : e i with
    | true =>
      rw [he] at hr
      subst hr
      wp_walk
      refine ⟨rfl, i + 1, hrest, by omega, fun j hj' => ?_, q2⟩
      rcases Nat.lt_or_ge j i with lt | ge
      · exact hj j lt
      · rw [show j = i by omega]; exact he
    | false =>
      rw [he] at hr
      subst hr
      wp_walk
      have hR := fin s2 q2
      rw [not_all (by omega) he, Bool.false_and] at hR
      exact hR
  case fin =>
    rintro ⟨b1, b2⟩ s' ⟨hb', i, hz, hi, hj, hI⟩
    simp only at hb'
    subst hb'
    have hge : min items.size items2.size ≤ i := by
      rcases Nat.lt_or_ge i (items.toList.zip items2.toList).length with h' | h'
      · rw [List.drop_eq_getElem_cons h'] at hz; cases hz
      · exact hZ ▸ h'
    have hi' : i = min items.size items2.size := by omega
    have hR := fin s' hI
    rw [all_of (hi' ▸ hj), Bool.true_and] at hR
    wp_walk
    simp only [Builtin.Tuple.tupleCompareSizes]
    have ed : (items.size == items2.size) = decide (items.size = items2.size) := by
      rw [Bool.eq_iff_iff]
      simp
    rw [ed]
    exact hR
  case h =>
    exact ⟨rfl, 0, rfl, Nat.zero_le _, (fun _ h => absurd h (Nat.not_lt_zero _)), h0⟩
end
section
variable {prog : Program} {w : World} {A : Around} {E : Value → Shared → Prop} {s : Shared}
theorem rc_listB {l b : Addr} {N : Nat} {e : Nat → Bool} {Q : Value → Shared → Prop} (hu : A.units < cLine) (I : Shared → Prop) (hl : ListB prog w A E l b N e I)
    (fin : ∀ s, I s → Q (.bool ((List.range N).all e)) s) (h : I s) : wpAny (model prog w) A (richCompare .Eq (.ref l) (.ref b)) Q E s := by
  obtain ⟨items, items2, n, n2, hl1, hb1, _, _, _⟩ := hl _ h
  refine wpAny_richCompare_same_room (op := .Eq) ⟨_, hl1, rfl⟩ ⟨_, hb1, rfl⟩ F.slot_list_eq (call_here F.slot_list_eq ⟨_, hl1, rfl⟩ F.entry_list_eq (F.args_list_eq_2 _ _) ?_) hu
  exact list_eqB (R := wants (fun v s' => v ≠ .notImplemented ∧ Q v s') E) l b N e I hl (fun s' q => ⟨(fun x => nomatch x), fin s' q⟩) h
theorem rc_tupB {l b : Addr} {items items2 : Array Value} {e : Nat → Bool} {Q : Value → Shared → Prop} (hu : A.units < cLine) (I : Shared → Prop)
    (hl : s.heap.IsTuple l items) (hb : s.heap.IsTuple b items2)
    (turn : ∀ i (h1 : i < items.size) (h2 : i < items2.size) s, I s → wpAny (model prog w) A.in1 (eqBool items[i] items2[i]) (fun r s' => r = e i ∧ I s') E s)
    (fin : ∀ s, I s → Q (.bool ((List.range (min items.size items2.size)).all e && decide (items.size = items2.size))) s) (h : I s) : wpAny (model prog w) A (richCompare .Eq (.ref l) (.ref b)) Q E s := by
  obtain ⟨⟨cls, dd, data, sl⟩, ho, hc, n, hd⟩ := id hl
  obtain ⟨⟨cls2, dd2, data2, sl2⟩, ho2, hc2, n2, hd2⟩ := id hb
  simp only at hc hd hc2 hd2
  subst hc hd hc2 hd2
  refine wpAny_richCompare_same_room (op := .Eq) ⟨_, ho, rfl⟩ ⟨_, ho2, rfl⟩ F.slot_tuple_eq (call_here F.slot_tuple_eq ⟨_, ho, rfl⟩ F.entry_tuple_eq (F.args_tuple_eq_2 _ _) ?_) hu
  exact tuple_eqB (R := wants (fun v s' => v ≠ .notImplemented ∧ Q v s') E) l b items items2 n n2 dd dd2 sl sl2 e I turn (fun s' q => ⟨(fun x => nomatch x), fin s' q⟩) ho ho2 h
end
/-- how two values compare, by the abstract heap -/
abbrev EqvB := V → V → Bool → Hp → Prop
def MonB (D : EqvB) : Prop := ∀ x y b H H', Ext H H' → D x y b H → D x y b H'
def EqB (X : Cx) (n : Nat) (D : EqvB) : Prop :=
  ∀ (A : Around) (pins : List (Addr × Obj)) (s : Shared) (σ : L2.St) (H : Hp) (x y : V) (b : Bool) (u v : Value), L2.Sub X n A → Inv X pins σ H s → RelV x u → RelV y v → D x y b H →
    wpAny (model X.prog X.w) A (eqBool u v) (fun r s' => r = b ∧ ∃ H', Inv X pins σ H' s' ∧ Ext H H') X.xe s
def RcB (X : Cx) (n : Nat) (D : EqvB) : Prop :=
  ∀ (A : Around) (pins : List (Addr × Obj)) (s : Shared) (σ : L2.St) (H : Hp) (x y : V) (b : Bool) (u v : Value), L2.Sub X n A → Inv X pins σ H s → RelV x u → RelV y v → D x y b H →
    wpAny (model X.prog X.w) A (richCompare .Eq u v) (fun r s' => r = .bool b ∧ ∃ H', Inv X pins σ H' s' ∧ Ext H H') X.xe s
section
variable {X : Cx} {n m : Nat} {D D' : EqvB}
theorem EqB.mono (h : EqB X n D) (hn : n ≤ m) : EqB X m D := fun A pins s σ H x y b u v sb => h A pins s σ H x y b u v (sb.mono hn)
theorem EqB.or (h : EqB X n D) (h' : EqB X n D') : EqB X n (fun x y b H => D x y b H ∨ D' x y b H) := fun A pins s σ H x y b u v sb I rx ry d => by
  rcases d with d | d
  · exact h A pins s σ H x y b u v sb I rx ry d
  · exact h' A pins s σ H x y b u v sb I rx ry d
theorem MonB.or (h : MonB D) (h' : MonB D') : MonB (fun x y b H => D x y b H ∨ D' x y b H) := fun x y b H H' e d => d.elim (fun d => .inl (h x y b H H' e d)) fun d => .inr (h' x y b H H' e d)
def DFlatB : EqvB := fun x y b _ => flatV x = true ∧ flatV y = true ∧ eqV x y = b
theorem monB_flat : MonB DFlatB := fun _ _ _ _ _ _ d => d
theorem eqB_flat : EqB X 0 DFlatB := by
  intro A pins s σ H x y b u v sb I rx ry d
  obtain ⟨fx, fy, e⟩ := d
  have q := eqAt_V (A := A) (s := s) rx ry fx fy
  rw [e] at q
  exact q X.prog X.w X.xe _ ⟨rfl, H, I, Ext.rfl'⟩
/-- item by item, as far as both go -/
def PrsB (D : EqvB) (xs ys : List V) (e : Nat → Bool) (H : Hp) : Prop := ∀ (i : Nat) x y, xs[i]? = some x → ys[i]? = some y → D x y (e i) H
theorem PrsB.mon (hD : MonB D) {xs ys : List V} {e : Nat → Bool} {H H' : Hp} (x : Ext H H') (p : PrsB D xs ys e H) : PrsB D xs ys e H' := fun i a b h1 h2 => hD a b _ H H' x (p i a b h1 h2)
theorem turnB (hD : MonB D) (h : EqB X n D) {A : Around} (sb : L2.Sub X (n + 1) A) {pins : List (Addr × Obj)} {σ : L2.St} {H : Hp} {xs ys : List V} {e : Nat → Bool} {its its2 : List Value} (p : PrsB D xs ys e H) (r : Vals xs its) (r2 : Vals ys its2)
    (i : Nat) (h1 : i < its.toArray.size) (h2 : i < its2.toArray.size) (s' : Shared) (l : LoopI X pins σ H s') :
    wpAny (model X.prog X.w) A.in1 (eqBool its.toArray[i] its2.toArray[i]) (fun r s2 => r = e i ∧ LoopI X pins σ H s2) X.xe s' := by
  obtain ⟨H1, I1, e1⟩ := l
  have g1 : its[i]? = some its.toArray[i] := by
    have h1' : i < its.length := by simpa using h1
    rw [List.getElem?_eq_getElem h1'] <;> simp
  have g2 : its2[i]? = some its2.toArray[i] := by
    have h2' : i < its2.length := by simpa using h2
    rw [List.getElem?_eq_getElem h2'] <;> simp
  have k1 : i < xs.length := by rw [r.length]; simpa using h1
  have k2 : i < ys.length := by rw [r2.length]; simpa using h2
  obtain ⟨u, hu, ru⟩ := r.get (List.getElem?_eq_getElem k1)
  obtain ⟨v, hv, rv⟩ := r2.get (List.getElem?_eq_getElem k2)
  rw [g1] at hu
  rw [g2] at hv
  rw [Option.some.inj hu, Option.some.inj hv]
  refine wpAny_mono (h A.in1 pins s' σ H1 _ _ _ u v sb.in1 I1 ru rv (hD _ _ _ _ _ e1 (p i _ _ (List.getElem?_eq_getElem k1) (List.getElem?_eq_getElem k2)))) (fun r s2 q => ?_) fun _ _ x => x
  obtain ⟨hr, H2, I2, e2⟩ := q
  exact ⟨hr, H2, I2, e1.trans e2⟩
def DListB (D : EqvB) : EqvB := fun x y b H => ∃ a c xs ys e, x = .ref a ∧ y = .ref c ∧ H a = some (.lst xs) ∧ H c = some (.lst ys) ∧ (xs.length = ys.length → PrsB D xs ys e H) ∧ b = (decide (xs.length = ys.length) && (List.range xs.length).all e)
def DTupB (K : PySem.W.Frag) (D : EqvB) : EqvB := fun x y b H => ∃ a c xs ys e, x = .ref a ∧ y = .ref c ∧ SqT K H a xs ∧ SqT K H c ys ∧ PrsB D xs ys e H ∧ b = ((List.range (min xs.length ys.length)).all e && decide (xs.length = ys.length))
theorem monB_list (hD : MonB D) : MonB (DListB D) := fun x y b H H' x' d => by
  obtain ⟨a, c, xs, ys, e, hx, hy, h1, h2, p, hb⟩ := d
  exact ⟨a, c, xs, ys, e, hx, hy, x' _ _ h1, x' _ _ h2, fun z => (p z).mon hD x', hb⟩
theorem monB_tup {K : PySem.W.Frag} (hD : MonB D) : MonB (DTupB K D) := fun x y b H H' x' d => by
  obtain ⟨a, c, xs, ys, e, hx, hy, h1, h2, p, hb⟩ := d
  exact ⟨a, c, xs, ys, e, hx, hy, h1.ext x', h2.ext x', p.mon hD x', hb⟩
theorem rcB_list (hD : MonB D) (h : EqB X n D) : RcB X (n + 1) (DListB D) := by
  intro A pins s σ H x y b u v sb I rx ry d
  obtain ⟨a, c, xs, ys, e, rfl, rfl, ha, hb, p, rfl⟩ := d
  cases rx
  cases ry
  by_cases hlen : xs.length = ys.length
  · rw [decide_eq_true hlen, Bool.true_and]
    refine rc_listB (N := xs.length) (e := e) sb.room.units0 (fun s' => LoopI X pins σ H s') (fun s' q => ?_) (fun s' q => ⟨rfl, q⟩) ⟨H, I, Ext.rfl'⟩
    obtain ⟨H1, I1, e1⟩ := id q
    obtain ⟨z, its, k, r, e0⟩ := I1.hok a _ (e1 _ _ ha)
    obtain ⟨z2, its2, k2, r2, e2⟩ := I1.hok c _ (e1 _ _ hb)
    refine ⟨its.toArray, its2.toArray, k, k2, e0, e2, by rw [List.size_toArray, ← r.length], by rw [List.size_toArray, ← r2.length, hlen], fun i h1 h2 => ?_⟩
    exact turnB hD h sb (p hlen) r r2 i h1 h2 s' q
  · rw [decide_eq_false hlen, Bool.false_and]
    obtain ⟨z, its, k, r, e0⟩ := I.hok a _ ha
    obtain ⟨z2, its2, k2, r2, e2⟩ := I.hok c _ hb
    have p1 : s.heap.IsList a its.toArray := ⟨_, e0, rfl, _, rfl⟩
    have p2 : s.heap.IsList c its2.toArray := ⟨_, e2, rfl, _, rfl⟩
    refine SeqAt.eq_list_lengthsAt p1 p2 ?_ sb.room.units0 ⟨rfl, H, I, Ext.rfl'⟩
    rw [List.size_toArray, List.size_toArray, ← r.length, ← r2.length]
    simpa using hlen
theorem rcB_tup (hD : MonB D) (h : EqB X n D) : RcB X (n + 1) (DTupB X.K D) := by
  intro A pins s σ H x y b u v sb I rx ry d
  obtain ⟨a, c, xs, ys, e, rfl, rfl, ha, hb, p, rfl⟩ := d
  cases rx
  cases ry
  obtain ⟨its, r, e1, z⟩ := I.tuple ha
  obtain ⟨its2, r2, e2, z2⟩ := I.tuple hb
  refine rc_tupB (e := e) sb.room.units0 (fun s' => LoopI X pins σ H s') e1 e2 (fun i h1 h2 s' q => turnB hD h sb p r r2 i h1 h2 s' q) (fun s' q => ⟨?_, q⟩) ⟨H, I, Ext.rfl'⟩
  rw [List.size_toArray, List.size_toArray, ← r.length, ← r2.length]
/-- instances of the class at C with the text's own == -/
def DInsB (C : Addr) (R : Addr → Addr → Bool → Hp → Prop) : EqvB := fun x y e H => ∃ a b dx dy fs gs, x = .ref a ∧ y = .ref b ∧ H a = some (.ins C dx fs) ∧ H b = some (.ins C dy gs) ∧ R a b e H
theorem monB_ins {C : Addr} {R : Addr → Addr → Bool → Hp → Prop} (hR : ∀ a b e H H', Ext H H' → R a b e H → R a b e H') : MonB (DInsB C R) := fun x y b H H' e d => by
  obtain ⟨a, c, dx, dy, fs, gs, hx, hy, h1, h2, r⟩ := d
  exact ⟨a, c, dx, dy, fs, gs, hx, hy, e _ _ h1, e _ _ h2, hR a c _ H H' e r⟩
def spEqB (R : Addr → Addr → Bool → Hp → Prop) : Sp := fun vs H Q _ => ∃ a b e, vs = [.ref a, .ref b] ∧ R a b e H ∧ ∀ H', Ext H H' → Q (.bl e) H'
theorem rcB_ins {CX : CXT} {C f : Addr} {fd : FuncData} {ps : List Str} {R : Addr → Addr → Bool → Hp → Prop} {E : XK} (F : FnOk X.prog X.w X.K X.mg X.base CX n f fd ps (spEqB R))
    (hs : PySem.W.findIn X.K (.ref C) "__eq__" = some (some (.ref f))) (hf : PySem.W.isFn X.K (.ref f) = true) (hb : Binds X.K fd ps []) (hx : Passes CX X E) : RcB X n (DInsB C R) := by
  intro A pins s σ H x y b u v sb I rx ry d
  obtain ⟨a, c, dx, dy, fs, gs, rfl, rfl, ha, hb', hr⟩ := d
  cases rx
  cases ry
  obtain ⟨mA, J, _⟩ := ins_get I.hok ha
  obtain ⟨mB, J', _⟩ := ins_get I.hok hb'
  obtain ⟨od, J, _⟩ := J.look
  obtain ⟨od', J', _⟩ := J'.look
  obtain ⟨m, hF⟩ := I.fr
  refine PySem.W.cmp_K (op := .Eq) (tb := .ref C) sb.room.units0 hF I.ok.mod.kin J J'.type (by simp [PySem.W.notFirst]) hs hf ?_
  have hsp : spEqB R [.ref a, .ref c] H (fun v H' => v = .bl b ∧ Ext H H') E := ⟨a, c, b, rfl, hr, fun H' e => ⟨rfl, e⟩⟩
  have e0 : Env0 X.prog X.w X.K X.mg X.base A X.stack s H := by
    have e := I.env0
    exact ⟨by rw [sb.fr]; exact e.frames, e.mod, e.bs, e.bsz, e.funs, e.frf, e.hok, e.bare⟩
  have hl := F.len _ _ _ _ hsp
  have r2 : Vals [V.ref a, V.ref c] [Value.ref a, Value.ref c] := .cons rfl (.cons rfl .nil)
  refine wpAny_call (codeAny_mono (F.run A X.stack s H ⟨[.ref a, .ref c], []⟩ [.ref a, .ref c] [.ref a, .ref c] _ E sb.room e0 (by
    have := hb s [.ref a, .ref c] I.kIn (by simpa using hl)
    simpa using this) r2 hsp) fun r s' hq => ?_)
  cases r with
  | error e => exact hx pins σ H s e s' I hq
  | ok fl =>
    cases fl with
    | ret w =>
      obtain ⟨z, H', I', rz, ez, ex⟩ := I.after hq
      subst ez
      obtain rfl : w = Value.bool b := rz
      exact ⟨rfl, H', I', ex⟩
    | next => exact False.elim hq
    | brk => exact False.elim hq
    | cont => exact False.elim hq
theorem RcB.eqB (h : RcB X n D) (hr : ∀ x y b H, D x y b H → ∃ a c, x = .ref a ∧ y = .ref c) (hs : ∀ a b H, D (.ref a) (.ref a) b H → b = true) : EqB X n D := by
  intro A pins s σ H x y b u v sb I rx ry d
  obtain ⟨a, c, rfl, rfl⟩ := hr _ _ _ _ d
  cases rx
  cases ry
  by_cases hab : a = c
  · subst hab
    rw [hs a b H d]
    exact SeqAt.EqAt.same (A := A) (s := s) (.ref a) X.prog X.w X.xe _ ⟨rfl, H, I, Ext.rfl'⟩
  · refine GQ.eqBool_refG hab (wpAny_mono (h A pins s σ H (.ref a) (.ref c) b _ _ sb I rfl rfl d) (fun r s' q => ?_) fun _ _ x => x)
    obtain ⟨hr', q⟩ := q
    exact ⟨b, hr', rfl, q⟩
/-- x == y as an expression -/
def rEqB (D : EqvB) : R2 := fun x y H Q => ∃ b, D x y b H ∧ ∀ H', Ext H H' → Q (.bl b) H'
theorem op_eqB (h : RcB X n D) (hr : Room n X.A) : OpR X (compareOp .Eq) (rEqB D) := by
  intro pins s σ H x y v u Q I rx ry hq
  obtain ⟨b, d, q⟩ := hq
  show wpAny (model X.prog X.w) X.A (richCompare .Eq v u) (EP X pins σ Q) X.xe s
  refine wpAny_mono (h X.A pins s σ H x y b v u ⟨hr, rfl⟩ I rx ry d) (fun r s' z => ?_) fun _ _ x => x
  obtain ⟨hr', H', I', e⟩ := z
  subst hr'
  exact ⟨.bl b, H', I', rfl, q H' e⟩
end
end Mz
set_option Elab.async false
set_option linter.all false
set_option maxRecDepth 100000
set_option maxHeartbeats 4000000
namespace Mz
open PySem PySem.Spec PyProof.Rows L2
/-! sizes -/
theorem mem_putK {kvs : List (Key × V)} {k : Key} {v : V} {kv : Key × V} (h : kv ∈ putK kvs k v) : kv ∈ kvs ∨ kv = (k, v) := by
  unfold putK at h
  split at h
  · obtain ⟨q, hq, e⟩ := List.mem_map.mp h
    by_cases x : q.1 = k
    · rw [if_pos x] at e
      exact .inr (by rw [← e, x])
    · rw [if_neg x] at e
      exact .inl (by rw [← e]; exact hq)
  · rcases List.mem_append.mp h with h | h
    · exact .inl h
    · exact .inr (List.mem_singleton.mp h)
theorem mem_valV {kvs : List (Key × V)} {k : Key} {v : V} (h : valV kvs k = some v) : (k, v) ∈ kvs := by
  unfold valV at h
  obtain ⟨q, hq, e⟩ := Option.map_eq_some_iff.mp h
  have m := List.mem_of_find?_eq_some hq
  have e2 : q.1 = k := of_decide_eq_true (List.find?_some (p := fun kv : Key × V => decide (kv.1 = k)) hq)
  rw [← e2, ← e]
  exact m
/-- sizes for two names -/
structure Szs (y z : Str) (kvs : List (Key × V)) : Prop where
  all : ∀ kv ∈ kvs, ∃ (u : Str) (n : Int), kv = (.inr u, .int n) ∧ (u = y ∨ u = z) ∧ 0 ≤ n
  len : kvs.length ≤ 2
  hy : ∃ n : Int, valV kvs (.inr y) = some (.int n)
  hz : ∃ n : Int, valV kvs (.inr z) = some (.int n)
section
variable {y z : Str} {kvs : List (Key × V)}
theorem Szs.kint (h : Szs y z kvs) : KInt kvs := by
  intro u v e
  obtain ⟨_, n, e2, _⟩ := h.all _ (mem_valV e)
  cases e2
  exact ⟨n, rfl⟩
theorem Szs.good (h : Szs y z kvs) (ry : Rt y) (rz : Rt z) : sizesB kvs = true := by
  show (decide (kvs.length ≤ 2) && kvs.all kvB) = true
  rw [decide_eq_true h.len, Bool.true_and, List.all_eq_true]
  intro kv hkv
  obtain ⟨u, n, rfl, hu, hn⟩ := h.all kv hkv
  show (nameV (.str u) && decide (0 ≤ n)) = true
  have : nameS u = true := by
    rcases hu with rfl | rfl
    · exact ry.1
    · exact rz.1
  rw [show nameV (.str u) = true from this, decide_eq_true hn]
  rfl
theorem Szs.gv {K : PySem.W.Frag} {H : Hp} {a : Addr} (h : Szs y z kvs) (ry : Rt y) (rz : Rt z) (ha : H a = some (.dK kvs)) : Gv K H (.ref a) (some (a, kvs)) := by
  refine .inr ⟨a, kvs, rfl, rfl, ha, fun kv hkv => ?_⟩
  obtain ⟨u, n, rfl, hu, hn⟩ := h.all kv hkv
  have hs : Sm 1000 u := by
    rcases hu with rfl | rfl
    · exact ry.2.mono (by decide)
    · exact rz.2.mono (by decide)
  exact ⟨⟨fun x e => by cases e; exact hs, .int n⟩, fun e => nomatch e⟩
theorem Szs.has (h : Szs y z kvs) {rws : List Row} (hin : ∀ rw ∈ rws, InR [y, z] rw) : hasAll kvs rws = true := by
  unfold hasAll
  rw [List.all_eq_true]
  intro p hp
  obtain ⟨rw, hrw, hp2⟩ := List.mem_flatMap.mp hp
  rcases hin rw hrw p hp2 with e | e
  · rw [decide_eq_true e, Bool.true_or]
  · have : (valV kvs (.inr p.1)).isSome = true := by
      simp only [List.mem_cons, List.not_mem_nil, or_false] at e
      rcases e with e | e
      · obtain ⟨n, hn⟩ := h.hy
        rw [e, hn]
        rfl
      · obtain ⟨n, hn⟩ := h.hz
        rw [e, hn]
        rfl
    rw [this, Bool.or_true]
theorem Szs.val (h : Szs y z kvs) {u : Str} (hu : u ∈ [y, z]) : ∃ n : Int, valV kvs (.inr u) = some (.int n) ∧ 0 ≤ n := by
  have : ∃ n : Int, valV kvs (.inr u) = some (.int n) := by
    simp only [List.mem_cons, List.not_mem_nil, or_false] at hu
    rcases hu with rfl | rfl
    · exact h.hy
    · exact h.hz
  obtain ⟨n, hn⟩ := this
  obtain ⟨_, m, e, _, hm⟩ := h.all _ (mem_valV hn)
  cases e
  exact ⟨n, hn, hm⟩
theorem Szs.put (h : Szs y z kvs) {u : Str} (hu : u ∈ [y, z]) {n : Int} (hn : 0 ≤ n) : Szs y z (putK kvs (.inr u) (.int n)) := by
  refine ⟨fun kv hkv => ?_, ?_, ?_, ?_⟩
  · rcases mem_putK hkv with m | rfl
    · exact h.all kv m
    · refine ⟨u, n, rfl, ?_, hn⟩
      simp only [List.mem_cons, List.not_mem_nil, or_false] at hu
      exact hu
  · obtain ⟨m, hm, _⟩ := h.val hu
    have he : (kvs.any fun kv => decide (kv.1 = Sum.inr u)) = true := by
      rw [valV_any, hm]
      rfl
    unfold putK
    rw [if_pos he, List.length_map]
    exact h.len
  · rw [valV_put]
    split
    · exact ⟨_, rfl⟩
    · exact h.hy
  · rw [valV_put]
    split
    · exact ⟨_, rfl⟩
    · exact h.hz
theorem Szs.two {a c : Int} (ha : 0 ≤ a) (hc : 0 ≤ c) : Szs y z (mergeK [] [(.inr y, .int a), (.inr z, .int c)]) := by
  show Szs y z (putK (putK ([] : List (Key × V)) (.inr y) (.int a)) (.inr z) (.int c))
  refine ⟨fun kv hkv => ?_, ?_, ?_, ?_⟩
  · rcases mem_putK hkv with m | rfl
    · rcases mem_putK m with m | rfl
      · cases m
      · exact ⟨y, a, rfl, .inl rfl, ha⟩
    · exact ⟨z, c, rfl, .inr rfl, hc⟩
  · have h1 := length_putK ([] : List (Key × V)) (.inr y) (.int a)
    have h2 := length_putK (putK ([] : List (Key × V)) (.inr y) (.int a)) (.inr z) (.int c)
    have : ([] : List (Key × V)).length = 0 := rfl
    omega
  · rw [valV_put]
    split
    · exact ⟨_, rfl⟩
    · rw [valV_put, if_pos rfl]
      exact ⟨_, rfl⟩
  · rw [valV_put, if_pos rfl]
    exact ⟨_, rfl⟩
theorem val_two {a c : Int} : valV (mergeK [] [(.inr y, .int a), (.inr z, .int c)]) (.inr z) = some (.int c) ∧ (y ≠ z → valV (mergeK [] [(.inr y, .int a), (.inr z, .int c)]) (.inr y) = some (.int a)) ∧ (y = z → valV (mergeK [] [(.inr y, .int a), (.inr z, .int c)]) (.inr y) = some (.int c)) := by
  show valV (putK (putK ([] : List (Key × V)) (.inr y) (.int a)) (.inr z) (.int c)) _ = _ ∧ (_ → valV (putK (putK ([] : List (Key × V)) (.inr y) (.int a)) (.inr z) (.int c)) _ = _) ∧ (_ → valV (putK (putK ([] : List (Key × V)) (.inr y) (.int a)) (.inr z) (.int c)) _ = _)
  refine ⟨by rw [valV_put, if_pos rfl], fun ne => ?_, fun e => ?_⟩
  · rw [valV_put, if_neg (fun x => ne (Sum.inr.inj x)), valV_put, if_pos rfl]
  · rw [valV_put, if_pos (by rw [e])]
end
theorem mk_setting {K : PySem.W.Frag} {S cS cI gv : Addr} {H : Hp} {y z : Str} {kvs : List (Key × V)} {pg : Int} {R : Addr → Hp → Prop} {E : XK} (h : Szs y z kvs) (ry : Rt y) (rz : Rt z) (hp : 1 ≤ pg) (hg : H gv = some (.dK kvs)) (q : ∀ st H', Same H H' → H st = none → Stg S H' st kvs pg → R st H') :
    ∀ x dx, H x = Option.none → H dx = Option.none → dx ≠ x → spInitS K S cS cI [V.ref x, .ref gv, .int pg] (L2.upd (L2.upd H dx (.own x)) x (.ins S dx [])) (fun v H2 => v = .non ∧ R x H2) E := by
  intro x dx nx ndx _
  have sm : Same H (L2.upd (L2.upd H dx (.own x)) x (.ins S dx [])) := fun b o e => by
    rw [upd_ne (ne_of_none e nx), upd_ne (ne_of_none e ndx)]
    exact e
  refine ⟨x, dx, .ref gv, .int pg, some (gv, kvs), rfl, upd_same, h.gv ry rz (sm _ _ hg), .int pg, .inl ⟨h.good ry rz, pg, rfl, hp, fun H2 k st => ⟨rfl, q x H2 (fun b o e => k b o (ne_of_none e nx) (sm _ _ e)) nx (st gv kvs rfl).stg⟩⟩⟩
theorem fcF_no {rl ul : Addr} : (fcF rl ul).lookup ("holds" : Str) = none := by
  unfold fcF
  rw [lookup_putF, if_neg (by decide +kernel), lookup_putF, if_neg (by decide +kernel)]
  rfl
theorem hold_ok {K : PySem.W.Frag} {F S C cS f st : Addr} {H : Hp} {y z : Str} {kvs : List (Key × V)} {pg : Int} {rws : List Row} {Q : VK} {E : XK} (hf : Fac F C H f rws) (hs : Stg S H st kvs pg) (hz : Szs y z kvs) (pg1 : 1 ≤ pg) (hin : ∀ rw ∈ rws, InR [y, z] rw)
    (q : ∀ H', Same H H' → Q (.bl (rws.all (keepR kvs pg))) H') : spHolds K F S C cS [.ref f, .ref st] H Q E :=
  ⟨f, _, rws, rfl, hf, .inl ⟨st, kvs, pg, rfl, hs, hz.kint, pg1, hz.has hin, q⟩⟩
theorem paired_imp {α β : Type} {F G : α → β → Prop} : ∀ {xs : List α} {ys : List β}, Paired F xs ys → (∀ x y, F x y → G x y) → Paired G xs ys
  | _, _, .nil, _ => .nil
  | _, _, .cons h t, f => .cons (f _ _ h) (paired_imp t f)
theorem paired_snoc {α β : Type} {F : α → β → Prop} {x : α} {y : β} (h : F x y) : ∀ {xs : List α} {ys : List β}, Paired F xs ys → Paired F (xs ++ [x]) (ys ++ [y])
  | _, _, .nil => .cons h .nil
  | _, _, .cons k t => .cons k (paired_snoc h t)
/-! the law's mathematics -/
theorem keep_page {y z : Str} {kvs far : List (Key × V)} {pg : Int} {rw : Row} {p : Str × Int} (hk : Szs y z kvs) (hp : rw.2 = [p]) (hin : InR [y, z] rw) (hf : ∀ u ∈ [y, z], ∀ n : Int, valV kvs (.inr u) = some (.int n) → ∃ t : Int, valV far (.inr u) = some (.int (n + pg * t))) :
    keepR far pg rw = keepR kvs pg rw := by
  have e : ∀ ks, keepR ks pg rw = decide (wtP ks p % pg = 0) := fun ks => by
    unfold keepR
    rw [hp]
  rw [e, e]
  have hi := hin p (by rw [hp]; exact List.mem_singleton.mpr rfl)
  by_cases ez : p.1 = ""
  · have w : ∀ ks, wtP ks p = p.2 := fun ks => by
      unfold wtP wtK
      rw [if_pos ez]
      rfl
    rw [w, w]
  · obtain ⟨n, hn, _⟩ := hk.val (hi.resolve_left ez)
    obtain ⟨t, ht⟩ := hf _ (hi.resolve_left ez) n hn
    have w1 : wtP kvs p = n + p.2 := by
      unfold wtP wtK
      rw [if_neg ez, hn]
      rfl
    have w2 : wtP far p = n + pg * t + p.2 := by
      unfold wtP wtK
      rw [if_neg ez, ht]
      rfl
    rw [w1, w2]
    have : n + pg * t + p.2 = (n + p.2) + pg * t := by omega
    rw [this, Int.add_mul_emod_self_left]
theorem keep_up {y z r : Str} {kvs : List (Key × V)} {pg n : Int} {rw : Row} {p p2 : Str × Int} (hk : Szs y z kvs) (hp : rw.2 = [p, p2]) (hin : InR [y, z] rw) (hr : r ∈ [y, z]) (hnr : r ≠ "") (hn : valV kvs (.inr r) = some (.int n)) (h1 : p2.1 = r) (h2 : p.1 ≠ r) (h : keepR kvs pg rw = true) :
    keepR (putK kvs (.inr r) (.int (n + 1000))) pg rw = true := by
  have e : ∀ ks, keepR ks pg rw = decide (wtP ks p ≤ wtP ks p2) := fun ks => by
    unfold keepR
    rw [hp]
  rw [e] at h ⊢
  have w2 : wtP kvs p2 = n + p2.2 := by
    unfold wtP wtK
    rw [if_neg (by rw [h1]; exact hnr), h1, hn]
    rfl
  have w2' : wtP (putK kvs (.inr r) (.int (n + 1000))) p2 = n + 1000 + p2.2 := by
    unfold wtP wtK
    rw [if_neg (by rw [h1]; exact hnr), h1, valV_put, if_pos rfl]
    rfl
  have w1 : wtP (putK kvs (.inr r) (.int (n + 1000))) p = wtP kvs p := by
    unfold wtP wtK
    rw [valV_put, if_neg (fun x => h2 (Sum.inr.inj x))]
  have := of_decide_eq_true h
  rw [w1, w2']
  exact decide_eq_true (by omega)
end Mz
set_option Elab.async false
set_option linter.all false
set_option maxRecDepth 100000
set_option maxHeartbeats 4000000
namespace Mz
open PySem PySem.Spec PyProof.Rows L2
/-! what facts tell of themselves; == of them -/
theorem RcB.imp {X : Cx} {n : Nat} {D D' : EqvB} (h : RcB X n D) (hd : ∀ x y b H, D' x y b H → D x y b H) : RcB X n D' := fun A pins s σ H x y b u v sb I rx ry d => h A pins s σ H x y b u v sb I rx ry (hd x y b H d)
theorem plF_inj {z y : Str} {k i : Int} (h : plF z k = plF y i) : z = y ∧ k = i := by
  have a := congrArg (fun l : List (Str × V) => l.lookup ("_base" : Str)) h
  have b := congrArg (fun l : List (Str × V) => l.lookup ("_shift" : Str)) h
  simp only [plF_base, plF_shift] at a b
  exact ⟨V.str.inj (Option.some.inj a), V.int.inj (Option.some.inj b)⟩
/-- two places -/
def DPl (C : Addr) : EqvB := fun x y b H => ∃ a c p q, x = .ref a ∧ y = .ref c ∧ PlR C H a p ∧ PlR C H c q ∧ b = decide (p = q)
/-- an item of a row -/
def DIt (C : Addr) : EqvB := fun x y b H => DFlatB x y b H ∨ DPl C x y b H
/-- two rows of facts -/
def DRow (C : Addr) : EqvB := fun x y b H => ∃ a c p q, x = .ref a ∧ y = .ref c ∧ RwP C H a p ∧ RwP C H c q ∧ b = decide (p = q)
/-- two lists of rows -/
def DRows (C : Addr) : EqvB := fun x y b H => ∃ a c as cs ps qs, x = .ref a ∧ y = .ref c ∧ H a = some (.lst (as.map V.ref)) ∧ H c = some (.lst (cs.map V.ref)) ∧ Lk (RwP C H) as ps ∧ Lk (RwP C H) cs qs ∧ b = decide (ps = qs)
theorem plR_fun {C : Addr} {H : Hp} {a : Addr} {p q : Str × Int} (h : PlR C H a p) (k : PlR C H a q) : p = q := by
  obtain ⟨dx, e⟩ := h
  obtain ⟨dy, e2⟩ := k
  rw [e] at e2
  injection e2 with e2
  injection e2 with _ _ e2
  obtain ⟨h1, h2⟩ := plF_inj e2
  exact Prod.ext h1 h2
theorem map_ref_inj : ∀ {as cs : List Addr}, as.map V.ref = cs.map V.ref → as = cs
  | [], [], _ => rfl
  | a :: as, c :: cs, h => by
    rw [List.map_cons, List.map_cons] at h
    injection h with h1 h2
    injection h1 with h1
    rw [h1, map_ref_inj h2]
  | [], _ :: _, h => by simp at h
  | _ :: _, [], h => by simp at h
theorem lk_fun {α β : Type} {R : α → β → Prop} (hR : ∀ a p q, R a p → R a q → p = q) {as : List α} {ps qs : List β} (h : Lk R as ps) (k : Lk R as qs) : ps = qs := by
  induction h generalizing qs with
  | nil => cases k; rfl
  | cons h _ ih =>
    cases k with
    | cons k1 k2 => rw [hR _ _ _ h k1, ih k2]
theorem rwP_fun {C : Addr} {H : Hp} {a : Addr} {p q : Row} (h : RwP C H a p) (k : RwP C H a q) : p = q := by
  obtain ⟨qs, e, l, _⟩ := h
  obtain ⟨rs, e2, l2, _⟩ := k
  rw [e] at e2
  injection e2 with e2
  injection e2 with e2
  injection e2 with e3 e4
  injection e3 with e3
  have := map_ref_inj e4
  subst this
  exact Prod.ext e3 (lk_fun (R := PlR C H) (fun _ _ _ x y => plR_fun x y) l l2)
theorem all_rows {α : Type} [DecidableEq α] {w1 w2 : Str} (ps qs : List α) : ((List.range (min (ps.length + 1) (qs.length + 1))).all (fun i => match i with | 0 => decide (w1 = w2) | j + 1 => decide (ps[j]? = qs[j]?)) && decide (ps.length + 1 = qs.length + 1)) = decide ((w1, ps) = (w2, qs)) := by
  rw [Bool.eq_iff_iff, Bool.and_eq_true, List.all_eq_true, decide_eq_true_eq, decide_eq_true_eq]
  constructor
  · rintro ⟨h, e⟩
    have h0 := h 0 (List.mem_range.mpr (by omega))
    have h0 : w1 = w2 := of_decide_eq_true h0
    rw [h0]
    congr 1
    refine List.ext_getElem? fun j => ?_
    rcases Nat.lt_or_ge j ps.length with lt | ge
    · exact of_decide_eq_true (h (j + 1) (List.mem_range.mpr (by omega)))
    · rw [List.getElem?_eq_none ge, List.getElem?_eq_none (by omega)]
  · intro e
    injection e with e1 e2
    subst e1 e2
    refine ⟨fun i _ => ?_, rfl⟩
    cases i with
    | zero => exact decide_eq_true rfl
    | succ j => exact decide_eq_true rfl
theorem all_lists {α : Type} [DecidableEq α] (ps qs : List α) : (decide (ps.length = qs.length) && (List.range ps.length).all (fun i => decide (ps[i]? = qs[i]?))) = decide (ps = qs) := by
  rw [Bool.eq_iff_iff, Bool.and_eq_true, List.all_eq_true, decide_eq_true_eq, decide_eq_true_eq]
  constructor
  · rintro ⟨e, h⟩
    refine List.ext_getElem? fun j => ?_
    rcases Nat.lt_or_ge j ps.length with lt | ge
    · exact of_decide_eq_true (h j (List.mem_range.mpr lt))
    · rw [List.getElem?_eq_none ge, List.getElem?_eq_none (by omega)]
  · intro e
    subst e
    exact ⟨rfl, fun i _ => decide_eq_true rfl⟩
theorem monB_pl {C : Addr} : MonB (DPl C) := fun x y b H H' e ⟨a, c, p, q, h1, h2, h3, h4, h5⟩ => ⟨a, c, p, q, h1, h2, h3.same e, h4.same e, h5⟩
theorem monB_it {C : Addr} : MonB (DIt C) := monB_flat.or monB_pl
theorem monB_row {C : Addr} : MonB (DRow C) := fun x y b H H' e ⟨a, c, p, q, h1, h2, h3, h4, h5⟩ => ⟨a, c, p, q, h1, h2, h3.same e, h4.same e, h5⟩
section
variable {X : Cx} {C fE : Addr} {fdE : FuncData}
theorem eqB_pl (GE : FnOk X.prog X.w X.K X.mg X.base CX0 1 fE fdE ["self", "other"] (spEq X.K C)) (bE : Binds X.K fdE ["self", "other"] []) (iE : PySem.W.findIn X.K (.ref C) "__eq__" = some (some (.ref fE))) (jE : PySem.W.isFn X.K (.ref fE) = true) : EqB X 1 (DPl C) := by
  have r : RcB X 1 (DInsB C fun a c b H => ∃ p q, PlR C H a p ∧ PlR C H c q ∧ b = decide (p = q)) := by
    refine rcB_ins (CX := CX0) (E := E0) (GE.imp fun vs H Q E h => ?_) iE jE bE (fun _ _ _ _ _ _ _ z => z.elim)
    obtain ⟨a, c, e, rfl, ⟨p, q, hp, hq, rfl⟩, k⟩ := h
    refine ⟨a, p.1, p.2, hp, .inl ⟨c, q.1, q.2, rfl, hq, ?_⟩⟩
    have e : (decide (p.1 = q.1) && decide (p.2 = q.2)) = decide (p = q) := by
      rw [Bool.eq_iff_iff, Bool.and_eq_true, decide_eq_true_eq, decide_eq_true_eq, decide_eq_true_eq]
      exact ⟨fun ⟨x, y⟩ => Prod.ext x y, fun x => by rw [x]; exact ⟨rfl, rfl⟩⟩
    rw [e]
    exact k H Ext.rfl'
  refine (r.imp fun x y b H ⟨a, c, p, q, h1, h2, h3, h4, h5⟩ => ?_).eqB (fun x y b H ⟨a, c, _, _, h1, h2, _⟩ => ⟨a, c, h1, h2⟩) fun a b H ⟨a1, c1, p, q, h1, h2, h3, h4, h5⟩ => ?_
  · obtain ⟨dx, e3⟩ := id h3
    obtain ⟨dy, e4⟩ := id h4
    exact ⟨a, c, dx, dy, _, _, h1, h2, e3, e4, p, q, h3, h4, h5⟩
  · cases h1
    cases h2
    rw [h5, decide_eq_true (plR_fun h3 h4)]
theorem rcB_row (GE : FnOk X.prog X.w X.K X.mg X.base CX0 1 fE fdE ["self", "other"] (spEq X.K C)) (bE : Binds X.K fdE ["self", "other"] []) (iE : PySem.W.findIn X.K (.ref C) "__eq__" = some (some (.ref fE))) (jE : PySem.W.isFn X.K (.ref fE) = true) : RcB X 2 (DRow C) := by
  have it : EqB X 1 (DIt C) := (eqB_flat.mono (Nat.zero_le _)).or (eqB_pl GE bE iE jE)
  refine (rcB_tup monB_it it).imp fun x y b H ⟨a, c, p, q, h1, h2, ⟨as, ha, hp, _⟩, ⟨cs, hc, hq, _⟩, h5⟩ => ?_
  have l1 := hp.length
  have l2 := hq.length
  refine ⟨a, c, _, _, fun i => match i with | 0 => decide (p.1 = q.1) | j + 1 => decide (p.2[j]? = q.2[j]?), h1, h2, SqT.of ha, SqT.of hc, fun i u v hu hv => ?_, ?_⟩
  · cases i with
    | zero =>
      cases hu
      cases hv
      exact .inl ⟨rfl, rfl, rfl⟩
    | succ j =>
      rw [List.getElem?_cons_succ, List.getElem?_map] at hu hv
      obtain ⟨a2, ea, rfl⟩ := Option.map_eq_some_iff.mp hu
      obtain ⟨c2, ec, rfl⟩ := Option.map_eq_some_iff.mp hv
      obtain ⟨p2, hp2, r1⟩ := hp.get ea
      obtain ⟨q2, hq2, r2⟩ := hq.get ec
      refine .inr ⟨a2, c2, p2, q2, rfl, rfl, r1, r2, ?_⟩
      show decide (p.2[j]? = q.2[j]?) = _
      rw [hp2, hq2]
      exact decide_eq_decide.mpr ⟨fun x => Option.some.inj x, fun x => by rw [x]⟩
  · rw [h5]
    have := all_rows (w1 := p.1) (w2 := q.1) p.2 q.2
    simp only [List.length_cons, List.length_map, l1, l2]
    exact this.symm
theorem rcB_rows (GE : FnOk X.prog X.w X.K X.mg X.base CX0 1 fE fdE ["self", "other"] (spEq X.K C)) (bE : Binds X.K fdE ["self", "other"] []) (iE : PySem.W.findIn X.K (.ref C) "__eq__" = some (some (.ref fE))) (jE : PySem.W.isFn X.K (.ref fE) = true) : RcB X 3 (DRows C) := by
  have rw_ : EqB X 2 (DRow C) := (rcB_row GE bE iE jE).eqB (fun x y b H ⟨a, c, _, _, h1, h2, _⟩ => ⟨a, c, h1, h2⟩) fun a b H ⟨a1, c1, p, q, h1, h2, h3, h4, h5⟩ => by
    cases h1
    cases h2
    rw [h5, decide_eq_true (rwP_fun h3 h4)]
  refine (rcB_list monB_row rw_).imp fun x y b H ⟨a, c, as, cs, ps, qs, h1, h2, ha, hc, hp, hq, h5⟩ => ?_
  have l1 := hp.length
  have l2 := hq.length
  refine ⟨a, c, _, _, fun i => decide (ps[i]? = qs[i]?), h1, h2, ha, hc, fun _ i u v hu hv => ?_, ?_⟩
  · rw [List.getElem?_map] at hu hv
    obtain ⟨a2, ea, rfl⟩ := Option.map_eq_some_iff.mp hu
    obtain ⟨c2, ec, rfl⟩ := Option.map_eq_some_iff.mp hv
    obtain ⟨p2, hp2, r1⟩ := hp.get ea
    obtain ⟨q2, hq2, r2⟩ := hq.get ec
    refine ⟨a2, c2, p2, q2, rfl, rfl, r1, r2, ?_⟩
    show decide (ps[i]? = qs[i]?) = _
    rw [hp2, hq2]
    exact decide_eq_decide.mpr ⟨fun x => Option.some.inj x, fun x => by rw [x]⟩
  · rw [h5, List.length_map, List.length_map, l1, l2]
    exact (all_lists ps qs).symm
end
/-! rows(), unknowns(), == -/
def spRowsF (F C : Addr) : Sp := fun vs H Q _ => ∃ (f : Addr) (rws : List Row), vs = [.ref f] ∧ Fac F C H f rws ∧ ∀ (p : Addr) (as : List Addr) (H' : Hp), Same H H' → H p = none → H' p = some (.lst (as.map V.ref)) → Lk (RwP C H') as rws → Q (.ref p) H'
def spUnkF (F C : Addr) : Sp := fun vs H Q _ => ∃ (f : Addr) (rws : List Row), vs = [.ref f] ∧ Fac F C H f rws ∧ ∀ (p : Addr) (ys : List Str) (H' : Hp), Same H H' → H p = none → H' p = some (.lst (ys.map V.str)) → Unk (plsOf rws) ys → ys.length ≤ 2 → Q (.ref p) H'
def spEqF (K : PySem.W.Frag) (F C : Addr) : Sp := fun vs H Q _ => ∃ (f : Addr) (rws : List Row), Fac F C H f rws ∧ ((∃ g rws2, vs = [.ref f, .ref g] ∧ Fac F C H g rws2 ∧ ∀ H', Same H H' → Q (.bl (decide (rws = rws2))) H') ∨ (∃ y, vs = [.ref f, y] ∧ Oty K F H y ∧ Q (.bl false) H))
section
variable {P : Program} {w : World} {K : PySem.W.Frag} {mg : Str → Option Value} {base : Heap}
theorem scRowsF : FnScope ["self"] ["self"] (defScope (inClass sFacts 1)) := ⟨rfl, rfl, rfl, by decide +kernel, rfl, by decide +kernel, by decide +kernel⟩
theorem ok_rowsF {f F C : Addr} {fd : FuncData} (F0 : Fun K "rows" "Facts.rows" (inClass sFacts 1) f fd) (T : Fcl K mg F) (mL : mg "list" = none) : FnOk P w K mg base CX0 1 f fd ["self"] (spRowsF F C) := by
  refine F0.ok scRowsF (fun vs H Q E h => ?_) (fun cdv A outer s H vs Q E hr h => ?_)
  · obtain ⟨f, rws, rfl, _⟩ := h
    rfl
  · obtain ⟨fa, rws, rfl, ⟨dx, rl, ul, as, ys, h1, h2, h3, _⟩, q⟩ := h
    refine ⟨_, pss_one (ps_ret (pe_callTy call_list_of (by rfl) mL (by decide +kernel) (pa_cons (pe_fld (pv 0) rfl) pa_nil))), ?_⟩
    refine ⟨_, rfl, fa, F, dx, _, _, rfl, h1, T.cl, T.nR, fcF_rows, rl, _, rfl, .inl (SqL.of h2), fun p np => ?_⟩
    exact q p as _ (same_nw np) np upd_same (h3.imp fun _ _ x => x.same (same_nw np))
theorem scUnkF : FnScope ["self"] ["self"] (defScope (inClass sFacts 2)) := ⟨rfl, rfl, rfl, by decide +kernel, rfl, by decide +kernel, by decide +kernel⟩
theorem ok_unkF {f F C : Addr} {fd : FuncData} (F0 : Fun K "unknowns" "Facts.unknowns" (inClass sFacts 2) f fd) (T : Fcl K mg F) (mL : mg "list" = none) : FnOk P w K mg base CX0 1 f fd ["self"] (spUnkF F C) := by
  refine F0.ok scUnkF (fun vs H Q E h => ?_) (fun cdv A outer s H vs Q E hr h => ?_)
  · obtain ⟨f, rws, rfl, _⟩ := h
    rfl
  · obtain ⟨fa, rws, rfl, ⟨dx, rl, ul, as, ys, h1, h2, h3, h4, h5, h6, _⟩, q⟩ := h
    refine ⟨_, pss_one (ps_ret (pe_callTy call_list_of (by rfl) mL (by decide +kernel) (pa_cons (pe_fld (pv 0) rfl) pa_nil))), ?_⟩
    refine ⟨_, rfl, fa, F, dx, _, _, rfl, h1, T.cl, T.nU, fcF_unk, ul, _, rfl, .inl (SqL.of h4), fun p np => ?_⟩
    exact q p ys _ (same_nw np) np upd_same h5 h6
theorem scEqF : FnScope ["self", "other"] ["self", "other"] (defScope (inClass sFacts 6)) := ⟨rfl, rfl, rfl, by decide +kernel, rfl, by decide +kernel, by decide +kernel⟩
theorem ok_eqF {f F C fE : Addr} {fd fdE : FuncData} (F0 : Fun K "__eq__" "Facts.__eq__" (inClass sFacts 6) f fd) (T : Fcl K mg F) (Y : Pty K F) (D : Blp mg) (GE : FnOk P w K mg base CX0 1 fE fdE ["self", "other"] (spEq K C)) (bE : Binds K fdE ["self", "other"] []) (iE : PySem.W.findIn K (.ref C) "__eq__" = some (some (.ref fE))) (jE : PySem.W.isFn K (.ref fE) = true) :
    FnOk P w K mg base CX0 4 f fd ["self", "other"] (spEqF K F C) := by
  refine F0.ok scEqF (fun vs H Q E h => ?_) (fun cdv A outer s H vs Q E hr h => ?_)
  · obtain ⟨f, rws, _, ⟨g, rws2, rfl, _⟩ | ⟨y, rfl, _⟩⟩ := h
    · rfl
    · rfl
  · obtain ⟨fa, rws, hf, h⟩ := h
    refine ⟨_, pss_one (ps_ret (pe_and (pe_callB call_isi (by rfl) D.isi (by decide +kernel) (pa_cons (pv 1) (pa_cons (pe_glob (v := .ref F) rfl T.mgF rfl) pa_nil)))
      (pe_one (pe_cmpR (op_eqB (rcB_rows (C := C) GE bE iE jE) hr) (pe_fld (pv 0) rfl) (pe_fld (pv 1) rfl) (nomark _))))), ?_⟩
    obtain ⟨dx, rl, ul, as, ys, h1, h2, h3, _⟩ := id hf
    rcases h with ⟨g, rws2, rfl, hg, q⟩ | ⟨y, rfl, ⟨t, ty, kt⟩, q⟩
    · obtain ⟨dy, rl2, ul2, as2, ys2, e1, e2, e3, _⟩ := id hg
      refine ⟨_, rfl, .ref g, .ref F, .ref F, .ref F, true, rfl, .own F, .base (.ins e1 Y.cl Y.ha Y.hn Y.htk Y.hm), kit_self, true, rfl, iteT ?_⟩
      refine ⟨_, rfl, fa, F, dx, _, _, rfl, h1, T.cl, T.nR, fcF_rows, _, rfl, g, F, dy, _, _, rfl, e1, T.cl, T.nR, fcF_rows, _, ⟨rl, rl2, as, as2, rws, rws2, rfl, rfl, h2, e2, h3, e3, rfl⟩, fun H' s => q H' s⟩
    · exact ⟨_, rfl, y, .ref F, t, .ref F, false, rfl, .own F, ty, kt, false, rfl, iteF q⟩
end
end Mz
set_option Elab.async false
set_option linter.all false
set_option maxRecDepth 100000
set_option maxHeartbeats 4000000
namespace Mz
open PySem PySem.Spec PyProof.Rows L2
theorem ix_tupK {X : Cx} (K : PySem.W.Frag) (hK : X.K = K := by rfl) : IxR X (rIxT K) := by
  subst hK
  exact ix_tup
def spPairs (K : PySem.W.Frag) (C : Addr) : Sp := fun vs H Q _ => ∃ (a : Addr) (rw : Row), vs = [.ref a] ∧ RwP C H a rw ∧ ∀ q H', Same H H' → H q = none → RwD H' q rw → Q (.ref q) H'
def spLKeeps (K : PySem.W.Frag) : Sp := fun vs H Q _ => ∃ (d a : Addr) (kvs : List (Key × V)) (m : Int) (rw : Row), vs = [.ref d, .int m, .ref a] ∧ H d = some (.dK kvs) ∧ KInt kvs ∧ valV kvs (.inr "") = none ∧ 1 ≤ m ∧ m < 10 ^ 15 ∧ RwD H a rw ∧ HasR kvs rw ∧ ∀ H', Same H H' → Q (.bl (keepR kvs m rw)) H'
def spLSizes : Sp := fun vs H Q _ => ∃ (b rl : Addr) (n : Nat) (y z : Str) (m : Int), vs = [.ref b, .ref rl, .int m] ∧ Bx H b n ∧ n ≤ 700000 ∧ H rl = some (.lst [.str y, .str z]) ∧ rl ≠ b ∧ 1 ≤ m ∧ m < 10 ^ 15 ∧
  ∀ (p : Addr) (kvs : List (Key × V)) (H' : Hp), Szs y z kvs → H' p = some (.dK kvs) → H p = none → p ≠ b → Bx H' b (n + 20) → Kp b H H' → Q (.ref p) H'
section
variable {P : Program} {w : World} {K : PySem.W.Frag} {mg : Str → Option Value} {base : Heap}
theorem scPairs : FnScope ["_law_row_here", "_law_place"] ["_law_row_here"] (defScope sPairs) := ⟨rfl, rfl, rfl, by decide +kernel, rfl, by decide +kernel, by decide +kernel⟩
theorem ok_pairs {f C pb gb ps_ gs : Addr} {fd fdb fds : FuncData} (F0 : Fun K "_law_pairs" "_law_pairs" sPairs f fd) (mT : mg "tuple" = none) (Z : Cpl K mg C) (pB : PropOf K C "base" pb gb) (Gb : FnOk P w K mg base CX0 1 gb fdb ["self"] (spBase C)) (bb : Binds K fdb ["self"] [])
    (pS : PropOf K C "shift" ps_ gs) (Gs : FnOk P w K mg base CX0 1 gs fds ["self"] (spShift C)) (bs : Binds K fds ["self"] []) : FnOk P w K mg base CX0 3 f fd ["_law_row_here"] (spPairs K C) := by
  refine F0.ok scPairs (fun vs H Q E h => ?_) (fun cdv A outer s H vs Q E hr h => ?_)
  · obtain ⟨a, rw, rfl, _⟩ := h
    rfl
  · obtain ⟨a, rw, rfl, ⟨qs, ha, hq, ok⟩, q⟩ := h
    have nd := scPairs.nd
    refine ⟨_, (pss_one (ps_ret (pe_callTy call_tuple_of (by rfl) mT (by decide +kernel) (pa_cons (pe_op op_cat (pe_lst (pa_cons (pe_ix ix_tup (pv 0) pe_int (fun _ _ => rfl)) pa_nil)) (pe_lc (own := [("_law_place", 1)]) (g := gName 1) (tt := tYes) rfl nd (pi_tup (pe_slice sl_tup (pv 0) (po_some pe_int) po_none)) (blkOk_by (N := ["_law_row_here", "_law_place"]) (sc := defScope sPairs) (by decide +kernel)) (fun _ _ _ _ _ => (pg_name (i := 1) nd rfl (Or.inl rfl))) (fun _ _ _ _ _ => pts_nil) (fun _ _ _ _ _ => (pe_w (pe_tup (pa_cons (pe_prop (pv 1) Z.cl pB Gb hr bb .nil pass0 rfl) (pa_cons (pe_prop (pv 1) Z.cl pS Gs hr bs .nil pass0 rfl) pa_nil))))))) pa_nil)))), ?_⟩
    have lq := hq.length
    have lok := Row.le ok
    have sb : 1000 ≤ sizeLine := by decide
    have i0 : atI (V.str rw.1 :: qs.map V.ref) (0 : Int) = some (.str rw.1) := atI_nat (xs := V.str rw.1 :: qs.map V.ref) (j := 0) rfl
    refine ⟨_, rfl, a, _, _, _, rfl, rfl, SqT.of ha, i0, (by show 1 ≤ sizeLine; decide), fun p1 n1 => ?_⟩
    have s1 : Same H (upd H p1 (.lst [.str rw.1])) := same_nw n1
    have t1 : upd H p1 (.lst [.str rw.1]) p1 = some (.lst [.str rw.1]) := upd_same
    generalize upd H p1 (.lst [.str rw.1]) = H1 at s1 t1
    have ha1 := s1 _ _ ha
    refine ⟨_, rfl, _, rfl, a, _, rfl, SqT.of ha1, cut1n, fun p2 n2 => ?_⟩
    rw [cut1]
    have s2 : Same H1 (upd H1 p2 (.tup (qs.map V.ref))) := same_nw n2
    have t2 : upd H1 p2 (.tup (qs.map V.ref)) p2 = some (.tup (qs.map V.ref)) := upd_same
    generalize upd H1 p2 (.tup (qs.map V.ref)) = H2 at s2 t2
    have s12 := s1.trans s2
    refine ⟨p2, rfl, ⟨_, SqT.of t2⟩, fun D nD => ?_⟩
    have p2D : p2 ≠ D := ne_of_none t2 nD
    have oldD : ∀ b o, H2 b = some o → b ≠ D := fun b o e => ne_of_none e nD
    refine lc_tup (xs := qs.map V.ref) (fun i H' => (∀ b o, b ≠ D → H2 b = some o → H' b = some o) ∧ ∃ bs_ : List Addr, H' D = some (.lst (bs_.map V.ref)) ∧ Lk (PrD H') bs_ (rw.2.take i))
      ⟨fun b o n e => by rw [upd_ne n]; exact e, [], upd_same, by rw [List.take_zero]; exact .nil⟩ (fun i H' _ h => SqT.of (h.1 _ _ p2D t2)) ?_ ?_
    · rintro i x H3 hx ⟨keep, bs_, hD, hb⟩
      rw [List.getElem?_map] at hx
      obtain ⟨r, hr2, rfl⟩ := Option.map_eq_some_iff.mp hx
      obtain ⟨⟨z, k⟩, hp, dx, pr⟩ := hq.get hr2
      have pr3 := keep _ _ (oldD _ _ (s12 _ _ pr)) (s12 _ _ pr)
      have lb := hb.length
      rw [List.length_take] at lb
      refine ⟨rfl, yesT ?_⟩
      unfold tW
      refine ⟨_, rfl, r, dx, _, rfl, pr3, r, z, k, rfl, ⟨dx, pr3⟩, ?_⟩
      refine ⟨_, rfl, r, dx, _, rfl, pr3, r, z, k, rfl, ⟨dx, pr3⟩, ?_⟩
      refine ⟨(by show 2 ≤ sizeLine; decide), fun t nt => ?_⟩
      have s4 : Same H3 (upd H3 t (.tup [.str z, .int k])) := same_nw nt
      have t4 : upd H3 t (.tup [.str z, .int k]) t = some (.tup [.str z, .int k]) := upd_same
      generalize upd H3 t (.tup [.str z, .int k]) = H4 at s4 t4
      have hD4 := s4 _ _ hD
      have kp : ∀ {b : Addr} {p : Str × Int} (l2 : List V), PrD H4 b p → PrD (upd H4 D (.lst l2)) b p := fun {b p} l2 e => by
        show upd H4 D (.lst l2) b = _
        rw [upd_ne (fun x => by rw [x] at e; have e : H4 D = _ := e; rw [hD4] at e; cases e)]
        exact e
      refine ⟨_, hD4, ?_, fun b o n e => by rw [upd_ne n]; exact s4 _ _ (keep b o n e), bs_ ++ [t], by rw [upd_same, List.map_append]; rfl, ?_⟩
      · rw [List.length_map]
        omega
      · rw [List.take_succ, hp]
        exact (hb.imp fun _ _ x => kp _ (s4 _ _ x)).append (Lk.one (kp _ t4))
    · rintro H3 ⟨keep, bs_, hD, hb⟩
      rw [List.length_map, List.take_of_length_le (by omega)] at hb
      have lb := hb.length
      have s3 : Same H2 H3 := fun b o e => keep b o (oldD b o e) e
      refine ⟨p1, D, _, _, rfl, rfl, s3 _ _ (s2 _ _ t1), hD, ?_, fun p4 n4 => ?_⟩
      · rw [List.length_map]
        show 1 + bs_.length ≤ sizeLine
        omega
      have s4 : Same H3 (upd H3 p4 (.lst ([.str rw.1] ++ bs_.map V.ref))) := same_nw n4
      have t4 : upd H3 p4 (.lst ([.str rw.1] ++ bs_.map V.ref)) p4 = some (.lst ([.str rw.1] ++ bs_.map V.ref)) := upd_same
      generalize upd H3 p4 (.lst ([.str rw.1] ++ bs_.map V.ref)) = H4 at s4 t4
      refine ⟨p4, _, rfl, .inl ⟨SqL.of t4, fun p5 n5 => ?_⟩⟩
      have s5 := same_nw (o := .tup ([.str rw.1] ++ bs_.map V.ref)) n5
      have s04 := s12.trans (s3.trans s4)
      exact q p5 _ (s04.trans s5) (s04.free n5) ⟨bs_, upd_same, hb.imp fun _ _ x => (s4.trans s5) _ _ x, ok⟩
theorem scLKeeps : FnScope ["_law_sizes_here", "_law_much", "_law_row_here", "_law_values", "_law_pair_here"] ["_law_sizes_here", "_law_much", "_law_row_here"] (defScope sLKeeps) := ⟨rfl, rfl, rfl, by decide +kernel, rfl, by decide +kernel, by decide +kernel⟩
theorem ok_lkeeps {f : Addr} {fd : FuncData} (F0 : Fun K "_law_keeps" "_law_keeps" sLKeeps f fd) (B : Blt mg) : FnOk P w K mg base CX0 1 f fd ["_law_sizes_here", "_law_much", "_law_row_here"] (spLKeeps K) := by
  refine F0.ok scLKeeps (fun vs H Q E h => ?_) (fun cdv A outer s H vs Q E hr h => ?_)
  · obtain ⟨d, a, kvs, m, rw, rfl, _⟩ := h
    rfl
  · obtain ⟨d, a, kvs, m, rw, rfl, hd, hk, hno, m1, m2, ⟨qs, ha, hq, ok⟩, hh, q⟩ := h
    have nd := scLKeeps.nd
    have hu := hu_of hr
    refine ⟨_, (pss_cons (ps_setLc (i := 3) (own := [("_law_pair_here", 4)]) (g := gName 4) (tt := tYes) rfl nd rfl rfl (sw_true rfl rfl rfl (by decide +kernel)) (pi_tup (pe_slice sl_tup (pv 2) (po_some pe_int) po_none)) (blkOk_by (N := ["_law_sizes_here", "_law_much", "_law_row_here", "_law_values", "_law_pair_here"]) (sc := defScope sLKeeps) (by decide +kernel)) (fun _ _ _ _ _ => (pg_name (i := 4) nd rfl (Or.inl rfl))) (fun _ _ _ _ _ => pts_nil) (fun _ _ _ _ _ => (pe_op op_add (pe_dget2 hu (pv 0) (pe_ix (ix_tupK K) (pv 4) pe_int (fun _ _ => rfl)) pe_int ⟨rfl, rfl, rfl, rfl⟩) (pe_ix (ix_tupK K) (pv 4) pe_int (fun _ _ => rfl)))))
      (pss_one (ps_ret (pe_ifExp (pt_cmpR op_eq (pe_ix ix_tup (pv 2) pe_int (fun _ _ => rfl)) pe_str (nomark _)) (pe_cmpR op_eq (pe_op op_modN (pe_callTy call_int1 (by rfl) B.int (by decide +kernel) (pa_cons (pe_ix ix_list (pv 3) pe_int (fun _ _ => rfl)) pa_nil)) (pv 1)) pe_int (nomark _)) (pe_cmpR op_le (pe_ix ix_list (pv 3) pe_int (fun _ _ => rfl)) (pe_ix ix_list (pv 3) pe_int (fun _ _ => rfl)) (nomark _)))))), ?_⟩
    have lq := hq.length
    have lok := Row.le ok
    have sb : 1000 ≤ sizeLine := by decide
    refine ⟨_, rfl, _, rfl, a, _, rfl, SqT.of ha, cut1n, fun p2 n2 => ?_⟩
    rw [cut1]
    have s2 : Same H (upd H p2 (.tup (qs.map V.ref))) := same_nw n2
    have t2 : upd H p2 (.tup (qs.map V.ref)) p2 = some (.tup (qs.map V.ref)) := upd_same
    generalize upd H p2 (.tup (qs.map V.ref)) = H2 at s2 t2
    refine ⟨p2, rfl, ⟨_, SqT.of t2⟩, fun D nD => ?_⟩
    have p2D : p2 ≠ D := ne_of_none t2 nD
    have oldD : ∀ b o, H2 b = some o → b ≠ D := fun b o e => ne_of_none e nD
    refine lc_tup (xs := qs.map V.ref) (fun i H' => (∀ b o, b ≠ D → H2 b = some o → H' b = some o) ∧ H' D = some (.lst (((rw.2.take i).map (wtP kvs)).map V.int)))
      ⟨fun b o n e => by rw [upd_ne n]; exact e, upd_same⟩ (fun i H' _ h => SqT.of (h.1 _ _ p2D t2)) ?_ ?_
    · rintro i x H3 hx ⟨keep, hD⟩
      rw [List.getElem?_map] at hx
      obtain ⟨r, hr2, rfl⟩ := Option.map_eq_some_iff.mp hx
      obtain ⟨⟨z, k⟩, hp, pr⟩ := hq.get hr2
      have pr : H r = some (.tup [.str z, .int k]) := pr
      have mem : (z, k) ∈ rw.2 := List.mem_of_getElem? hp
      have pr3 := keep _ _ (oldD _ _ (s2 _ _ pr)) (s2 _ _ pr)
      have hd3 := keep _ _ (oldD _ _ (s2 _ _ hd)) (s2 _ _ hd)
      have hi : i < rw.2.length := (List.getElem?_eq_some_iff.mp hp).1
      have x0 : atI [V.str z, V.int k] (0 : Int) = some (.str z) := rfl
      have x1 : atI [V.str z, V.int k] (1 : Int) = some (.int k) := rfl
      refine ⟨rfl, yesT ?_⟩
      refine ⟨_, rfl, d, rfl, .inl ⟨kvs, .inl hd3⟩, ?_⟩
      refine ⟨_, rfl, r, _, _, _, rfl, rfl, SqT.of pr3, x0, ?_⟩
      refine ⟨_, .inl ⟨kvs, .inr z, .inl hd3, rfl, rfl⟩, ?_⟩
      refine ⟨_, rfl, r, _, _, _, rfl, rfl, SqT.of pr3, x1, ?_⟩
      have ew : ∃ n : Int, (valV kvs (.inr z)).getD (.int 0) = .int n ∧ n + k = wtP kvs (z, k) := by
        by_cases e : z = ""
        · subst e
          refine ⟨0, by rw [hno]; rfl, ?_⟩
          unfold wtP wtK
          rw [if_pos rfl, Int.zero_add]
          rfl
        · obtain ⟨n, hn⟩ := hh (z, k) mem
          unfold wtK at hn
          rw [if_neg e] at hn
          cases ev : valV kvs (.inr z) with
          | none => rw [ev] at hn; cases hn
          | some v =>
            obtain ⟨n2, rfl⟩ := hk _ _ ev
            refine ⟨n2, rfl, ?_⟩
            unfold wtP wtK
            rw [if_neg e, ev]
            rfl
      obtain ⟨n, e1, e2⟩ := ew
      rw [e1]
      refine ⟨_, _, rfl, rfl, _, hD, ?_, fun b o n e => by rw [upd_ne n]; exact keep b o n e, ?_⟩
      · rw [List.length_map, List.length_map, List.length_take]
        omega
      · rw [upd_same, List.take_succ, hp, List.map_append, List.map_append]
        show some (HO.lst (_ ++ [V.int (n + k)])) = some (HO.lst (_ ++ [V.int (wtP kvs (z, k))]))
        rw [e2]
    · rintro H3 ⟨keep, hD⟩
      rw [List.length_map, List.take_of_length_le (by omega)] at hD
      have s3 : Same H H3 := fun b o e => keep b o (oldD b o (s2 _ _ e)) (s2 _ _ e)
      have i0 : atI (V.str rw.1 :: qs.map V.ref) (0 : Int) = some (.str rw.1) := atI_nat (xs := V.str rw.1 :: qs.map V.ref) (j := 0) rfl
      refine ⟨_, rfl, a, _, _, _, rfl, rfl, SqT.of (s3 _ _ ha), i0, rfl, _, rfl, ?_⟩
      obtain ⟨wd, prs⟩ := rw
      obtain ⟨hpl, _⟩ := ok
      have q := q H3 s3
      match prs, hpl, hD, q, lok with
      | [p], hpl, hD, q, _ =>
        have ew : wd = "page" := by
          have hpl : plS wd = some 1 := hpl
          by_cases e1 : wd = "at_most"
          · subst e1
            cases hpl
          · unfold plS at hpl
            rw [if_neg e1] at hpl
            split at hpl
            · assumption
            · cases hpl
        rw [decide_eq_true (by rw [ew])]
        refine iteT ⟨_, rfl, D, _, _, _, rfl, rfl, SqL.of hD, rfl, .inl ⟨_, rfl, _, rfl, _, _, rfl, rfl, by omega, rfl, ?_⟩⟩
        have e : keepR kvs m (wd, [p]) = decide (V.int ((wtP kvs p).fmod m) = V.int 0) := by
          show decide (wtP kvs p % m = 0) = _
          rw [Int.fmod_eq_emod_of_nonneg _ (by omega)]
          exact decide_eq_decide.mpr ⟨fun x => by rw [← x], fun x => V.int.inj x⟩
        rw [← e]
        exact q
      | [p, p2], hpl, hD, q, _ =>
        have ew : ¬ wd = "page" := fun e => by
          subst e
          cases hpl
        rw [decide_eq_false (fun x => ew (V.str.inj x))]
        refine iteF ⟨_, rfl, D, _, _, _, rfl, rfl, SqL.of hD, rfl, _, rfl, D, _, _, _, rfl, rfl, SqL.of hD, rfl, _, _, rfl, rfl, ?_⟩
        exact q
      | [], _, _, _, lok => exact absurd lok.1 (by simp)
      | _ :: _ :: _ :: _, _, _, _, lok =>
        have := lok.2
        simp only [List.length_cons] at this
        omega
theorem scLSizes : FnScope ["_law_box_here", "_law_roots_here", "_law_much", "_law_base", "_law_near"] ["_law_box_here", "_law_roots_here", "_law_much"] (defScope sLSizes) := ⟨rfl, rfl, rfl, by decide +kernel, rfl, by decide +kernel, by decide +kernel⟩
theorem ok_lsizes {f f1 fZ : Addr} {fd fd1 fdZ : FuncData} (F0 : Fun K "_law_sizes" "_law_sizes" sLSizes f fd) (B : Blt mg) (mDct : mg "dict" = none) (T : Tk P w K mg base f1 fd1) (GZ : D1 P w K mg base "_law_size" 2 ["_law_box_here"] spSize6 fZ fdZ) : FnOk P w K mg base CX0 3 f fd ["_law_box_here", "_law_roots_here", "_law_much"] spLSizes := by
  refine F0.ok scLSizes (fun vs H Q E h => ?_) (fun cdv A outer s H vs Q E hr h => ?_)
  · obtain ⟨b, rl, n, y, z, m, rfl, _⟩ := h
    rfl
  · obtain ⟨b, rl, n, y, z, m, rfl, hB, hn, hR, rlb, m1, m2, q⟩ := h
    have nd := scLSizes.nd
    have hr1 : Room 1 _ := hr.mono (by decide)
    refine ⟨_, (pss_cons (ps_set (i := 3) nd rfl (Or.inl rfl) (pe_call GZ.ok hr (by rfl) GZ.m GZ.k GZ.b .nil pass0 (pa_cons (pv 0) pa_nil)))
      (pss_cons (ps_set (i := 3) nd rfl (Or.inl rfl) (pe_ifExp (pt_cmpR op_eq (pe_call T.ok hr1 (by rfl) T.m T.k T.b .nil pass0 (pa_cons (pv 0) (pa_cons pe_int pa_nil))) pe_int (nomark _)) (pe_op op_sub (pv 3) (pe_op op_modN (pe_callTy call_int1 (by rfl) B.int (by decide +kernel) (pa_cons (pv 3) pa_nil)) (pv 2))) (pv 3)))
      (pss_cons (ps_set (i := 4) nd rfl (Or.inl rfl) (pe_ix ix_list (pe_lst (pa_cons (pe_callB (call_max2 rfl) (by rfl) B.max (by decide +kernel) (pa_cons pe_int (pa_cons (pe_op op_sub (pe_op op_add (pv 3) (pe_call T.ok hr1 (by rfl) T.m T.k T.b .nil pass0 (pa_cons (pv 0) (pa_cons pe_int pa_nil)))) pe_int) pa_nil))) (pa_cons (pe_call GZ.ok hr (by rfl) GZ.m GZ.k GZ.b .nil pass0 (pa_cons (pv 0) pa_nil)) pa_nil))) (pe_call T.ok hr1 (by rfl) T.m T.k T.b .nil pass0 (pa_cons (pv 0) (pa_cons pe_int pa_nil))) (fun _ _ => rfl)))
      (pss_one (ps_ret (pe_callTy (call_dictP rfl) (by rfl) mDct (by decide +kernel) (pa_cons (pe_lst (pa_cons (pe_tup (pa_cons (pe_ix ix_list (pv 1) pe_int (fun _ _ => rfl)) (pa_cons (pv 3) pa_nil))) (pa_cons (pe_tup (pa_cons (pe_ix ix_list (pv 1) pe_int (fun _ _ => rfl)) (pa_cons (pv 4) pa_nil))) pa_nil))) pa_nil))))))), ?_⟩
    have sb : 1000 ≤ sizeLine := by decide
    refine ⟨_, rfl, b, n, rfl, hB, by omega, fun sz H1 z0 z1 B1 K1 => ?_⟩
    refine ⟨_, rfl, b, n + 6, 2, rfl, B1, by omega, by decide, by decide, fun r2 H2 _ _ B2 K2 => ⟨rfl, _, rfl, ?_⟩⟩
    refine ite2 (fun _ => ?_) (fun _ => ?_)
    · refine ⟨_, rfl, _, rfl, .inl ⟨_, rfl, _, rfl, _, _, rfl, rfl, by omega, _, _, rfl, rfl, ?_⟩⟩
      have b0 : 0 ≤ sz - sz.fmod m := by
        rw [Int.fmod_eq_emod_of_nonneg _ (by omega)]
        have e := Int.emod_add_mul_ediv sz m
        have p := Int.mul_nonneg (show 0 ≤ m by omega) (Int.ediv_nonneg z0 (show 0 ≤ m by omega))
        generalize m * (sz / m) = u at e p
        omega
      refine ⟨_, rfl, _, rfl, b, n + 7, 9, rfl, B2, by omega, by decide, by decide, fun r3 H3 c0 c1 B3 K3 => ⟨_, _, rfl, rfl, _, _, rfl, rfl, _, _, rfl, ?_⟩⟩
      generalize hcc : (if (sz - sz.fmod m) + r3 - 4 > 0 then (sz - sz.fmod m) + r3 - 4 else 0) = cc
      have cc0 : 0 ≤ cc := by
        rw [← hcc]
        split <;> omega
      refine ⟨_, rfl, b, n + 8, rfl, B3, by omega, fun sz2 H4 z20 z21 B4 K4 => ?_⟩
      refine ⟨(by show 2 ≤ sizeLine; decide), fun lp nlp => ?_⟩
      have s5 : Same H4 (upd H4 lp (.lst [.int cc, .int sz2])) := same_nw nlp
      have t5 : upd H4 lp (.lst [.int cc, .int sz2]) lp = some (.lst [.int cc, .int sz2]) := upd_same
      generalize upd H4 lp (.lst [.int cc, .int sz2]) = H5 at s5 t5
      refine ⟨_, rfl, b, n + 14, 2, rfl, B4.same s5, by omega, by decide, by decide, fun r4 H6 d0 d1 B6 K6 => ?_⟩
      obtain ⟨mv, hmv, hmm⟩ := atI_in (l := [V.int cc, V.int sz2]) (i := r4) d0 d1
      refine ⟨lp, _, _, _, rfl, rfl, SqL.of (K6 _ _ (B4.new nlp) t5), hmv, ?_⟩
      obtain ⟨nr, rfl, nr0⟩ : ∃ nr : Int, mv = .int nr ∧ 0 ≤ nr := by
        simp only [List.mem_cons, List.not_mem_nil, or_false] at hmm
        rcases hmm with rfl | rfl
        · exact ⟨_, rfl, cc0⟩
        · exact ⟨_, rfl, z20⟩
      have K06 : Kp b H H6 := K1.trans (K2.trans (K3.trans (K4.trans ((Kp.same s5).trans K6))))
      have h6 := K06 _ _ rlb hR
      have iy : atI [V.str y, V.str z] (0 : Int) = some (.str y) := rfl
      have iz : atI [V.str y, V.str z] (1 : Int) = some (.str z) := rfl
      refine ⟨_, rfl, rl, _, _, _, rfl, rfl, SqL.of h6, iy, _, rfl, (by show 2 ≤ sizeLine; decide), fun u1 nu1 => ?_⟩
      have s7 : Same H6 (upd H6 u1 (.tup [.str y, .int (sz - sz.fmod m)])) := same_nw nu1
      have t7 : upd H6 u1 (.tup [.str y, .int (sz - sz.fmod m)]) u1 = some (.tup [.str y, .int (sz - sz.fmod m)]) := upd_same
      generalize upd H6 u1 (.tup [.str y, .int (sz - sz.fmod m)]) = H7 at s7 t7
      refine ⟨_, rfl, rl, _, _, _, rfl, rfl, SqL.of (s7 _ _ h6), iz, _, rfl, (by show 2 ≤ sizeLine; decide), fun u2 nu2 => ?_⟩
      have s8 : Same H7 (upd H7 u2 (.tup [.str z, .int nr])) := same_nw nu2
      have t8 : upd H7 u2 (.tup [.str z, .int nr]) u2 = some (.tup [.str z, .int nr]) := upd_same
      generalize upd H7 u2 (.tup [.str z, .int nr]) = H8 at s8 t8
      refine ⟨(by show 2 ≤ sizeLine; decide), fun u3 nu3 => ?_⟩
      have s9 : Same H8 (upd H8 u3 (.lst [.ref u1, .ref u2])) := same_nw nu3
      have t9 : upd H8 u3 (.lst [.ref u1, .ref u2]) u3 = some (.lst [.ref u1, .ref u2]) := upd_same
      generalize upd H8 u3 (.lst [.ref u1, .ref u2]) = H9 at s9 t9
      have s69 := s7.trans (s8.trans s9)
      have K09 : Kp b H H9 := K06.trans (Kp.same s69)
      have B9 := B6.same s69
      refine ⟨u3, [u1, u2], [(.inr y, .int (sz - sz.fmod m)), (.inr z, .int nr)], rfl, SqL.of t9, .cons (SqT.of (s9 _ _ (s8 _ _ t7))) (.cons (SqT.of (s9 _ _ t8)) .nil), fun p np => ?_⟩
      exact q p _ _ (Szs.two b0 nr0) upd_same (K09.free (B9.new np) np) (B9.new np) ((B9.upd np).more (by omega)) (K09.trans (Kp.fresh np))
    · refine ⟨_, rfl, ?_⟩
      have b0 := z0
      refine ⟨_, rfl, _, rfl, b, n + 7, 9, rfl, B2, by omega, by decide, by decide, fun r3 H3 c0 c1 B3 K3 => ⟨_, _, rfl, rfl, _, _, rfl, rfl, _, _, rfl, ?_⟩⟩
      generalize hcc : (if sz + r3 - 4 > 0 then sz + r3 - 4 else 0) = cc
      have cc0 : 0 ≤ cc := by
        rw [← hcc]
        split <;> omega
      refine ⟨_, rfl, b, n + 8, rfl, B3, by omega, fun sz2 H4 z20 z21 B4 K4 => ?_⟩
      refine ⟨(by show 2 ≤ sizeLine; decide), fun lp nlp => ?_⟩
      have s5 : Same H4 (upd H4 lp (.lst [.int cc, .int sz2])) := same_nw nlp
      have t5 : upd H4 lp (.lst [.int cc, .int sz2]) lp = some (.lst [.int cc, .int sz2]) := upd_same
      generalize upd H4 lp (.lst [.int cc, .int sz2]) = H5 at s5 t5
      refine ⟨_, rfl, b, n + 14, 2, rfl, B4.same s5, by omega, by decide, by decide, fun r4 H6 d0 d1 B6 K6 => ?_⟩
      obtain ⟨mv, hmv, hmm⟩ := atI_in (l := [V.int cc, V.int sz2]) (i := r4) d0 d1
      refine ⟨lp, _, _, _, rfl, rfl, SqL.of (K6 _ _ (B4.new nlp) t5), hmv, ?_⟩
      obtain ⟨nr, rfl, nr0⟩ : ∃ nr : Int, mv = .int nr ∧ 0 ≤ nr := by
        simp only [List.mem_cons, List.not_mem_nil, or_false] at hmm
        rcases hmm with rfl | rfl
        · exact ⟨_, rfl, cc0⟩
        · exact ⟨_, rfl, z20⟩
      have K06 : Kp b H H6 := K1.trans (K2.trans (K3.trans (K4.trans ((Kp.same s5).trans K6))))
      have h6 := K06 _ _ rlb hR
      have iy : atI [V.str y, V.str z] (0 : Int) = some (.str y) := rfl
      have iz : atI [V.str y, V.str z] (1 : Int) = some (.str z) := rfl
      refine ⟨_, rfl, rl, _, _, _, rfl, rfl, SqL.of h6, iy, _, rfl, (by show 2 ≤ sizeLine; decide), fun u1 nu1 => ?_⟩
      have s7 : Same H6 (upd H6 u1 (.tup [.str y, .int sz])) := same_nw nu1
      have t7 : upd H6 u1 (.tup [.str y, .int sz]) u1 = some (.tup [.str y, .int sz]) := upd_same
      generalize upd H6 u1 (.tup [.str y, .int sz]) = H7 at s7 t7
      refine ⟨_, rfl, rl, _, _, _, rfl, rfl, SqL.of (s7 _ _ h6), iz, _, rfl, (by show 2 ≤ sizeLine; decide), fun u2 nu2 => ?_⟩
      have s8 : Same H7 (upd H7 u2 (.tup [.str z, .int nr])) := same_nw nu2
      have t8 : upd H7 u2 (.tup [.str z, .int nr]) u2 = some (.tup [.str z, .int nr]) := upd_same
      generalize upd H7 u2 (.tup [.str z, .int nr]) = H8 at s8 t8
      refine ⟨(by show 2 ≤ sizeLine; decide), fun u3 nu3 => ?_⟩
      have s9 : Same H8 (upd H8 u3 (.lst [.ref u1, .ref u2])) := same_nw nu3
      have t9 : upd H8 u3 (.lst [.ref u1, .ref u2]) u3 = some (.lst [.ref u1, .ref u2]) := upd_same
      generalize upd H8 u3 (.lst [.ref u1, .ref u2]) = H9 at s9 t9
      have s69 := s7.trans (s8.trans s9)
      have K09 : Kp b H H9 := K06.trans (Kp.same s69)
      have B9 := B6.same s69
      refine ⟨u3, [u1, u2], [(.inr y, .int sz), (.inr z, .int nr)], rfl, SqL.of t9, .cons (SqT.of (s9 _ _ (s8 _ _ t7))) (.cons (SqT.of (s9 _ _ t8)) .nil), fun p np => ?_⟩
      exact q p _ _ (Szs.two b0 nr0) upd_same (K09.free (B9.new np) np) (B9.new np) ((B9.upd np).more (by omega)) (K09.trans (Kp.fresh np))
end
end Mz
set_option Elab.async false
set_option linter.all false
set_option maxRecDepth 100000
set_option maxHeartbeats 4000000
namespace Mz
open PySem PySem.Spec PyProof.Rows L2
/-! rows as data; names ascending are the only ones -/
def prD (p : Str × Int) : PyData := .tuple [.str p.1, .int p.2]
def rwD (rw : Row) : PyData := .tuple (.str rw.1 :: rw.2.map prD)
theorem eqv_pr (p q : Str × Int) : PyData.eqv (prD p) (prD q) = decide (p = q) := by
  show ((p.1 == q.1) && ((p.2 == q.2) && true)) = _
  rw [Bool.and_true, Bool.eq_iff_iff, Bool.and_eq_true, beq_iff_eq, beq_iff_eq, decide_eq_true_eq]
  exact ⟨fun ⟨a, b⟩ => Prod.ext a b, fun e => by rw [e]; exact ⟨rfl, rfl⟩⟩
theorem eqv_map {α : Type} [DecidableEq α] {f : α → PyData} (h : ∀ x y, PyData.eqv (f x) (f y) = decide (x = y)) : ∀ xs ys : List α, PyData.eqvAll (xs.map f) (ys.map f) = decide (xs = ys)
  | [], [] => rfl
  | x :: xs, y :: ys => by
    show (PyData.eqv (f x) (f y) && PyData.eqvAll (xs.map f) (ys.map f)) = _
    rw [h, eqv_map h xs ys, Bool.eq_iff_iff, Bool.and_eq_true, decide_eq_true_eq, decide_eq_true_eq, decide_eq_true_eq, List.cons.injEq]
  | [], _ :: _ => rfl
  | _ :: _, [] => rfl
theorem eqv_rw (p q : Row) : PyData.eqv (rwD p) (rwD q) = decide (p = q) := by
  show ((p.1 == q.1) && PyData.eqvAll (p.2.map prD) (q.2.map prD)) = _
  rw [eqv_map eqv_pr, Bool.eq_iff_iff, Bool.and_eq_true, beq_iff_eq, decide_eq_true_eq, decide_eq_true_eq]
  exact ⟨fun ⟨a, b⟩ => Prod.ext a b, fun e => by rw [e]; exact ⟨rfl, rfl⟩⟩
theorem eqv_rows (ps qs : List Row) : PyData.eqv (.list (ps.map rwD)) (.list (qs.map rwD)) = decide (ps = qs) := eqv_map eqv_rw ps qs
theorem eqv_strs (ps qs : List Str) : PyData.eqv (.list (ps.map PyData.str)) (.list (qs.map PyData.str)) = decide (ps = qs) := eqv_map (fun x y => by
  show (x == y) = _
  rw [Bool.eq_iff_iff, beq_iff_eq, decide_eq_true_eq]) ps qs
theorem dp_prs {K : PySem.W.Frag} {H : Hp} {qs : List Addr} {ps : List (Str × Int)} (h : Lk (PrD H) qs ps) : DpAll K H (qs.map V.ref) (ps.map prD) := by
  induction h with
  | nil => exact .nil
  | cons h _ ih => exact .cons (.tup (SqT.of h) (.cons (.str _) (.cons (.int _) .nil))) ih
theorem RwD.dp {K : PySem.W.Frag} {H : Hp} {a : Addr} {rw : Row} (h : RwD H a rw) : Dp K H (.ref a) (rwD rw) := by
  obtain ⟨qs, h1, h2, _⟩ := h
  exact .tup (SqT.of h1) (.cons (.str _) (dp_prs h2))
theorem dp_rwAll {K : PySem.W.Frag} {H : Hp} {as : List Addr} {rws : List Row} (h : Lk (RwD H) as rws) : DpAll K H (as.map V.ref) (rws.map rwD) := by
  induction h with
  | nil => exact .nil
  | cons h _ ih => exact .cons h.dp ih
theorem dp_rows {K : PySem.W.Frag} {H : Hp} {l : Addr} {as : List Addr} {rws : List Row} (e : H l = some (.lst (as.map V.ref))) (h : Lk (RwD H) as rws) : Dp K H (.ref l) (.list (rws.map rwD)) := .lst (SqL.of e) (dp_rwAll h)
theorem prs_lay : ∀ ps : List (Str × Int), (∀ p ∈ ps, PyData.strOk p.1 = true) → PyData.canLayAll0 (ps.map prD) = true ∧ PyData.depthAll (ps.map prD) ≤ 1
  | [], _ => ⟨rfl, by decide⟩
  | p :: ps, ok => by
    obtain ⟨h1, h2⟩ := prs_lay ps fun y hy => ok y (List.mem_cons_of_mem _ hy)
    have h3 := ok p List.mem_cons_self
    rw [List.map_cons]
    refine ⟨?_, ?_⟩
    · simp [PyData.canLayAll0, PyData.canLay0, prD, h1, h3]
    · simp [PyData.depthAll, PyData.depth, prD]
      omega
theorem wd_ok {rw : Row} (h : RwOk rw) : PyData.strOk rw.1 = true := by
  have h := h.1
  unfold plS at h
  split at h
  · rename_i e
    rw [e]
    decide +kernel
  · split at h
    · rename_i e
      rw [e]
      decide +kernel
    · cases h
theorem rws_lay : ∀ rws : List Row, (∀ rw ∈ rws, RwOk rw) → PyData.canLayAll0 (rws.map rwD) = true ∧ PyData.depthAll (rws.map rwD) ≤ 2
  | [], _ => ⟨rfl, by decide⟩
  | rw :: rws, ok => by
    obtain ⟨h1, h2⟩ := rws_lay rws fun y hy => ok y (List.mem_cons_of_mem _ hy)
    have h3 := ok rw List.mem_cons_self
    obtain ⟨h4, h5⟩ := prs_lay rw.2 fun p hp => (h3.2 p hp).2.1
    have h6 := wd_ok h3
    rw [List.map_cons]
    refine ⟨?_, ?_⟩
    · simp [PyData.canLayAll0, PyData.canLay0, rwD, h1, h4, h6]
    · simp [PyData.depthAll, PyData.depth, rwD]
      omega
theorem shaped_rows {rws : List Row} (ok : ∀ rw ∈ rws, RwOk rw) : SeqAt.shaped (.list (rws.map rwD)) = true := by
  obtain ⟨h1, h2⟩ := rws_lay rws ok
  unfold SeqAt.shaped
  simp [PyData.canLay0, PyData.depth, h1]
  omega
theorem RwD.ok {H : Hp} {as : List Addr} {rws : List Row} (h : Lk (RwD H) as rws) : ∀ rw ∈ rws, RwOk rw := fun rw hrw => by
  obtain ⟨_, _, _, _, _, k⟩ := h.memR hrw
  exact k
theorem RwD.upd {H : Hp} {D a : Addr} {l l' : List V} {rw : Row} (hD : H D = some (.lst l)) (h : RwD H a rw) : RwD (L2.upd H D (.lst l')) a rw := by
  have ne : ∀ {q : Addr} {o : HO}, H q = some o → (∀ l, o ≠ .lst l) → L2.upd H D (.lst l') q = some o := fun {q o} e d => by
    rw [upd_ne (fun x => by rw [x, hD] at e; exact d _ (Option.some.inj e).symm)]
    exact e
  obtain ⟨qs, h1, h2, h3⟩ := h
  exact ⟨qs, ne h1 (fun _ e => nomatch e), h2.imp fun q p e => ne e (fun _ e => nomatch e), h3⟩
/-! names -/
theorem lt_is : ∀ a b : List Nat, ltCps a b = decide (a < b)
  | [], [] => (decide_eq_false (List.not_lt_nil [])).symm
  | [], _ :: _ => (decide_eq_true (List.nil_lt_cons _ _)).symm
  | _ :: _, [] => (decide_eq_false (List.not_lt_nil _)).symm
  | a :: r, b :: t => by
    show (decide (a < b) || (a == b && ltCps r t)) = _
    rw [lt_is r t, Bool.eq_iff_iff, Bool.or_eq_true, Bool.and_eq_true, decide_eq_true_eq, decide_eq_true_eq, decide_eq_true_eq, beq_iff_eq, List.cons_lt_cons_iff]
theorem rise_le : ∀ (p : Str) (l : List Str), risingS p l = true → ∀ x ∈ l, p.cps.toList ≤ x.cps.toList
  | _, [], _, _, h => nomatch h
  | p, y :: r, hr, x, hx => by
    have hr : (!ltCps y.cps.toList p.cps.toList && risingS y r) = true := hr
    obtain ⟨h1, h2⟩ := Bool.and_eq_true_iff.mp hr
    have h3 : p.cps.toList ≤ y.cps.toList := by
      rw [lt_is] at h1
      have : ¬ y.cps.toList < p.cps.toList := by simpa using h1
      exact List.not_lt.mp this
    rcases List.mem_cons.mp hx with rfl | hx
    · exact h3
    · exact List.le_trans h3 (rise_le y r h2 x hx)
theorem sorted_only : ∀ (xs ys : List Str), sortedS xs = true → sortedS ys = true → xs.Nodup → ys.Nodup → (∀ z, z ∈ xs ↔ z ∈ ys) → xs = ys
  | [], [], _, _, _, _, _ => rfl
  | [], y :: _, _, _, _, _, h => nomatch (h y).mpr List.mem_cons_self
  | x :: _, [], _, _, _, _, h => nomatch (h x).mp List.mem_cons_self
  | x :: xs, y :: ys, hx, hy, nx, ny, h => by
    have e : x = y := by
      have a : x.cps.toList ≤ y.cps.toList := by
        rcases List.mem_cons.mp ((h y).mpr List.mem_cons_self) with e | m
        · rw [e]; exact List.le_refl _
        · exact rise_le x xs hx y m
      have b : y.cps.toList ≤ x.cps.toList := by
        rcases List.mem_cons.mp ((h x).mp List.mem_cons_self) with e | m
        · rw [e]; exact List.le_refl _
        · exact rise_le y ys hy x m
      exact str_ext (List.le_antisymm a b)
    subst e
    obtain ⟨n1, n2⟩ := List.nodup_cons.mp nx
    obtain ⟨n3, n4⟩ := List.nodup_cons.mp ny
    have tail : ∀ {p : Str} {l : List Str}, risingS p l = true → sortedS l = true := fun {p l} hr => by
      cases l with
      | nil => rfl
      | cons z r => exact (Bool.and_eq_true_iff.mp hr).2
    rw [sorted_only xs ys (tail hx) (tail hy) n2 n4 fun z => ?_]
    constructor
    · intro m
      rcases List.mem_cons.mp ((h z).mp (List.mem_cons_of_mem _ m)) with e | m2
      · exact absurd (e ▸ m) n1
      · exact m2
    · intro m
      rcases List.mem_cons.mp ((h z).mpr (List.mem_cons_of_mem _ m)) with e | m2
      · exact absurd (e ▸ m) n3
      · exact m2
theorem Unk.only {ps : List (Str × Int)} {xs ys : List Str} (h : Unk ps xs) (k : Unk ps ys) : xs = ys := sorted_only xs ys h.1 k.1 h.2.1 k.2.1 fun z => (h.2.2 z).trans (k.2.2 z).symm
theorem Unk.ok {rws : List Row} {ys : List Str} (h : Unk (plsOf rws) ys) (ok : ∀ rw ∈ rws, RwOk rw) : ∀ y ∈ ys, PyData.strOk y = true := fun y hy => by
  obtain ⟨_, k, hk⟩ := (h.2.2 y).mp hy
  obtain ⟨rw, hrw, hp⟩ := List.mem_flatMap.mp hk
  exact ((ok rw hrw).2 _ hp).2.1
theorem same_of8 {b : Addr} {H H' : Hp} (h : H b = none) (k : Kp b H H') : Same H H' := fun q o e => k q o (ne_of_none e h) e
theorem Lk.rev {α β : Type} {R : α → β → Prop} {xs : List α} {ys : List β} (h : Lk R xs ys) : Lk R xs.reverse ys.reverse := by
  induction h with
  | nil => exact .nil
  | cons h _ ih =>
    rw [List.reverse_cons, List.reverse_cons]
    exact ih.append (Lk.one h)
theorem dp_bls {K : PySem.W.Frag} {H : Hp} {p : Addr} {a b c : Bool} (h : H p = some (.lst [.bl a, .bl b, .bl c])) : Dp K H (.ref p) (.list [.bool a, .bool b, .bool c]) :=
  .lst (SqL.of h) (.cons (.bl a) (.cons (.bl b) (.cons (.bl c) .nil)))
theorem ne_bls (x : Bool) : (!PyData.eqv (.list [.bool x, .bool x, .bool (!x)]) (.list [.bool x, .bool x, .bool (!x)])) = false := by cases x <;> rfl
theorem fcF_no2 {rl ul : Addr} : (fcF rl ul).lookup ("rows" : Str) = none ∧ (fcF rl ul).lookup ("unknowns" : Str) = none := by
  unfold fcF
  constructor <;>
  · rw [lookup_putF, if_neg (by decide +kernel), lookup_putF, if_neg (by decide +kernel)]
    rfl
end Mz
set_option Elab.async false
set_option linter.all false
set_option maxRecDepth 100000
set_option maxHeartbeats 4000000
/-! sum(lists, start=[]) -/
namespace PySem
open Sem (wp)
section
variable {prog : Program} {w : World} {A : Around} {R : Result → Shared → Prop} {I : Addr} {fp wr : List Addr} {n : Nat} {P : Nat → Value → Prop} {St : Nat → Heap → Prop}
/-- what stood ahead of it stands -/
def KpH (wr : List Addr) (S : Addr) (h h' : Heap) : Prop := ∀ b o, b ∉ wr → b ≠ S → h.get? b = some o → h'.get? b = some o
theorem codeAny_sum_lists (W : Walks prog w A.in1 I fp wr n P St) (h0 : Heap) (z : Addr) (val : Nat → List Value) (S : Addr) (hSf : S ∉ fp) (hIw : ∀ i h, St i h → ∀ b ∈ wr, b < h.objs.size)
    (hval : ∀ i v, P i v → ∃ b k, v = .ref b ∧ b ∉ wr ∧ b ≠ S ∧ IsL h0 b (val i).toArray k) (hsz : ((List.range n).flatMap val).length ≤ sizeLine) :
    ∀ (k i : Nat) (s : Shared) (T : Addr) (c cT : Nat), n - i = k → i ≤ n → St i s.heap → KpH wr S h0 s.heap → s.heap.get? S = some { cls := .type "list", dict := none, data := .seq #[.ref T] c, slots := #[] } →
    IsL s.heap T ((List.range i).flatMap val).toArray cT → T ≠ S → T ∉ wr → ((i = 0 ∧ T = z) ∨ (i ≠ 0 ∧ @LT.lt Nat _ S T)) →
    (∀ h' tk T cT, KpH wr S h0 h' → IsL h' T ((List.range n).flatMap val).toArray cT → ((n = 0 ∧ T = z) ∨ (n ≠ 0 ∧ @LT.lt Nat _ S T)) → R (.ok (.ret (.ref T))) { s with heap := h', toks := tk }) →
    codeAny (model prog w) A (.builtin "sum.loop" ⟨[.ref I, .ref S, rawInt 2, rawInt 0], []⟩) R s := by
  have hSw : S ∉ wr := fun h => hSf (W.sub _ h)
  intro k
  induction k with
  | zero =>
    intro i s T c cT hk hi hst hkp hS hT hTS hTw hTz hR
    have hin : i = n := by omega
    subst hin
    refine codeAny_builtin F.entry_sum_loop ?_
    rw [Around.under_plainId F.plain_sum_loop _]
    show wpAny _ A.in1 (seqItems? (.ref S) >>= _) _ _ s
    refine wpAny_bind (wpAny_seqItems hS rfl ?_)
    show wpAny _ A.in1 (tryCatch (pyNext (.ref I)) _ >>= _) _ _ s
    refine wpAny_bind (wpAny_tryCatch (W.done s _ _ hst fun h' tk hk' => ?_))
    exact wpAny_pure (hR h' tk T cT (fun b o hb hbS e => hk' b o hb (hkp b o hb hbS e)) (hk' T _ hTw hT) hTz)
  | succ k ih =>
    intro i s T c cT hk hi hst hkp hS hT hTS hTw hTz hR
    have hlt : i < n := by omega
    refine codeAny_builtin F.entry_sum_loop ?_
    rw [Around.under_plainId F.plain_sum_loop _]
    show wpAny _ A.in1 (seqItems? (.ref S) >>= _) _ _ s
    refine wpAny_bind (wpAny_seqItems hS rfl ?_)
    show wpAny _ A.in1 (tryCatch (pyNext (.ref I)) _ >>= _) _ _ s
    refine wpAny_bind (wpAny_tryCatch (W.item i s _ _ hlt hst fun v h' tk hP hst' hk' => ?_))
    obtain ⟨b, kb, rfl, hbw, hbS, hb⟩ := hval i v hP
    have hS' := hk' S _ hSw hS
    have hT' := hk' T _ hTw hT
    have hb' := hk' b _ hbw (hkp b _ hbw hbS hb)
    have hpre : (List.range (i + 1)).flatMap val = (List.range i).flatMap val ++ val i := by
      rw [List.range_succ, List.flatMap_append]
      simp
    have hlen : ((List.range i).flatMap val).length + (val i).length ≤ sizeLine := by
      have e : (List.range n).flatMap val = (List.range (i + 1)).flatMap val ++ ((List.range n).drop (i + 1)).flatMap val := by
        rw [← List.flatMap_append]
        congr 1
        rw [show List.range (i + 1) = (List.range n).take (i + 1) by rw [List.take_range]; congr 1; omega]
        rw [List.take_append_drop]
      rw [e, List.length_append, hpre, List.length_append] at hsz
      omega
    show wpAny _ A.in1 ((holding [Value.ref b] (binaryOp .Add (.ref T) (.ref b))).attempt >>= _) _ _ _
    refine wpAny_bind (wpAny_attempt (wpAny_holding (PySem.P.add_list hT' hb' ?_ (by rw [List.size_toArray, List.size_toArray]; exact hlen))))
    have ea : ((List.range i).flatMap val).toArray ++ (val i).toArray = ((List.range (i + 1)).flatMap val).toArray := by
      rw [hpre]
      simp
    rw [ea]
    generalize hN : h'.objs.size = N
    have pushed : ∀ b o, h'.get? b = some o → (h'.push { cls := .type "list", data := .seq ((List.range (i + 1)).flatMap val).toArray }).get? b = some o := fun b o e => Heap.get?_push_of_some _ e
    have hN2 : (h'.push { cls := .type "list", data := .seq ((List.range (i + 1)).flatMap val).toArray }).get? N = some { cls := .type "list", data := .seq ((List.range (i + 1)).flatMap val).toArray } := by
      rw [← hN]
      exact Heap.get?_push_size _ rfl
    have sz2 : (h'.push { cls := .type "list", data := .seq ((List.range (i + 1)).flatMap val).toArray }).objs.size = N + 1 := by
      rw [Heap.size_push, hN]
    have NS : N ≠ S := fun x => by
      have e : @LT.lt Nat _ S h'.objs.size := Heap.lt_size hS'
      have x : @Eq Nat N S := x
      omega
    have Nw : N ∉ wr := fun x => by
      have e : @LT.lt Nat _ N h'.objs.size := hIw _ _ hst' _ x
      omega
    have N0 : @LT.lt Nat _ S N := by
      have e : @LT.lt Nat _ S h'.objs.size := Heap.lt_size hS'
      omega
    generalize h'.push { cls := .type "list", data := .seq ((List.range (i + 1)).flatMap val).toArray } = h2 at pushed hN2 sz2
    have hS2 := pushed _ _ hS'
    show wpAny _ A.in1 (updateSeq S (fun _ => #[.ref N]) >>= _) _ _ _
    refine wpAny_bind ?_
    refine wpAny_updateSeq hS2 rfl ?_
    have hS3 := Heap.get?_update_self (Obj.mapSeq fun _ => #[Value.ref N]) hS2 rfl
    refine wpAny_bind (wpAny_letGo ?_)
    refine wpAny_bind ?_
    refine wpAny_updateSeq hS3 rfl (wpAny_pure ⟨plainId_quiet F.plain_sum_loop _, ih (i + 1) _ N _ 0 (by omega) hlt (W.frame _ _ _ hst' fun b hb o e => ?_) (fun b o hbw hbS e => ?_) (Heap.get?_update_self _ hS3 rfl) ?_ NS Nw (.inr ⟨Nat.succ_ne_zero _, N0⟩) fun h'' tk'' T'' cT'' hk'' hT'' hz'' => ?_⟩)
    · have e2 := pushed b o e
      exact (Heap.get?_update_other _ _ (fun h : S = b => hSf (by rw [h]; exact hb))).trans ((Heap.get?_update_other _ _ (fun h : S = b => hSf (by rw [h]; exact hb))).trans e2)
    · have e2 := pushed b o (hk' b o hbw (hkp b o hbw hbS e))
      exact (Heap.get?_update_other _ _ (Ne.symm hbS)).trans ((Heap.get?_update_other _ _ (Ne.symm hbS)).trans e2)
    · exact (Heap.get?_update_other _ _ (Ne.symm NS)).trans ((Heap.get?_update_other _ _ (Ne.symm NS)).trans hN2)
    · exact hR h'' tk'' T'' cT'' hk'' hT'' hz''
theorem args_sumKw (a z : Value) : argsOk "sum" ⟨[a], [(Str.ofString "start", z)]⟩ := by unfold argsOk; kernel_rfl
end
section
variable {prog : Program} {w : World} {A : Around} {E : Value → Shared → Prop} {s : Shared}
theorem call_function_treeK {id : String} {b : Builtin} {args : List Value} {kw : List (Str × Value)} {Q : Value → Shared → Prop} (hk : builtinKind id = none) (hp : plainId id = true)
    (hb : entryFor table id = some b) (ha : argsOk id ⟨args, kw⟩)
    (hc : wpAny (model prog w) A.in1 (b ⟨args, kw⟩) (fun fin s' => match fin with
      | .done f => (match (Except.ok f : Result) with | .ok (.ret v) => Q v s' | .ok _ => False | .error e => E e s')
      | .again c' => c'.quiet = true ∧ codeAny (model prog w) A c' (fun r s' => match r with | .ok (.ret v) => Q v s' | .ok _ => False | .error e => E e s') s') E s) :
    wpAny (model prog w) A (call (.builtin id) args kw) Q E s := by
  refine wpAny_call (codeAny_call_builtin hp hb ?_)
  simp only [checkBuiltinCall, hk]
  cases hsig : Manifest.signature? id with
  | none => exact wpAny_pure hc
  | some sig =>
    simp only [argsOk, hsig] at ha
    have h2 : Bind.checkArgs id sig ⟨args, kw⟩ = pure () := ha
    show wpAny _ A.in1 (Bind.checkArgs id sig ⟨args, kw⟩) _ _ s
    rw [h2]; exact wpAny_pure hc
theorem call_sum_lists {l z : Addr} {items : Array Value} {kz : Nat} {its : List (List Value)} {Q : Value → Shared → Prop} (hh : A.handled = none) (hl : s.heap.IsList l items) (hz : IsL s.heap z #[] kz)
    (hn : its.length = items.size) (hit : ∀ (i : Nat) v xs, items[i]? = some v → its[i]? = some xs → ∃ b k, v = .ref b ∧ IsL s.heap b xs.toArray k) (hsz : its.flatten.length ≤ sizeLine)
    (h : ∀ h' tk T k, (∀ b o, s.heap.get? b = some o → h'.get? b = some o) → IsL h' T its.flatten.toArray k → ((its = [] ∧ T = z) ∨ (its ≠ [] ∧ s.heap.objs.size ≤ T)) → Q (.ref T) { s with heap := h', toks := tk }) :
    wpAny (model prog w) A (call (.builtin "sum") [.ref l] [(Str.ofString "start", .ref z)]) Q E s := by
  have hlt : l < s.heap.objs.size := by obtain ⟨_, e, _⟩ := hl; exact Heap.lt_size e
  refine call_function_treeK F.kind_sum F.plain_sum F.entry_sum (args_sumKw _ _) ?_
  unfold Builtin.«sum»
  simp only [List.length_cons, List.length_nil]
  rw [if_neg (by decide)]
  refine wpAny_bind (wpAny_of_eq (show Builtin.Builtins.bindParams "sum" ["start"] 0 ⟨[], [(Str.ofString "start", .ref z)]⟩ = pure [some (.ref z)] from rfl) ?_)
  refine wpAny_bind (wpAny_pyIter_list hl ?_)
  generalize hIT : ({ cls := .type "list_iterator", data := .fields #[.ref l, .int 0 0] } : Obj) = itO
  have pk : ∀ b o, s.heap.get? b = some o → (s.heap.push itO).get? b = some o := fun b o e => Heap.get?_push_of_some _ e
  have pI : (s.heap.push itO).get? s.heap.objs.size = some itO := by
    rw [← hIT]
    exact Heap.get?_push_size _ rfl
  have p1 : (s.heap.push itO).objs.size = s.heap.objs.size + 1 := Heap.size_push ..
  refine wpAny_bind (wpAny_pure ?_)
  simp only [List.forIn_cons, List.forIn_nil]
  have tz : (({ s with heap := s.heap.push itO } : Shared)).TypeIs (.ref z) "list" := ⟨_, pk _ _ hz, rfl⟩
  refine wpAny_bind (wpAny_bind (wpAny_bind (wpAny_isInstance (T := "list") (b := false) tz (by rw [isSubtype_type]; kernel_rfl) ?_)))
  simp only [Bool.false_eq_true, if_false]
  refine wpAny_pure (wpAny_bind (wpAny_bind (wpAny_isInstance (T := "list") (b := false) tz (by rw [isSubtype_type]; kernel_rfl) ?_)))
  simp only [Bool.false_eq_true, if_false]
  refine wpAny_pure (wpAny_bind (wpAny_bind (wpAny_isInstance (T := "list") (b := false) tz (by rw [isSubtype_type]; kernel_rfl) ?_)))
  simp only [Bool.false_eq_true, if_false]
  refine wpAny_pure (wpAny_pure ?_)
  refine wpAny_bind (wpAny_newObj_type ?_)
  have Iz : z ≠ s.heap.objs.size := Nat.ne_of_lt (Heap.lt_size hz)
  have hval : ∀ i, its.getD i [] = its.getD i [] := fun _ => rfl
  have flat : (List.range items.size).flatMap (fun i => its.getD i []) = its.flatten := by
    rw [← hn]
    have : (List.range its.length).map (fun i => its.getD i []) = its := by
      refine List.ext_getElem (by simp) fun i h1 h2 => ?_
      rw [List.getElem_map, List.getElem_range, List.getD_eq_getElem?_getD, List.getElem?_eq_getElem h2]
      rfl
    rw [List.flatMap_def, this]
  refine wpAny_pure ⟨plainId_quiet F.plain_sum_loop _, codeAny_sum_lists (Walks.list (A := A.in1) hh s.heap.objs.size l (Nat.ne_of_lt hlt) items) (s.heap.push itO) z (fun i => its.getD i []) (s.heap.push itO).objs.size
    (fun x => ?_) (fun i h ⟨st, _⟩ b hb => ?_) (fun i v hv => ?_) (by rw [flat]; exact hsz) items.size 0 _ z 0 kz rfl (Nat.zero_le _) ⟨?_, ?_⟩ (fun b o hb hbS e => ?_) (Heap.get?_push_size _ rfl) ?_ ?_ ?_ (.inl ⟨rfl, rfl⟩) fun h' tk T cT hk hT hTz => ?_⟩
  · rcases List.mem_cons.mp x with e | x
    · rw [p1] at e
      exact absurd e (Nat.succ_ne_self _)
    · rcases List.mem_cons.mp x with e | x
      · rw [p1] at e
        exact absurd e.symm (Nat.ne_of_lt (Nat.lt_succ_of_lt hlt))
      · cases x
  · rcases List.mem_cons.mp hb with rfl | x
    · obtain ⟨_, e, _⟩ := st
      exact Heap.lt_size e
    · cases x
  · have hi : i < items.size := by
      rcases Nat.lt_or_ge i items.size with x | x
      · exact x
      · rw [Array.getElem?_eq_none x] at hv
        cases hv
    have h2 : i < its.length := by omega
    obtain ⟨b, k, rfl, e⟩ := hit i v _ hv (List.getElem?_eq_getElem h2)
    have e1 := pk _ _ e
    have lb : @LT.lt Nat _ b s.heap.objs.size := Heap.lt_size e
    refine ⟨b, k, rfl, fun x => ?_, fun x => ?_, ?_⟩
    · rcases List.mem_cons.mp x with x | x
      · exact absurd x (Nat.ne_of_lt lb)
      · cases x
    · have x : @Eq Nat b (s.heap.push itO).objs.size := x
      omega
    · rw [List.getD_eq_getElem?_getD, List.getElem?_eq_getElem h2]
      exact e1
  · exact ⟨itO, Heap.get?_push_of_some _ pI, by rw [← hIT], by rw [← hIT]; rfl⟩
  · exact (hl.push _).push _
  · exact Heap.get?_push_of_some _ e
  · exact Heap.get?_push_of_some _ (pk _ _ hz)
  · intro x
    have x : @Eq Nat z (s.heap.push itO).objs.size := x
    have lz : @LT.lt Nat _ z s.heap.objs.size := Heap.lt_size hz
    omega
  · intro x
    rcases List.mem_cons.mp x with x | x
    · exact Iz x
    · cases x
  · rw [flat] at hT
    refine h h' tk T cT (fun b o e => hk b o (fun x => ?_) (fun x => ?_) (pk b o e)) hT (hTz.imp (fun ⟨x, y⟩ => ⟨?_, y⟩) fun x => ?_)
    · have lb : @LT.lt Nat _ b s.heap.objs.size := Heap.lt_size e
      rcases List.mem_cons.mp x with x | x
      · exact absurd x (Nat.ne_of_lt lb)
      · cases x
    · have lb : @LT.lt Nat _ b s.heap.objs.size := Heap.lt_size e
      have x : @Eq Nat b (s.heap.push itO).objs.size := x
      omega
    · refine ⟨fun y => x.1 (by rw [← hn, y]; rfl), ?_⟩
      have x2 := x.2
      show @LE.le Nat _ s.heap.objs.size T
      omega
    · exact List.length_eq_zero_iff.mp (hn.trans x)
end
end PySem
namespace Mz
open PySem PySem.Spec PyProof.Rows L2
theorem choose_list {B : Type} (P : Nat → B → Prop) : ∀ n : Nat, (∀ i, i < n → ∃ y, P i y) → ∃ l : List B, l.length = n ∧ ∀ i y, l[i]? = some y → P i y
  | 0, _ => ⟨[], rfl, fun i y e => by simp at e⟩
  | n + 1, h => by
    obtain ⟨l, h1, h2⟩ := choose_list P n fun i hi => h i (Nat.lt_succ_of_lt hi)
    obtain ⟨y, hy⟩ := h n (Nat.lt_succ_self n)
    refine ⟨l ++ [y], by rw [List.length_append, h1]; rfl, fun i z e => ?_⟩
    rcases Nat.lt_or_ge i l.length with x | x
    · rw [List.getElem?_append_left x] at e
      exact h2 i z e
    · rw [List.getElem?_append_right x] at e
      have lt := (List.getElem?_eq_some_iff.mp e).1
      have : i = n := by simp at lt; omega
      subst this
      rw [h1, Nat.sub_self] at e
      cases e
      exact hy
theorem vals_flat : ∀ (xss : List (List V)) (yss : List (List Value)), xss.length = yss.length → (∀ (i : Nat) xs ys, xss[i]? = some xs → yss[i]? = some ys → Vals xs ys) → Vals xss.flatten yss.flatten
  | [], [], _, _ => .nil
  | x :: xss, y :: yss, h, r => by
    have h0 : Vals x y := r 0 x y rfl rfl
    have h1 := vals_flat xss yss (by simpa using h) fun i xs ys a b => r (i + 1) xs ys (by simpa using a) (by simpa using b)
    rw [List.flatten_cons, List.flatten_cons]
    exact h0.append h1
  | [], _ :: _, h, _ => by simp at h
  | _ :: _, [], h, _ => by simp at h
/-- sum of lists, from an empty one -/
def rSumL (K : PySem.W.Frag) : List V → List V → Hp → VK → Prop := fun vs zs H Q => ∃ (l z : Addr) (bs : List Addr) (xss : List (List V)), vs = [.ref l] ∧ zs = [.ref z] ∧ SqL K H l (bs.map V.ref) ∧ H z = some (.lst []) ∧ bs.length = xss.length ∧
  (∀ (i : Nat) b xs, bs[i]? = some b → xss[i]? = some xs → H b = some (.lst xs)) ∧ xss.flatten.length ≤ sizeLine ∧ (bs = [] → Q (.ref z) H) ∧ (bs ≠ [] → ∀ p, H p = none → Q (.ref p) (upd H p (.lst xss.flatten)))
theorem cr_sumL {X : Cx} (hc : X.calm = true) : CallRK X (.builtin "sum") [Str.ofString "start"] (rSumL X.K) := by
  intro pins s σ H vs zs us ws Q I r rz h
  obtain ⟨l, z, bs, xss, rfl, rfl, hL, hz, hlen, hit, hsz, q0, q1⟩ := h
  obtain rfl := Vals.ref1 r
  obtain ⟨w1, rfl, e1⟩ := vals1 rz
  obtain rfl : w1 = Value.ref z := e1
  obtain ⟨its, rv, hl, _⟩ := I.list hL
  obtain ⟨_, zs, kz, rzs, hzl, ez⟩ := I.lstM hz
  cases rzs
  have rl := rv.length
  rw [List.length_map] at rl
  -- the items of the lists, as they lie
  have each : ∀ i, i < xss.length → ∃ vs : List Value, Vals (xss.getD i []) vs ∧ ∃ b k, its[i]? = some (.ref b) ∧ bs[i]? = some b ∧ IsL s.heap b vs.toArray k := fun i hi => by
    have hb : i < bs.length := by omega
    obtain ⟨u, hu, ru⟩ := rv.get (show (bs.map V.ref)[i]? = some (.ref bs[i]) by rw [List.getElem?_map, List.getElem?_eq_getElem hb]; rfl)
    obtain rfl : u = Value.ref bs[i] := ru
    have e := hit i _ _ (List.getElem?_eq_getElem hb) (List.getElem?_eq_getElem hi)
    obtain ⟨_, ys, k, ry, hy, ey⟩ := I.lstM e
    refine ⟨ys, ?_, _, k, hu, List.getElem?_eq_getElem hb, ey⟩
    rw [List.getD_eq_getElem?_getD, List.getElem?_eq_getElem hi]
    exact ry
  obtain ⟨yss, ly, hy⟩ := choose_list (fun i vs => Vals (xss.getD i []) vs ∧ ∃ b k, its[i]? = some (.ref b) ∧ bs[i]? = some b ∧ IsL s.heap b vs.toArray k) xss.length each
  have fl : Vals xss.flatten yss.flatten := vals_flat xss yss ly.symm fun i xs ys a b => by
    have := (hy i ys b).1
    rw [List.getD_eq_getElem?_getD, a] at this
    exact this
  have lfl := fl.length
  refine call_sum_lists (I.ok.hd hc) hl.isList (kz := kz) ez (its := yss) (by rw [List.size_toArray]; omega) (fun i v ys hv hys => ?_) (by omega) fun h' tk T k hk hT hTz => ?_
  · obtain ⟨_, b, k, e1, _, e3⟩ := hy i ys hys
    rw [List.getElem?_toArray, e1] at hv
    cases hv
    exact ⟨b, k, rfl, e3⟩
  · rcases hTz with ⟨e0, rfl⟩ | hN
    · have : xss = [] := List.length_eq_zero_iff.mp (by rw [← ly, e0]; rfl)
      subst this
      exact ⟨.ref _, H, I.kept hk, rfl, q0 (List.length_eq_zero_iff.mp hlen)⟩
    · have e0 : bs ≠ [] := fun x => hN.1 (List.length_eq_zero_iff.mp (by rw [ly, ← hlen, x]; rfl))
      exact ⟨.ref T, upd H T (.lst xss.flatten), I.laid (t' := tk) hk hN.2 ⟨hsz, _, k, fl, hT⟩, rfl, q1 e0 T (I.hok.fresh hN.2)⟩
end Mz
set_option Elab.async false
set_option linter.all false
set_option maxRecDepth 100000
set_option maxHeartbeats 4000000
/-! set(a list of texts) -/
namespace Mz
open PySem PySem.Spec PyProof.Rows L2
section
variable {P : Program} {w : World} {A : Around} {E : Value → Shared → Prop} {s : Shared}
abbrev TxtSet (P : Program) (w : World) (h : Heap) (a : Addr) (S : Str → Bool) (n : Nat) : Prop := SetG (PySem.strKind P w) isTxt txtV h a S n
/-- the set's own way through what it is made of -/
theorem update_txt {I : Addr} {fp wr : List Addr} {G : Array GenState → Array GenState → Prop} {n : Nat} {Pv : Nat → Value → Prop} {St : Nat → Shared → Prop} {R : Result → Shared → Prop}
    (W : WalksS P w A.in1 I fp wr G n Pv St) (S : Addr) (off : S ∉ fp) (zs : List Str) (ln : n = zs.length) (room : zs.length + 1 < scanBound) (each : ∀ i v, Pv i v → ∃ z t, zs[i]? = some z ∧ v = .str z t) (k : Nat) :
    ∀ (i : Nat) (s : Shared), n - i = k → i ≤ n → St i s → (∃ c, c ≤ i ∧ TxtSet P w s.heap S (fun j => decide (j ∈ zs.take i)) c) →
      (∀ s' c, Moved (S :: wr) G s s' → c ≤ n → TxtSet P w s'.heap S (fun j => decide (j ∈ zs)) c → R (.ok (.ret .none)) s') →
      codeAny (model P w) A (.builtin "set.update.loop" ⟨[.ref S, .ref I], []⟩) R s := by
  have offw : S ∉ wr := fun x => off (W.sub _ x)
  have wider : ∀ b ∈ wr, b ∈ S :: wr := fun b x => List.mem_cons_of_mem _ x
  induction k with
  | zero =>
    intro i s ek le st0 ⟨c, lc, tx⟩ fin
    obtain rfl : i = n := by omega
    refine codeAny_builtin F.entry_set_update_loop ?_
    rw [Around.under_plainId F.plain_set_update_loop _]
    refine (show wpAny _ A.in1 (pyNext (.ref I) >>= _) _ _ s from wpAny_bind (W.done s _ _ st0 fun s2 mv => ?_))
    rw [List.take_of_length_le (show zs.length ≤ i by omega)] at tx
    exact (show wpAny _ A.in1 (ret Value.none) _ _ s2 from wpAny_pure (fin s2 c (mv.mono wider) lc (tx.at fun o e => mv.heap S o offw e)))
  | succ k ih =>
    intro i s ek le st0 ⟨c, lc, tx⟩ fin
    have lt : i < n := by omega
    refine codeAny_builtin F.entry_set_update_loop ?_
    rw [Around.under_plainId F.plain_set_update_loop _]
    refine (show wpAny _ A.in1 (pyNext (.ref I) >>= _) _ _ s from wpAny_bind (W.item i s _ _ lt st0 fun v s2 pv st2 mv => ?_))
    obtain ⟨z, t, ez, rfl⟩ := each i v pv
    have tx2 : TxtSet P w s2.heap S (fun j => decide (j ∈ zs.take i)) c := tx.at fun o e => mv.heap S o offw e
    refine (show wpAny _ A.in1 (holding [Value.str z t] (setAdd S (.str z t)) >>= _) _ _ s2 from wpAny_bind (wpAny_holding ?_))
    unfold setAdd
    refine wpAny_holding (wpAny_bind ((PySem.strKind P w).pyHash (k := z) ((txt_in P w).self _ ⟨z, t, rfl⟩) ?_))
    refine setG_add_hashed (s := { s2 with toks := s2.toks + 1 }) (txt_in P w) (v := .str z t) ⟨z, t, rfl⟩ tx2 (by omega) fun h2 sb tx3 => ?_
    have tx4 : TxtSet P w h2 S (fun j => decide (j ∈ zs.take (i + 1))) (if decide (z ∈ zs.take i) = true then c else c + 1) := by
      have e : (fun j => decide (j ∈ zs.take (i + 1))) = fun j => decide (j ∈ zs.take i) || decide (j = z) := by
        funext j
        rw [List.take_add_one, ez, Bool.eq_iff_iff, Bool.or_eq_true, decide_eq_true_eq, decide_eq_true_eq, decide_eq_true_eq, List.mem_append]
        simp
      rw [e]
      exact tx3
    have lc4 : (if decide (z ∈ zs.take i) = true then c else c + 1) ≤ i + 1 := by
      split <;> omega
    have other : ∀ b, b ≠ S → h2.get? b = s2.heap.get? b := fun b x => sb.2 b x
    refine wpAny_pure ⟨plainId_quiet F.plain_set_update_loop _, ih (i + 1) _ (by omega) lt (W.frame _ s2 _ _ st2 (Nat.le_succ _) fun b fb o e => (other b fun x => off (x ▸ fb)).trans e) ⟨_, lc4, tx4⟩ fun s3 c3 mv3 lc3 tx5 => ?_⟩
    exact fin s3 c3 (Moved.trans W.gtrans ((mv.mono wider).then_heap (Nat.le_succ _) fun b o nb e => (other b fun x => nb (by rw [x]; exact List.mem_cons_self)).trans e) mv3) lc3 tx5
theorem newset_at {h : Heap} {a : Addr} (e : h.get? a = some { cls := .type "set", dict := none, data := .set #[] 0 (.fresh 0 0 (!w.params.followText "set-order")) }) : TxtSet P w h a (fun _ => false) 0 := by
  refine ⟨_, #[], 0, _, e, ⟨rfl, rfl, rfl⟩, rfl, (fun e he => absurd he (by simp)), by simp, fun k => by simp, by decide, by rfl, rfl, List.Pairwise.nil, ?_⟩
  show _ ∨ (!w.params.followText "set-order") = true
  cases w.params.followText "set-order" <;> simp
/-- set(xs) -/
theorem call_set_txt {l : Addr} {items : Array Value} (zs : List Str) {Q : Value → Shared → Prop} (hh : A.handled = none) (hl : s.heap.IsList l items) (hit : StrsAre items.toList zs) (room : zs.length + 1 < scanBound)
    (h : ∀ (h' : Heap) (tk c : Nat), TxtSet P w h' s.heap.objs.size (fun j => decide (j ∈ zs)) c → c ≤ zs.length → (∀ b o, s.heap.get? b = some o → h'.get? b = some o) → Q (.ref s.heap.objs.size) { s with heap := h', toks := tk }) :
    wpAny (model P w) A (call (.type "set") [.ref l]) Q E s := by
  have isz : items.size = zs.length := by
    rw [← Array.length_toList]
    exact hit.length
  generalize hB : ({ cls := .type "set", dict := none, data := .set #[] 0 (.fresh 0 0 (!w.params.followText "set-order")) } : Obj) = blank
  obtain ⟨c, tl, hmro⟩ := F.called_set.mro
  have hmade := F.called_set.made
  have hsub := F.called_set.sub
  refine wpAny_call (codeAny_of_tree ?_)
  refine (show wpAny _ _ (callAny (.type "set") _) _ _ _ from wpAny_pure ⟨Code.quiet_builtin _ (by decide +kernel), codeAny_builtin F.entry_type_call ?_⟩)
  rw [Around.under_plain (weight_type_call_type "set" [.ref l] []) rfl]
  have c1 := F.called_set.notType
  have c2 := F.called_set.canCreate
  have c3 := F.typeCall_set_1 (.ref l)
  repeat (any_goals (first | assumption | wp_step))
  refine codeAny_mono (code_set_led1 (.ref l) (E := E) (Q₁ := fun obj s₁ => obj = .ref s.heap.objs.size ∧ s₁ = { s with heap := s.heap.push blank }) ⟨rfl, by rw [hB]⟩) fun r s₁ hr => ?_
  cases r with
  | error e => exact hr
  | ok fl =>
    cases fl with
    | ret obj =>
      obtain ⟨rfl, rfl⟩ := hr
      have bc : blank.cls = .type "set" := by rw [← hB]
      have bf : blank.isFreed = false := by rw [← hB]; rfl
      have atS : (s.heap.push blank).get? s.heap.objs.size = some blank := Heap.get?_push_size _ bf
      have hT : Shared.TypeIs { s with heap := s.heap.push blank } (.ref s.heap.objs.size) "set" := ⟨_, atS, bc⟩
      have d1 := F.called_set.init.lookup
      have d2 := F.called_set.init.bind (.ref s.heap.objs.size)
      repeat (any_goals (first | assumption | wp_step))
      refine codeAny_mono (codeAny_call_builtin (R := wants (fun r s₂ => r = .none ∧ ∃ h' tk c, s₂ = { s with heap := h', toks := tk } ∧ TxtSet P w h' s.heap.objs.size (fun j => decide (j ∈ zs)) c ∧ c ≤ zs.length ∧
          (∀ b o, s.heap.get? b = some o → h'.get? b = some o)) E) F.called_set.init.plain F.entry_set_init (check_set_init_1 hT ?_)) fun r₂ s₂ hr₂ => ?_
      · obtain ⟨ol, hol, hcl, nl, hdl⟩ := hl
        obtain ⟨ocls, odict, odata, oslots⟩ := ol
        simp only at hcl hdl
        subst hcl; subst hdl
        have pk : ∀ b o, s.heap.get? b = some o → (s.heap.push blank).get? b = some o := fun b o e => Heap.get?_push_of_some _ e
        have hol' := pk _ _ hol
        have n1 := F.sub_list_set
        have n2 := F.sub_list_frozenset
        have n3 : (Value.type "list" == Value.type "dict") = false := by decide
        have hl1 : (s.heap.push blank).IsList l items := ⟨_, hol', rfl, nl, rfl⟩
        have lS : @LT.lt Nat _ l s.heap.objs.size := Heap.lt_size hol
        have sz : (s.heap.push blank).objs.size = s.heap.objs.size + 1 := Heap.size_push ..
        have lI : l ≠ (s.heap.push blank).objs.size := fun x => by
          have x : @Eq Nat l (s.heap.push blank).objs.size := x
          omega
        have offS : s.heap.objs.size ∉ [(s.heap.push blank).objs.size, l] := fun x => by
          rcases List.mem_cons.mp x with x | x
          · omega
          · have x : @Eq Nat s.heap.objs.size l := List.mem_singleton.mp x
            omega
        have below : ∀ b : Nat, b < s.heap.objs.size → b ∉ s.heap.objs.size :: [(s.heap.push blank).objs.size] := fun b lb x => by
          rcases List.mem_cons.mp x with x | x
          · omega
          · have x : @Eq Nat b (s.heap.push blank).objs.size := List.mem_singleton.mp x
            omega
        clear sz bc bf
        subst hB
        unfold Builtin.«set.__init__» noKeywords Builtin.Frozenset.updateFrom
        generalize hPI : pyIter = PI
        wp_walk
        subst hPI
        refine wpAny_pyIter_list hl1 ?_
        refine wpAny_bind (wpAny_runValue ?_)
        have h3 : A.in1.in1.in1.handled = none := by simp [hh]
        have each : ∀ (i : Nat) (v : Value), items[i]? = some v → ∃ z t, zs[i]? = some z ∧ v = .str z t := fun i v hv => by
          obtain ⟨z, t, e1, e2⟩ := PyProof.Rows.StrsAre.item hit i v (by rw [Array.getElem?_toList]; exact hv)
          exact ⟨z, t, e2, e1⟩
        refine update_txt ((Walks.list h3 _ l lI items).toS) s.heap.objs.size offS zs isz room each (items.size - 0) 0 _ (by omega) (Nat.zero_le _) ⟨⟨_, Heap.get?_push_size _ rfl, rfl, rfl⟩, (hl1.push _)⟩ ⟨0, Nat.le_refl 0, ?_⟩ fun s' c' mv lc tx => ?_
        · have e : (fun j : Str => decide (j ∈ zs.take 0)) = fun _ => false := by
            funext j
            simp
          rw [e]
          exact newset_at (Heap.get?_push_of_some _ atS)
        · obtain ⟨h', g2, d', tk', os'⟩ := s'
          obtain rfl : g2 = s.gens := mv.gens
          obtain rfl : d' = s.drawn := mv.drawn
          obtain rfl : os' = s.os := mv.os
          rw [isz] at lc
          refine (show wpAny _ _ _ _ _ _ from wpAny_pure (show wpAny _ _ (ret Value.none) _ _ _ from wpAny_pure ⟨rfl, h', tk', c', rfl, tx, lc, fun b o e => ?_⟩))
          have lb : @LT.lt Nat _ b s.heap.objs.size := Heap.lt_size e
          exact mv.heap b o (below b lb) (Heap.get?_push_of_some _ (pk _ _ e))
      · cases r₂ with
        | error e => exact hr₂
        | ok fl₂ =>
          cases fl₂ with
          | ret r =>
            obtain ⟨rfl, h', tk, c', rfl, tx, lc, kp⟩ := hr₂
            repeat (any_goals (first | assumption | wp_step))
            exact h _ _ _ tx lc kp
          | _ => exact hr₂.elim
    | _ => exact hr.elim
end
/-- set(xs) of texts -/
def rSetTxt (K : PySem.W.Frag) (P : Program) (w : World) : List V → Hp → VK → Prop := fun vs H Q => ∃ (l : Addr) (zs : List Str), vs = [.ref l] ∧ SqL K H l (zs.map V.str) ∧ zs.length < 1000 ∧
  ∀ p n, H p = none → n ≤ zs.length → Q (.ref p) (upd H p (SetS P w p (fun j => decide (j ∈ zs)) n))
theorem cr_setTxt {X : Cx} (hc : X.calm = true) : CallR X (.type "set") (rSetTxt X.K X.prog X.w) := by
  intro pins s σ H vs us Q I r h
  obtain ⟨l, zs, rfl, hl, hn, q⟩ := h
  rw [Vals.ref1 r]
  obtain ⟨its, rv, pl, _⟩ := I.list hl
  have hst : StrsAre its.toArray.toList zs := by
    have all : ∀ (ys : List Str) (us : List Value), Vals (ys.map V.str) us → StrsAre us ys := fun ys => by
      induction ys with
      | nil =>
        intro us h
        cases h
        exact .nil
      | cons y ys ih =>
        intro us h
        cases h with
        | cons h t =>
          obtain ⟨tk, rfl⟩ := h
          exact .cons y tk (ih _ t)
    exact all zs its rv
  refine call_set_txt zs (I.ok.hd hc) pl.isList hst (Nat.lt_of_lt_of_le (show zs.length + 1 < 1001 by omega) (by decide)) fun h' tk c tx lc kp => ?_
  exact ⟨.ref _, _, I.laid (t' := tk) kp (Nat.le_refl _) (setS_new tx), rfl, q _ c (I.hok.fresh (Nat.le_refl _)) lc⟩
end Mz
set_option Elab.async false
set_option linter.all false
set_option maxRecDepth 100000
set_option maxHeartbeats 4000000
/-! an own method called with keywords alone -/
namespace Mz
open PySem PySem.Spec PyProof.Rows L2
theorem pe_methSK0 {X : Cx} {CX : CXT} {k : Nat} {f C : Addr} {fd : FuncData} {ps ks : List Str} {sp : Sp} {E : L2.St → XK} {o : Expr} {kws : List Keyword} {ta : TE} {tk : TA} {m : Str} {apos pos : Pos} {pl : Sem Bool} {g : List Value → List Value → List Value} {gV : List V → List V → List V}
    (he : PE X o ta) (c : Cls X.K C) (hm : Meth X.K C m f) (F : FnOk X.prog X.w X.K X.mg X.base CX k f fd ps sp) (hr : Room k X.A) (hb : KBn X.K fd ps 1 ks g gV) (hx : ∀ σ, PassesAt CX X σ (E σ)) (hkw : PK X kws tk)
    (hall : (backToKw pos (keywordEach kws X.env)).all (·.1.isSome) = true := by rfl) (hks : (backToKw pos (keywordEach kws X.env)).filterMap (·.1) = ks := by rfl)
    (hpl : ((backTo pos (starEach [] X.env)).any (·.1) || (backToKw pos (keywordEach kws X.env)).any (·.1.isNone)) = false := by rfl)
    (ht : eval (.Call (.Attribute o m apos) [] kws pos) X.env = (do
      let ov ← eval o X.env
      standAt apos.atName
      let (f, first) ← holding [ov] (getMethod ov m pl)
      callWith pos f first (backTo pos (starEach [] X.env)) (backToKw pos (keywordEach kws X.env))) := by rfl) :
    PE X (.Call (.Attribute o m apos) [] kws pos) (fun σ H Q => ta σ H fun x H1 => ∃ a dx fs, x = .ref a ∧ H1 a = some (.ins C dx fs) ∧ fs.lookup m = none ∧ tk σ H1 fun zs H2 => zs.length = ks.length ∧ sp (gV [x] zs) H2 Q (E σ)) := by
  refine ⟨fun pins s σ H Q I h => PySem.W.methodCall_KW (pl := pl) (thn (he.run pins s σ H _ I h) fun u s1 hv => ?_) ht⟩
  obtain ⟨x, H1, I1, rx, a, dx, fs, rfl, ea, l, q⟩ := hv
  obtain rfl : u = Value.ref a := rx
  refine getmeth_ok I1 ea c hm l (PySem.W.callWith_KW0 (first := [.ref a]) (h₀ := X.base) I.ok.mod.kin hm.kp hall (thn (hkw.run pos pins s1 σ H1 _ I1 q) fun ws s2 hw => ?_) hpl)
  obtain ⟨zs, H2, I2, rz, l2, q2⟩ := hw
  refine ⟨I2.kIn, ?_⟩
  rw [hks]
  refine wpAny_call (codeAny_mono (F.run X.A X.stack s2 H2 ⟨[.ref a], ks.zip ws⟩ (g [.ref a] ws) (gV [.ref a] zs) Q (E σ) hr I2.env0 (hb.to _ [.ref a] ws I2.kIn rfl (rz.length.symm.trans l2)) (hb.rel (.cons rfl .nil) rz) q2) fun r s' hq => ?_)
  cases r with
  | error e => exact hx σ pins _ _ e s' I2 hq
  | ok fl =>
    cases fl with
    | ret u => exact I2.after hq
    | next => exact hq.elim
    | brk => exact hq.elim
    | cont => exact hq.elim
end Mz
set_option Elab.async false
set_option linter.all false
set_option maxRecDepth 100000
set_option maxHeartbeats 4000000
namespace Mz
open PySem PySem.Spec PyProof.Rows L2
def spLaw (K : PySem.W.Frag) : Sp := fun vs H Q _ => ∃ (a : Addr) (ns : List Int), vs = [.ref a] ∧ SqL K H a (ns.map V.int) ∧ ns.length ≤ 63 ∧ ∀ H', Q (.bl true) H'
theorem call_listK {X : Cx} (K : PySem.W.Frag) (hK : X.K = K := by rfl) : CallR X (.type "list") (fun xs H Q => ∃ p ys, xs = [.ref p] ∧ (SqL K H p ys ∨ SqT K H p ys) ∧ ∀ l, H l = none → Q (.ref l) (L2.upd H l (.lst ys))) := by
  subst hK
  exact call_list_of
section
variable {P : Program} {w : World} {K : PySem.W.Frag} {mg : Str → Option Value} {base : Heap}
theorem scLaw : FnScope ["_law_script", "_law_k", "_law_box_here", "_law_roots_here", "_law_turn", "_law_rows", "_law_facts", "_law_told_here", "_law_every", "_law_names", "_law_much", "_law_sizes_here", "_law_due", "_law_more", "_law_other", "_law_same", "_law_row_here", "_law_pair_here"] ["_law_script"] (defScope sLaw) := ⟨rfl, rfl, rfl, by decide +kernel, rfl, by decide +kernel, by decide +kernel⟩
theorem ok_law {f fC fB fR ft fW fM fCh fPr fK fSz S C F cS cI fI fRw fUn fH fL fE : Addr} {fd fdC fdB fdR fdt fdW fdM fdCh fdPr fdK fdSz fdI fdRw fdUn fdH fdL fdE : FuncData} {g2 gH : List Value → List Value → List Value}
    (F0 : Fun K "law" "law" sLaw f fd) (B : Blt mg) (mR : mg "repr" = none) (mList : mg "list" = none) (mSum : mg "sum" = none) (mSet : mg "set" = none) (mSort : mg "sorted" = none)
    (T : Tk P w K mg base ft fdt) (GC : D1 P w K mg base "_law_cell" 1 ["_law_script", "_law_k"] (spCell K) fC fdC) (GB : D1 P w K mg base "_law_box" 1 ["_law_cell_here"] spBox fB fdB) (GR : D1 P w K mg base "_law_roots" 2 ["_law_box_here"] spRoots6 fR fdR)
    (GW : D1 P w K mg base "_law_row" 3 ["_law_box_here", "_law_roots_here"] (spRow8 K) fW fdW) (GM : D1 P w K mg base "_law_made" 12 ["_law_box_here", "_law_rows"] (spMade K C F 5) fM fdM) (GCh : D1 P w K mg base "_law_changed" 4 ["_law_box_here", "_law_rows", "_law_roots_here"] (spChanged K) fCh fdCh)
    (GPr : D1 P w K mg base "_law_pairs" 3 ["_law_row_here"] (spPairs K C) fPr fdPr) (GK : D1 P w K mg base "_law_keeps" 1 ["_law_sizes_here", "_law_much", "_law_row_here"] (spLKeeps K) fK fdK) (GSz : D1 P w K mg base "_law_sizes" 3 ["_law_box_here", "_law_roots_here", "_law_much"] spLSizes fSz fdSz)
    (TT : Scl K mg S) (MS : Mk K S fI) (GIS : FnOk P w K mg base (L2.CX P w) 4 fI fdI ["self", "sizes", "page"] (spInitS K S cS cI)) (kS2 : KBn K fdI ["self", "sizes", "page"] 2 ["page"] g2 (fun vs zs => vs ++ zs))
    (TF : Fcl K mg F) (YF : Pty K F) (GRw : FnOk P w K mg base CX0 1 fRw fdRw ["self"] (spRowsF F C)) (bRw : Binds K fdRw ["self"] []) (mRw : Meth K F "rows" fRw) (GUn : FnOk P w K mg base CX0 1 fUn fdUn ["self"] (spUnkF F C)) (bUn : Binds K fdUn ["self"] []) (mUn : Meth K F "unknowns" fUn)
    (GH : FnOk P w K mg base (L2.CX P w) 9 fH fdH ["self", "setting"] (spHolds K F S C cS)) (kH : KBn K fdH ["self", "setting"] 1 ["setting"] gH (fun vs zs => vs ++ zs)) (mH : Meth K F "holds" fH)
    (GLn : FnOk P w K mg base CX0 1 fL fdL ["self"] (spLenF F C)) (bL : Binds K fdL ["self"] []) (iL : PySem.W.findIn K (.ref F) "__len__" = some (some (.ref fL))) (jL : PySem.W.isFn K (.ref fL) = true)
    (GE : FnOk P w K mg base CX0 4 fE fdE ["self", "other"] (spEqF K F C)) (bE : Binds K fdE ["self", "other"] []) (iE : PySem.W.findIn K (.ref F) "__eq__" = some (some (.ref fE))) (jE : PySem.W.isFn K (.ref fE) = true) (hn : PySem.W.findIn K (.ref F) "__ne__" = some (some (.builtin "object.__ne__"))) (nfL : PySem.W.notFirst K F (.type "list") = true) (kL : PySem.W.kitOne K (.type "list") (.ref F) = some false) :
    FnG P w K mg base CX0 13 f fd ["_law_script"] (spLaw K) := by
  refine fun_okG F0 scLaw (fun vs H Q E h => ?_) (fun cdv A outer s H vs Q E hg hr h => ?_)
  · obtain ⟨a, ns, rfl, _⟩ := h
    rfl
  · obtain ⟨a, ns, rfl, hS, hlen, q⟩ := h
    have nd := scLaw.nd
    have hr1 : Room 1 _ := hr.mono (by decide)
    have hr2 : Room 2 _ := hr.mono (by decide)
    have hr3 : Room 3 _ := hr.mono (by decide)
    have hr4 : Room 4 _ := hr.mono (by decide)
    have hr5 : Room 5 _ := hr.mono (by decide)
    have hr9 : Room 9 _ := hr.mono (by decide)
    refine ⟨_, (pss_cons (ps_for PassesOwn.never rfl (pi_range1 rfl B.range (pa_cons (pe_callB (call_max2 rfl) (by rfl) B.max (by decide +kernel) (pa_cons pe_int (pa_cons (pe_callB (call_min2 rfl) (by rfl) B.min (by decide +kernel) (pa_cons pe_int (pa_cons (pe_callB call_len_seq (by rfl) B.len PySem.boot_len (pa_cons (pv 0) pa_nil)) pa_nil))) pa_nil))) pa_nil)) (pg_name (i := 1) nd rfl (Or.inl rfl)) (pss_cons (ps_set (i := 2) nd rfl (Or.inr rfl) (pe_call GB.ok hr1 (by rfl) GB.m GB.k GB.b .nil pass0 (pa_cons (pe_call GC.ok hr1 (by rfl) GC.m GC.k GC.b .nil pass0 (pa_cons (pv 0) (pa_cons (pv 1) pa_nil))) pa_nil)))
      (pss_cons (ps_set (i := 3) nd rfl (Or.inr rfl) (pe_call GR.ok hr2 (by rfl) GR.m GR.k GR.b .nil pass0 (pa_cons (pv 2) pa_nil)))
      (pss_cons (ps_setLc (i := 5) (own := [("_law_turn", 4)]) (g := gName 4) (tt := tYes) rfl nd rfl rfl (sw_true rfl rfl rfl (by decide +kernel)) (pi_range1 rfl B.range (pa_cons (pe_call T.ok hr1 (by rfl) T.m T.k T.b .nil pass0 (pa_cons (pv 2) (pa_cons pe_int pa_nil))) pa_nil)) (blkOk_by (N := ["_law_script", "_law_k", "_law_box_here", "_law_roots_here", "_law_turn", "_law_rows", "_law_facts", "_law_told_here", "_law_every", "_law_names", "_law_much", "_law_sizes_here", "_law_due", "_law_more", "_law_other", "_law_same", "_law_row_here", "_law_pair_here"]) (sc := defScope sLaw) (by decide +kernel)) (fun _ _ _ _ _ => (pg_name (i := 4) nd rfl (Or.inl rfl))) (fun _ _ _ _ _ => pts_nil) (fun _ _ _ _ _ => (pe_call GW.ok hr3 (by rfl) GW.m GW.k GW.b .nil pass0 (pa_cons (pv 2) (pa_cons (pv 3) pa_nil)))))
      (pss_cons (ps_set (i := 6) nd rfl (Or.inl rfl) (pe_call GM.ok hr (by rfl) GM.m GM.k GM.b .nil pass0 (pa_cons (pv 2) (pa_cons (pv 5) pa_nil))))
      (pss_cons (ps_set (i := 7) nd rfl (Or.inl rfl) (pe_meth0 (pv 6) TF.cl mRw GRw hr1 bRw .nil pass0))
      (pss_cons (ps_if (PW.pt (pw_or (pt_cmpR (op_neD hr.units) (pe_lc (own := [("_law_row_here", 16)]) (g := gName 16) (tt := tYes) rfl nd (pi_list (pv 7)) (blkOk_by (N := ["_law_script", "_law_k", "_law_box_here", "_law_roots_here", "_law_turn", "_law_rows", "_law_facts", "_law_told_here", "_law_every", "_law_names", "_law_much", "_law_sizes_here", "_law_due", "_law_more", "_law_other", "_law_same", "_law_row_here", "_law_pair_here"]) (sc := defScope sLaw) (by decide +kernel)) (fun _ _ _ _ _ => (pg_name (i := 16) nd rfl (Or.inl rfl))) (fun _ _ _ _ _ => pts_nil) (fun _ _ _ _ _ => (pe_call GPr.ok hr3 (by rfl) GPr.m GPr.k GPr.b .nil pass0 (pa_cons (pv 16) pa_nil)))) (pv 5) (nomark _)) (pw_or1 (pt_cmpR op_ne (pe_callB (call_lenO GLn hr2 bL iL jL) (by rfl) B.len PySem.boot_len (pa_cons (pv 6) pa_nil)) (pe_callB call_len_seq (by rfl) B.len PySem.boot_len (pa_cons (pv 5) pa_nil)) (nomark _))))) (pss_one (ps_ret pe_bl)) pss_nil)
      (pss_cons (ps_expr (pe_bm0 PySem.F.plainAttrs_list PySem.F.slot_list_clear PySem.F.type_list_clear mt_clear (pv 7)))
      (pss_cons (ps_set (i := 8) nd rfl (Or.inl rfl) (pe_callBK (cr_sumL rfl) (by rfl) mSum (by decide +kernel) (pa_cons (pe_lc (own := [("_law_row_here", 16)]) (g := gName 16) (tt := tYes) rfl nd (pi_list (pv 5)) (blkOk_by (N := ["_law_script", "_law_k", "_law_box_here", "_law_roots_here", "_law_turn", "_law_rows", "_law_facts", "_law_told_here", "_law_every", "_law_names", "_law_much", "_law_sizes_here", "_law_due", "_law_more", "_law_other", "_law_same", "_law_row_here", "_law_pair_here"]) (sc := defScope sLaw) (by decide +kernel)) (fun _ _ _ _ _ => (pg_name (i := 16) nd rfl (Or.inl rfl))) (fun _ _ _ _ _ => pts_nil) (fun _ _ _ _ _ => (pe_callTy (call_listK K) (by rfl) mList (by decide +kernel) (pa_cons (pe_slice (sl_tupK K) (pv 16) (po_some pe_int) po_none) pa_nil)))) pa_nil) (pk_cons (pe_lst pa_nil) pk_nil)))
      (pss_cons (ps_set (i := 9) nd rfl (Or.inl rfl) (pe_callB (cr_sortSet rfl) (by rfl) mSort (by decide +kernel) (pa_cons (pe_callTy (cr_setTxt rfl) (by rfl) mSet (by decide +kernel) (pa_cons (pe_lc (own := [("_law_pair_here", 17)]) (g := gName 17) rfl nd (pi_list (pv 8)) (blkOk_by (N := ["_law_script", "_law_k", "_law_box_here", "_law_roots_here", "_law_turn", "_law_rows", "_law_facts", "_law_told_here", "_law_every", "_law_names", "_law_much", "_law_sizes_here", "_law_due", "_law_more", "_law_other", "_law_same", "_law_row_here", "_law_pair_here"]) (sc := defScope sLaw) (by decide +kernel)) (fun _ _ _ _ _ => (pg_name (i := 17) nd rfl (Or.inl rfl))) (fun _ _ _ _ _ => (pts_one (pt_cmpR op_ne (pe_ix (ix_tupK K) (pv 17) pe_int (fun _ _ => rfl)) pe_str (nomark _)))) (fun _ _ _ _ _ => (pe_ix (ix_tupK K) (pv 17) pe_int (fun _ _ => rfl)))) pa_nil)) pa_nil)))
      (pss_cons (ps_set (i := 7) nd rfl (Or.inl rfl) (pe_meth0 (pv 6) TF.cl mUn GUn hr1 bUn .nil pass0))
      (pss_cons (ps_if (PW.pt (pw_or (pt_cmpR (op_neD hr.units) (pv 7) (pv 9) (nomark _)) (pw_or1 (pt_cmpR (op_neD hr.units) (pe_lc (own := [("_law_row_here", 16)]) (g := gName 16) (tt := tYes) rfl nd (pi_list (pe_meth0 (pv 6) TF.cl mRw GRw hr1 bRw .nil pass0)) (blkOk_by (N := ["_law_script", "_law_k", "_law_box_here", "_law_roots_here", "_law_turn", "_law_rows", "_law_facts", "_law_told_here", "_law_every", "_law_names", "_law_much", "_law_sizes_here", "_law_due", "_law_more", "_law_other", "_law_same", "_law_row_here", "_law_pair_here"]) (sc := defScope sLaw) (by decide +kernel)) (fun _ _ _ _ _ => (pg_name (i := 16) nd rfl (Or.inl rfl))) (fun _ _ _ _ _ => pts_nil) (fun _ _ _ _ _ => (pe_call GPr.ok hr3 (by rfl) GPr.m GPr.k GPr.b .nil pass0 (pa_cons (pv 16) pa_nil)))) (pv 5) (nomark _))))) (pss_one (ps_ret pe_bl)) pss_nil)
      (pss_cons (ps_expr (pe_bm PySem.F.plainAttrs_list PySem.F.slot_list_append PySem.F.type_list_append mt_append (pv 7) (pa_cons pe_str pa_nil)))
      (pss_cons (ps_if (pt_cmpR (op_neD hr.units) (pe_meth0 (pv 6) TF.cl mUn GUn hr1 bUn .nil pass0) (pv 9) (nomark _)) (pss_one (ps_ret pe_bl)) pss_nil)
      (pss_cons (ps_for PassesOwn.never rfl (pi_range1 rfl B.range (pa_cons pe_int pa_nil)) (pg_name (i := 4) nd rfl (Or.inl rfl)) (pss_cons (ps_set (i := 10) nd rfl (Or.inr rfl) (pe_ix ix_list (pe_lst (pa_cons (pe_op op_add pe_int (pe_call T.ok hr1 (by rfl) T.m T.k T.b .nil pass0 (pa_cons (pv 2) (pa_cons pe_int pa_nil)))) (pa_cons (pe_op op_add pe_int (pe_call T.ok hr1 (by rfl) T.m T.k T.b .nil pass0 (pa_cons (pv 2) (pa_cons pe_int pa_nil)))) pa_nil))) (pe_call T.ok hr1 (by rfl) T.m T.k T.b .nil pass0 (pa_cons (pv 2) (pa_cons pe_int pa_nil))) (fun _ _ => rfl)))
      (pss_cons (ps_set (i := 11) nd rfl (Or.inr rfl) (pe_call GSz.ok hr3 (by rfl) GSz.m GSz.k GSz.b .nil pass0 (pa_cons (pv 2) (pa_cons (pv 3) (pa_cons (pv 10) pa_nil)))))
      (pss_cons (ps_set (i := 12) nd rfl (Or.inl rfl) (pe_cmpR (op_eqL0 hr.units) (pe_lc (own := [("_law_row_here", 16)]) (g := gName 16) rfl nd (pi_list (pv 5)) (blkOk_by (N := ["_law_script", "_law_k", "_law_box_here", "_law_roots_here", "_law_turn", "_law_rows", "_law_facts", "_law_told_here", "_law_every", "_law_names", "_law_much", "_law_sizes_here", "_law_due", "_law_more", "_law_other", "_law_same", "_law_row_here", "_law_pair_here"]) (sc := defScope sLaw) (by decide +kernel)) (fun _ _ _ _ _ => (pg_name (i := 16) nd rfl (Or.inl rfl))) (fun _ _ _ _ _ => (pts_one (pt_not (pt_val (pe_call GK.ok hr1 (by rfl) GK.m GK.k GK.b .nil pass0 (pa_cons (pv 11) (pa_cons (pv 10) (pa_cons (pv 16) pa_nil)))))))) (fun _ _ _ _ _ => (pv 16))) (pe_lst pa_nil) (nomark _)))
      (pss_one (ps_if (pt_cmpR op_ne (pe_callB (call_reprD hg hr.units) (by rfl) mR (by decide +kernel) (pa_cons (pe_methSK0 (pv 6) TF.cl mH GH hr9 kH (fun σ => pass_no) (pk_cons (pe_makeKS MS GIS hr5 (by rfl) TT.mgS kS2 (fun σ => pass_no) (pa_cons (pv 11) pa_nil) (pk_cons (pv 10) pk_nil)) pk_nil)) pa_nil)) (pe_callB (call_reprD hg hr.units) (by rfl) mR (by decide +kernel) (pa_cons (pv 12) pa_nil)) (nomark _)) (pss_one (ps_ret pe_bl)) pss_nil))))))
      (pss_cons (ps_if (PW.pt (pw_or (pt_not (pt_cmpR (op_eqO GE hr4 bE iE jE) (pv 6) (pe_call GM.ok hr (by rfl) GM.m GM.k GM.b .nil pass0 (pa_cons (pv 2) (pa_cons (pv 5) pa_nil))) (nomark _))) (pw_or1 (pt_cmpR (op_eqO GE hr4 bE iE jE) (pv 6) (pv 5) (nomark _))))) (pss_one (ps_ret pe_bl)) pss_nil)
      (pss_one (ps_for PassesOwn.never rfl (pi_list (pe_lst (pa_cons (pe_revL (pv 5)) (pa_cons (pe_call GCh.ok hr4 (by rfl) GCh.m GCh.k GCh.b .nil pass0 (pa_cons (pv 2) (pa_cons (pv 5) (pa_cons (pv 3) pa_nil)))) (pa_cons (pe_call GCh.ok hr4 (by rfl) GCh.m GCh.k GCh.b .nil pass0 (pa_cons (pv 2) (pa_cons (pv 5) (pa_cons (pv 3) pa_nil)))) (pa_cons (pe_lst pa_nil) pa_nil)))))) (pg_name (i := 13) nd rfl (Or.inl rfl)) (pss_one (ps_if (pt_cmpR op_lt (pe_callB call_len_seq (by rfl) B.len PySem.boot_len (pa_cons (pv 13) pa_nil)) pe_int (nomark _)) (pss_cons (ps_set (i := 14) nd rfl (Or.inl rfl) (pe_call GM.ok hr (by rfl) GM.m GM.k GM.b .nil pass0 (pa_cons (pv 2) (pa_cons (pv 13) pa_nil))))
      (pss_cons (ps_set (i := 15) nd rfl (Or.inl rfl) (pe_cmpR (op_eqD hr.units) (pv 5) (pv 13) (nomark _)))
      (pss_one (ps_if (pt_cmpR (op_neD hr.units) (pe_lst (pa_cons (pe_cmpR (op_eqO GE hr4 bE iE jE) (pv 6) (pv 14) (nomark _)) (pa_cons (pe_cmpR (op_eqO GE hr4 bE iE jE) (pv 14) (pv 6) (nomark _)) (pa_cons (pe_cmpR (op_neO GE hr5 bE iE jE hn YF.hm) (pv 6) (pv 14) (nomark _)) pa_nil)))) (pe_lst (pa_cons (pv 15) (pa_cons (pv 15) (pa_cons (pe_not (pv 15)) pa_nil)))) (nomark _)) (pss_one (ps_ret pe_bl)) pss_nil)))) pss_nil))))))))))))))))))))
      (pss_one (ps_ret pe_bl))), ?_⟩
    have hu := hu_of hr
    have one : ∀ {H1 : Hp} {p : Addr} (o : HO), H1 p = none → ∃ H2, H2 = upd H1 p o ∧ Same H1 H2 ∧ H2 p = some o := fun o n => ⟨_, rfl, same_nw n, upd_same⟩
    have sb : 1000 ≤ sizeLine := by decide
    refine ⟨_, rfl, a, _, rfl, .inl hS, _, _, rfl, _, _, rfl, ?_⟩
    generalize hm : (if (if (((ns.map V.int).length : Nat) : Int) < 8 then (((ns.map V.int).length : Nat) : Int) else 8) > 2 then (if (((ns.map V.int).length : Nat) : Int) < 8 then (((ns.map V.int).length : Nat) : Int) else 8) else 2) = m
    have m0 : 2 ≤ m ∧ m ≤ 8 := by
      rw [← hm]
      split <;> split <;> omega
    refine ⟨m, rfl, by omega, by omega, for_range (lo := 0) (n := m.toNat) (fun _ σ H' => ∃ v1 v2 v3 v4 v5 v6 v7 v8 v9 v10 v11 v12 v13 v14 v15 v16 v17 : Option V, σ = [some (.ref a), v1, v2, v3, v4, v5, v6, v7, v8, v9, v10, v11, v12, v13, v14, v15, v16, v17] ∧ Same H H')
      ⟨_, _, _, _, _, _, _, _, _, _, _, _, _, _, _, _, _, rfl, Same.refl H⟩ ?_ fun σ H' _ => q H'⟩
    rintro i σ H0 hi ⟨v1, v2, v3, v4, v5, v6, v7, v8, v9, v10, v11, v12, v13, v14, v15, v16, v17, rfl, s0⟩
    generalize hD : ({ nx := _, rt := _, bk := _, ct := _ } : Ends) = DD
    have dnx : ∀ σ' H', (∃ v1 v2 v3 v4 v5 v6 v7 v8 v9 v10 v11 v12 v13 v14 v15 v16 v17 : Option V, σ' = [some (V.ref a), v1, v2, v3, v4, v5, v6, v7, v8, v9, v10, v11, v12, v13, v14, v15, v16, v17] ∧ Same H H') → DD.nx σ' H' := fun σ' H' h => by
      rw [← hD]
      exact h
    clear hD
    have ei : (0 + (i : Int)) = ((i : Nat) : Int) := by omega
    rw [ei]
    refine ⟨_, rfl, _, rfl, a, ns, i, rfl, sqL_keep hS s0, by omega, fun c => ?_⟩
    refine ⟨c, rfl, fun b H3 nb B3 K3 => ?_⟩
    refine ⟨_, rfl, b, 0, rfl, B3, by omega, fun pe y z H4 ry rz h4 ne4 peb B4 K4 => ?_⟩
    have rr : ∀ u ∈ [y, z], Rt u := fun u hu => by
      simp only [List.mem_cons, List.not_mem_nil, or_false] at hu
      rcases hu with rfl | rfl
      · exact ry
      · exact rz
    -- rows are drawn
    refine ⟨_, rfl, b, 15, 6, rfl, B4, by omega, by decide, by decide, fun r H5 r0 r1 B5 K5 => ⟨_, rfl, by omega, by omega, fun D nD => ?_⟩⟩
    have h5 := K5 _ _ peb h4
    have Db : D ≠ b := B5.new nD
    refine lc_range (lo := 0) (n := r.toNat) (fun i H' => Bx H' b (16 + 5 * i) ∧ Kp b H5 H' ∧ ∃ (as : List Addr) (rws : List Row), H' D = some (.lst (as.map V.ref)) ∧ Lk (RwD H') as rws ∧ rws.length = i ∧ ∀ rw ∈ rws, InR [y, z] rw)
      ⟨B5.upd nD, Kp.fresh nD, [], [], upd_same, .nil, rfl, fun _ h => nomatch h⟩ ?_ ?_
    · rintro i2 H6 hi2 ⟨B6, K6, as, rws, hD, hR, lr, hin⟩
      have lR := hR.length
      refine ⟨rfl, yesT ?_⟩
      refine ⟨_, rfl, _, rfl, b, pe, 16 + 5 * i2, [y, z], rfl, B6, by omega, K6 _ _ peb h5, by simp, rr, peb, fun ra rw H7 rg inr nra rab B7 K7 => ?_⟩
      have hD7 := K7 _ _ Db hD
      refine ⟨_, hD7, ?_, ?_, ?_, as ++ [ra], rws ++ [rw], by rw [upd_same, List.map_append]; rfl, ?_, ?_, ?_⟩
      · rw [List.length_map]
        omega
      · obtain ⟨w1, w2, w3, e, h⟩ := B7.more (show 16 + 5 * i2 + 5 ≤ 16 + 5 * (i2 + 1) by omega)
        exact ⟨w1, w2, w3, by rw [upd_ne Db.symm]; exact e, h⟩
      · intro p o np e
        rw [upd_ne (fun z => by rw [z, nD] at e; cases e)]
        exact K7 p o np (K6 p o np e)
      · exact (hR.imp fun _ _ x => (x.kp B6 K7).upd hD7).append (Lk.one (rg.upd hD7))
      · rw [List.length_append, lr]
        rfl
      · intro u hu
        rcases List.mem_append.mp hu with hu | hu
        · exact hin u hu
        · rw [List.mem_singleton.mp hu]
          exact inr
    rintro H6 ⟨B6, K6, as, rws, hD, hR, lr, hin⟩
    have lR := hR.length
    have l5 : rws.length ≤ 5 := by omega
    have B6' := B6.more (show 16 + 5 * r.toNat ≤ 50 by omega)
    have h6 := K6 _ _ peb h5
    have K36 : Kp b H4 H6 := K5.trans K6
    clear B6 h5 K5 B5 nD
    have ok := RwD.ok hR
    -- the facts
    refine ⟨_, rfl, _, rfl, b, D, 50, as, rws, [y, z], rfl, B6', by omega, hD, Db, hR, by omega, by simp, hin, fun f1 H7 K7 B7 n7 b7 F1 => ?_⟩
    have hD7 := K7 _ _ Db hD
    have hR7 : Lk (RwD H7) as rws := hR.imp fun _ _ x => x.kp B6' K7
    have h7 := K7 _ _ peb h6
    -- told
    obtain ⟨dx1, rl1, ul1, as1, ys1, i1, i2, i3, i4, i5, i6, i7⟩ := id F1
    refine ⟨_, rfl, f1, dx1, _, rfl, i1, fcF_no2.1, f1, rws, rfl, F1, fun t1 bs1 H8 s8 nt1 ht1 hB1 => ?_⟩
    have s78 := s8
    have hD8 := s8 _ _ hD7
    have hR8 : Lk (RwD H8) as rws := hR7.imp fun _ _ x => x.same s8
    refine ⟨_, rfl, t1, rfl, ⟨_, SqL.of ht1⟩, fun Dp_ nDp => ?_⟩
    refine lc_it (walk_list (xs := bs1.map V.ref)) (fun i H' => (∀ p o, p ≠ Dp_ → H8 p = some o → H' p = some o) ∧ ∃ cs : List Addr, H' Dp_ = some (.lst (cs.map V.ref)) ∧ Lk (RwD H') cs (rws.take i))
      ⟨fun p o n e => by rw [upd_ne n]; exact e, [], upd_same, by rw [List.take_zero]; exact .nil⟩ (fun i H' _ h => SqL.of (h.1 _ _ (ne_of_none ht1 nDp) ht1)) ?_ ?_
    · rintro i2 x G1 G2 hi2 ⟨keep, cs, hcs, lcs⟩ ⟨rfl, hx⟩
      rw [List.getElem?_map] at hx
      obtain ⟨ra, hra, rfl⟩ := Option.map_eq_some_iff.mp hx
      obtain ⟨rw, hrw, rg⟩ := Lk.get hB1 hra
      have sG : Same H8 G2 := fun p o e => keep p o (ne_of_none e nDp) e
      have lc_ := lcs.length
      rw [List.length_take] at lc_
      refine ⟨rfl, yesT ?_⟩
      refine ⟨_, rfl, ra, rw, rfl, rg.same sG, fun q2 G3 s3 nq rq => ?_⟩
      have hcs3 := s3 _ _ hcs
      refine ⟨_, hcs3, ?_, fun p o n e => by rw [upd_ne n]; exact s3 _ _ (keep p o n e), cs ++ [q2], by rw [upd_same, List.map_append]; rfl, ?_⟩
      · rw [List.length_map]
        omega
      · rw [List.take_succ, hrw]
        exact (lcs.imp fun _ _ x => (x.same s3).upd hcs3).append (Lk.one (rq.upd hcs3))
    rintro G1 ⟨keep, cs, hcs, lcs⟩
    rw [List.length_map, List.take_of_length_le (by have := Lk.length hB1; omega)] at lcs
    have sG : Same H8 G1 := fun p o e => keep p o (ne_of_none e nDp) e
    have e0 : (!PyData.eqv (.list (rws.map rwD)) (.list (rws.map rwD))) = false := by
      rw [eqv_rows, decide_eq_true rfl]
      rfl
    have s7G := s8.trans sG
    refine ⟨_, rfl, _, _, dp_rows hcs lcs, dp_rows (sG _ _ hD8) (hR8.imp fun _ _ x => x.same sG), shaped_rows ok, shaped_rows ok, _, rfl, ?_⟩
    rw [e0]
    have e1 : (!decide (V.int ((rws.length : Nat) : Int) = V.int (((as.map V.ref).length : Nat) : Int))) = false := by
      rw [decide_eq_true (by rw [List.length_map, lR])]
      rfl
    refine iteF ⟨_, rfl, f1, dx1, _, rfl, s7G _ _ i1, f1, rws, rfl, F1.same s7G, _, rfl, by omega, _, rfl, D, _, rfl, .inl (SqL.of (sG _ _ hD8)), rfl, _, rfl, ?_⟩
    rw [e1]
    refine iteF ?_
    -- cleared
    refine ⟨_, rfl, .inl ⟨rfl, _, SqL.of (sG _ _ ht1)⟩, t1, _, rfl, rfl, sG _ _ ht1, ?_⟩
    have s9 : Same H7 (upd G1 t1 (.lst [])) := fun p o e => by
      rw [upd_ne (fun x => by rw [x] at e; rw [e] at nt1; cases nt1)]
      exact s7G _ _ e
    generalize upd G1 t1 (.lst []) = H9 at s9
    clear s7G sG hcs lcs keep nDp hR8 hD8 s78 ht1 hB1 nt1 s8 e1
    have B9 := B7.same s9
    have hD9 := s9 _ _ hD7
    have hR9 : Lk (RwD H9) as rws := hR7.imp fun _ _ x => x.same s9
    -- every place
    refine ⟨_, rfl, D, rfl, ⟨_, SqL.of hD9⟩, fun D2 nD2 => ?_⟩
    have two : ∀ l : List Row, (∀ rw ∈ l, RwOk rw) → (plsOf l).length ≤ 2 * l.length := by
      intro l
      induction l with
      | nil => intro _; decide
      | cons r l ih =>
        intro h
        have h1 := (Row.le (h r (List.mem_cons_self ..))).2
        have h2 := ih fun x hx => h x (List.mem_cons_of_mem _ hx)
        show (r.2 ++ plsOf l).length ≤ _
        rw [List.length_append, List.length_cons]
        omega
    have lpl : (plsOf rws).length ≤ 10 := by
      have := two rws ok
      omega
    refine lc_it (walk_list (xs := as.map V.ref)) (fun i H' => (∀ p o, p ≠ D2 → H9 p = some o → H' p = some o) ∧ ∃ (ls : List Addr) (qss : List (List Addr)), H' D2 = some (.lst (ls.map V.ref)) ∧ Lk (fun l qs => l ≠ D2 ∧ H' l = some (.lst (qs.map V.ref))) ls qss ∧ Lk (PrD H') qss.flatten (plsOf (rws.take i)) ∧ ls.length = i)
      ⟨fun p o n e => by rw [upd_ne n]; exact e, [], [], upd_same, .nil, by rw [List.take_zero]; exact .nil, rfl⟩ (fun i H' _ h => SqL.of (h.1 _ _ (ne_of_none hD9 nD2) hD9)) ?_ ?_
    · rintro i2 x G1 G2 hi2 ⟨keep, ls, qss, hls, lk1, lk2, lls⟩ ⟨rfl, hx⟩
      rw [List.getElem?_map] at hx
      obtain ⟨ra, hra, rfl⟩ := Option.map_eq_some_iff.mp hx
      obtain ⟨rw, hrw, qs, e1, e2, e3⟩ := Lk.get hR9 hra
      rw [List.length_map] at hi2
      have sG : Same H9 G2 := fun p o e => keep p o (ne_of_none e nD2) e
      refine ⟨rfl, yesT ?_⟩
      refine ⟨_, rfl, _, rfl, ra, _, rfl, SqT.of (sG _ _ e1), cut1n, fun p1 n1 => ?_⟩
      rw [cut1]
      have s3 : Same G2 (upd G2 p1 (.tup (qs.map V.ref))) := same_nw n1
      have t3 : upd G2 p1 (.tup (qs.map V.ref)) p1 = some (.tup (qs.map V.ref)) := upd_same
      generalize upd G2 p1 (.tup (qs.map V.ref)) = G3 at s3 t3
      refine ⟨p1, _, rfl, .inr (SqT.of t3), fun p2 n2 => ?_⟩
      have s4 : Same G3 (upd G3 p2 (.lst (qs.map V.ref))) := same_nw n2
      have t4 : upd G3 p2 (.lst (qs.map V.ref)) p2 = some (.lst (qs.map V.ref)) := upd_same
      have s34 := s3.trans s4
      have D2n : p2 ≠ D2 := fun x => by
        rw [x, s3 _ _ hls] at n2
        cases n2
      generalize upd G3 p2 (.lst (qs.map V.ref)) = G4 at s4 t4 s34
      have hls4 := s34 _ _ hls
      have ne : ∀ {q : Addr} {o : HO} (l2 : List V), G4 q = some o → q ≠ D2 → upd G4 D2 (.lst l2) q = some o := fun {q o} l2 e n => by
        rw [upd_ne n]
        exact e
      have pn : ∀ {q : Addr} {p : Str × Int}, PrD G4 q p → q ≠ D2 := fun {q p} e x => by
        have e : G4 q = _ := e
        rw [x, hls4] at e
        cases e
      refine ⟨_, hls4, ?_, fun p o n e => by rw [upd_ne n]; exact s34 _ _ (keep p o n e), ls ++ [p2], qss ++ [qs], by rw [upd_same, List.map_append]; rfl, ?_, ?_, by rw [List.length_append, lls]; rfl⟩
      · rw [List.length_map]
        omega
      · refine Lk.append (lk1.imp fun l qs2 ⟨n, e⟩ => ⟨n, ne _ (s34 _ _ e) n⟩) (Lk.one ⟨D2n, ne _ t4 D2n⟩)
      · rw [List.flatten_append, List.take_succ, hrw]
        show Lk _ (qss.flatten ++ ([qs] : List (List Addr)).flatten) (plsOf (rws.take i2 ++ [rw]))
        have ep : plsOf (rws.take i2 ++ [rw]) = plsOf (rws.take i2) ++ rw.2 := by
          unfold plsOf
          rw [List.flatMap_append]
          simp
        rw [ep, List.flatten_cons, List.flatten_nil, List.append_nil]
        have kp : ∀ {q : Addr} {p : Str × Int}, PrD G2 q p → PrD (upd G4 D2 (.lst (ls.map V.ref ++ [V.ref p2]))) q p := fun {q p} e => by
          have e4 : PrD G4 q p := s34 _ _ e
          exact ne _ e4 (pn e4)
        exact (lk2.imp fun _ _ e => kp e).append (e2.imp fun _ _ e => kp (sG _ _ e))
    rintro G1 ⟨keep, ls, qss, hls, lk1, lk2, lls⟩
    rw [List.length_map, List.take_of_length_le (by omega)] at lk2
    rw [List.length_map] at lls
    have s9G : Same H9 G1 := fun p o e => keep p o (ne_of_none e nD2) e
    have lqs := lk1.length
    have lk2l := lk2.length
    clear keep
    refine ⟨(by show 0 ≤ sizeLine; decide), fun zl nzl => ?_⟩
    have sz1 : Same G1 (upd G1 zl (.lst [])) := same_nw nzl
    have tz1 : upd G1 zl (.lst []) zl = some (.lst []) := upd_same
    generalize upd G1 zl (.lst []) = G2 at sz1 tz1
    have s92 := s9G.trans sz1
    generalize hT : tSeq (tAsg _ _) _ = TR
    have rest : ∀ (ev : Addr) (G : Hp) (qs : List Addr), Same H9 G → G ev = some (.lst (qs.map V.ref)) → Lk (PrD G) qs (plsOf rws) → TR DD [some (.ref a), some (.int ((i : Nat) : Int)), some (.ref b), some (.ref pe), v4, some (.ref D), some (.ref f1), some (.ref t1), some (.ref ev), v9, v10, v11, v12, v13, v14, v15, v16, v17] G := by
      intro ev G qs sG hev lkq
      rw [← hT]
      clear hT
      refine ⟨_, rfl, ev, rfl, ⟨_, SqL.of hev⟩, fun D3 nD3 => ?_⟩
      have lkl := lkq.length
      have old3 : ∀ p o, G p = some o → p ≠ D3 := fun p o e => ne_of_none e nD3
      refine lc_it (walk_list (xs := qs.map V.ref)) (fun i H' => (∀ p o, p ≠ D3 → G p = some o → H' p = some o) ∧ H' D3 = some (.lst (((((plsOf rws).take i).filter fun (p : Str × Int) => decide (p.1 ≠ ("" : Str))).map (·.1)).map V.str)))
        ⟨fun p o n e => by rw [upd_ne n]; exact e, upd_same⟩ (fun i H' _ h => SqL.of (h.1 _ _ (old3 _ _ hev) hev)) ?_ ?_
      · rintro i2 x G1 G2 hi2 ⟨keep, hD3⟩ ⟨rfl, hx⟩
        rw [List.getElem?_map] at hx
        obtain ⟨qa, hqa, rfl⟩ := Option.map_eq_some_iff.mp hx
        obtain ⟨⟨z0, k0⟩, hp, e⟩ := Lk.get lkq hqa
        have e : G qa = some (.tup [.str z0, .int k0]) := e
        have e2 := keep _ _ (old3 _ _ e) e
        have x0 : atI [V.str z0, V.int k0] (0 : Int) = some (.str z0) := rfl
        have tk : (plsOf rws).take (i2 + 1) = (plsOf rws).take i2 ++ [(z0, k0)] := by rw [List.take_succ, hp]; rfl
        have lf : ((((plsOf rws).take i2).filter fun (p : Str × Int) => decide (p.1 ≠ ("" : Str))).map (·.1)).length ≤ 10 := by
          rw [List.length_map]
          refine Nat.le_trans (List.length_filter_le _ _) ?_
          rw [List.length_take]
          omega
        refine ⟨rfl, ?_⟩
        refine ⟨_, rfl, qa, _, _, _, rfl, rfl, SqT.of e2, x0, rfl, _, rfl, ?_⟩
        by_cases ez : z0 = ""
        · subst ez
          refine iteF ⟨keep, ?_⟩
          rw [tk, List.filter_append, List.map_append]
          simp only [List.filter_cons, List.filter_nil]
          simpa using hD3
        · rw [show (!decide (V.str z0 = V.str "")) = true by rw [decide_eq_false (fun x => ez (V.str.inj x))]; rfl]
          refine iteT ⟨_, rfl, qa, _, _, _, rfl, rfl, SqT.of e2, x0, _, hD3, ?_, fun p o n e => by rw [upd_ne n]; exact keep p o n e, ?_⟩
          · rw [List.length_map]
            omega
          · rw [upd_same, tk, List.filter_append, List.map_append, List.map_append]
            have : ([(z0, k0)] : List (Str × Int)).filter (fun (p : Str × Int) => decide (p.1 ≠ ("" : Str))) = [(z0, k0)] := by
              rw [List.filter_cons, if_pos (decide_eq_true ez)]
              rfl
            rw [this]
            rfl
      rintro G1 ⟨keep, hD3⟩
      rw [List.length_map, List.take_of_length_le (by omega)] at hD3
      have sG1 : Same G G1 := fun p o e => keep p o (old3 _ _ e) e
      generalize hzs : (((plsOf rws).filter fun (p : Str × Int) => decide (p.1 ≠ ("" : Str))).map (·.1)) = zs at hD3
      have lzs : zs.length ≤ 10 := by
        rw [← hzs, List.length_map]
        exact Nat.le_trans (List.length_filter_le _ _) lpl
      have mzs : ∀ u, u ∈ zs ↔ u ≠ "" ∧ ∃ k, (u, k) ∈ plsOf rws := fun u => by
        rw [← hzs, List.mem_map]
        constructor
        · rintro ⟨p, hp, rfl⟩
          obtain ⟨h1, h2⟩ := List.mem_filter.mp hp
          exact ⟨of_decide_eq_true h2, p.2, h1⟩
        · rintro ⟨h1, k, h2⟩
          exact ⟨(u, k), List.mem_filter.mpr ⟨h2, decide_eq_true h1⟩, rfl⟩
      clear keep hzs
      refine ⟨D3, zs, rfl, SqL.of hD3, by omega, fun ps_ cn nps hcn => ?_⟩
      refine ⟨ps_, _, cn, rfl, upd_same, by omega, fun ys pn h1 h2 h3 h4 npn => ?_⟩
      have hU : Unk (plsOf rws) ys := ⟨h1, h2, fun u => (h3 u).trans (by rw [decide_eq_true_eq]; exact mzs u)⟩
      generalize hG : upd (upd G1 ps_ _) pn _ = H11
      have s911 : Same H9 H11 := by
        rw [← hG]
        exact sG.trans (sG1.trans (Same.trans (same_nw nps) (same_nw npn)))
      have hpn : H11 pn = some (.lst (ys.map V.str)) := by
        rw [← hG]
        exact upd_same
      clear hG npn nps sG1 hD3 h1 h2 h3 h4
      have oky := hU.ok ok
      have eys : (!PyData.eqv (.list (ys.map PyData.str)) (.list (ys.map PyData.str))) = false := by
        rw [eqv_strs, decide_eq_true rfl]
        rfl
      have F11 := (F1.same s9).same s911
      have i11 := s911 _ _ (s9 _ _ i1)
      refine ⟨_, rfl, f1, dx1, _, rfl, i11, fcF_no2.2, f1, rws, rfl, F11, fun t2 ys2 H12 s12 nt2 ht2 hU2 l2 => ?_⟩
      obtain rfl := hU2.only hU
      refine ⟨_, rfl, _, rfl, .list (ys2.map PyData.str), .list (ys2.map PyData.str), .lst (SqL.of ht2) (dp_strs ys2), .lst (SqL.of (s12 _ _ hpn)) (dp_strs ys2), shaped_strs ys2 oky, shaped_strs ys2 oky, _, rfl, ?_⟩
      rw [eys]
      refine iteF ⟨_, rfl, f1, dx1, _, rfl, s12 _ _ i11, fcF_no2.1, f1, rws, rfl, F11.same s12, fun t3 bs3 H13 s13 nt3 ht3 hB3 => ?_⟩
      have s913 := s911.trans (s12.trans s13)
      have hD13 := s913 _ _ hD9
      have hR13 : Lk (RwD H13) as rws := hR9.imp fun _ _ x => x.same s913
      refine ⟨t3, rfl, ⟨_, SqL.of ht3⟩, fun Dp_ nDp => ?_⟩
      refine lc_it (walk_list (xs := bs3.map V.ref)) (fun i H' => (∀ p o, p ≠ Dp_ → H13 p = some o → H' p = some o) ∧ ∃ cs : List Addr, H' Dp_ = some (.lst (cs.map V.ref)) ∧ Lk (RwD H') cs (rws.take i))
        ⟨fun p o n e => by rw [upd_ne n]; exact e, [], upd_same, by rw [List.take_zero]; exact .nil⟩ (fun i H' _ h => SqL.of (h.1 _ _ (ne_of_none ht3 nDp) ht3)) ?_ ?_
      · rintro i2 x G1 G2 hi2 ⟨keep, cs, hcs, lcs⟩ ⟨rfl, hx⟩
        rw [List.getElem?_map] at hx
        obtain ⟨ra, hra, rfl⟩ := Option.map_eq_some_iff.mp hx
        obtain ⟨rw, hrw, rg⟩ := Lk.get hB3 hra
        have sQ : Same H13 G2 := fun p o e => keep p o (ne_of_none e nDp) e
        have lc_ := lcs.length
        rw [List.length_take] at lc_
        refine ⟨rfl, yesT ?_⟩
        refine ⟨_, rfl, ra, rw, rfl, rg.same sQ, fun q2 G3 s3 nq rq => ?_⟩
        have hcs3 := s3 _ _ hcs
        refine ⟨_, hcs3, ?_, fun p o n e => by rw [upd_ne n]; exact s3 _ _ (keep p o n e), cs ++ [q2], by rw [upd_same, List.map_append]; rfl, ?_⟩
        · rw [List.length_map]
          omega
        · rw [List.take_succ, hrw]
          exact (lcs.imp fun _ _ x => (x.same s3).upd hcs3).append (Lk.one (rq.upd hcs3))
      rintro G1 ⟨keep, cs, hcs, lcs⟩
      rw [List.length_map, List.take_of_length_le (by have := Lk.length hB3; omega)] at lcs
      have sQ : Same H13 G1 := fun p o e => keep p o (ne_of_none e nDp) e
      refine ⟨_, rfl, _, _, dp_rows hcs lcs, dp_rows (sQ _ _ hD13) (hR13.imp fun _ _ x => x.same sQ), shaped_rows ok, shaped_rows ok, _, rfl, ?_⟩
      rw [e0]
      refine iteF ?_
      -- another name
      have s12G := s12.trans (s13.trans sQ)
      have ht2G := (s13.trans sQ) _ _ ht2
      refine ⟨_, rfl, .inl ⟨rfl, _, SqL.of ht2G⟩, t2, _, _, rfl, rfl, ht2G, by rw [List.length_map]; omega, ?_⟩
      have s14 : Same H11 (upd G1 t2 (.lst (ys2.map V.str ++ [.str "zz"]))) := fun p o e => by
        rw [upd_ne (fun x => by rw [x] at e; rw [e] at nt2; cases nt2)]
        exact s12G _ _ e
      generalize upd G1 t2 (.lst (ys2.map V.str ++ [.str "zz"])) = H14 at s14
      clear s12G ht2G sQ hcs lcs keep nDp hR13 hD13 s913 ht3 hB3 nt3 s13 ht2 nt2 s12 hU2
      refine ⟨_, rfl, f1, dx1, _, rfl, s14 _ _ i11, fcF_no2.2, f1, rws, rfl, F11.same s14, fun t4 ys4 H15 s15 nt4 ht4 hU4 l4 => ?_⟩
      obtain rfl := hU4.only hU
      refine ⟨_, rfl, .list (ys4.map PyData.str), .list (ys4.map PyData.str), .lst (SqL.of ht4) (dp_strs ys4), .lst (SqL.of ((s14.trans s15) _ _ hpn)) (dp_strs ys4), shaped_strs ys4 oky, shaped_strs ys4 oky, _, rfl, ?_⟩
      rw [eys]
      refine iteF ?_
      have s715 : Same H7 H15 := s9.trans (s911.trans (s14.trans s15))
      have B15 := B7.same s715
      have hD15 := s715 _ _ hD7
      have hR15 : Lk (RwD H15) as rws := hR7.imp fun _ _ x => x.same s715
      have F15 := F1.same s715
      have h15 := s715 _ _ h7
      have i15 := s715 _ _ i1
      clear s14 s15 s911 ht4 nt4 hU4 F11 i11 eys oky hU hpn
      refine ⟨6, rfl, by decide, by decide, for_range (lo := 0) (n := 6) (fun j σ H' => ∃ x4 x10 x11 x12 : Option V, σ = [some (.ref a), some (.int ((i : Nat) : Int)), some (.ref b), some (.ref pe), x4, some (.ref D), some (.ref f1), some (.ref t2), some (.ref ev), some (.ref pn), x10, x11, x12, v13, v14, v15, v16, v17] ∧ Bx H' b (170 + 50 * j) ∧ Kp b H15 H') ⟨v4, v10, v11, v12, rfl, B15, Kp.refl⟩ ?_ ?_⟩
      · rintro j σ H16 hj ⟨x4, x10, x11, x12, rfl, B16, K16⟩
        generalize hDE : ({ nx := _, rt := _, bk := _, ct := _ } : Ends) = DE
        have enx : ∀ σ' H', (∃ x4 x10 x11 x12 : Option V, σ' = [some (.ref a), some (.int ((i : Nat) : Int)), some (.ref b), some (.ref pe), x4, some (.ref D), some (.ref f1), some (.ref t2), some (.ref ev), some (.ref pn), x10, x11, x12, v13, v14, v15, v16, v17] ∧ Bx H' b (170 + 50 * (j + 1)) ∧ Kp b H15 H') → DE.nx σ' H' := fun σ' H' h => by
          rw [← hDE]
          exact h
        clear hDE
        refine ⟨_, rfl, b, 170 + 50 * j, 12, rfl, B16, by omega, by decide, by decide, fun g1 H17 a1 c1 B17 K17 => ⟨_, _, rfl, rfl, ?_⟩⟩
        refine ⟨_, rfl, b, 170 + 50 * j + 1, 40, rfl, B17, by omega, by decide, by decide, fun g2 H18 a2 c2 B18 K18 => ⟨_, _, rfl, rfl, (by show 2 ≤ sizeLine; decide), fun lp nlp => ?_⟩⟩
        obtain ⟨H19, e, s19, t19⟩ := one (.lst [V.int (1 + g1), V.int (32 + g2)]) nlp
        rw [← e]
        clear e
        refine ⟨_, rfl, b, 170 + 50 * j + 2, 2, rfl, B18.same s19, by omega, by decide, by decide, fun g3 H20 a3 c3 B20 K20 => ?_⟩
        obtain ⟨mv, hmv, hmm⟩ := atI_in (l := [V.int (1 + g1), V.int (32 + g2)]) (i := g3) a3 c3
        refine ⟨lp, _, _, _, rfl, rfl, SqL.of (K20 _ _ (B18.new nlp) t19), hmv, ?_⟩
        obtain ⟨pg, rfl, pg1, pg2⟩ : ∃ pg : Int, mv = .int pg ∧ 1 ≤ pg ∧ pg ≤ 100 := by
          simp only [List.mem_cons, List.not_mem_nil, or_false] at hmm
          rcases hmm with rfl | rfl
          · exact ⟨_, rfl, by omega, by omega⟩
          · exact ⟨_, rfl, by omega, by omega⟩
        have K1620 : Kp b H16 H20 := K17.trans (K18.trans ((Kp.same s19).trans K20))
        have K1520 := K16.trans K1620
        clear hmv hmm K17 K18 s19 t19 K20 B17 B18 nlp
        have h20 := K1520 _ _ peb h15
        refine ⟨_, rfl, _, rfl, _, rfl, b, pe, 170 + 50 * j + 3, y, z, pg, rfl, B20, by omega, h20, peb, pg1, by omega, fun dp kvs H21 hz t21 ndp dpb B21 K21 => ?_⟩
        have K1521 := K1520.trans K21
        have hD21 := K1521 _ _ Db hD15
        have hR21 : Lk (RwD H21) as rws := hR15.imp fun _ _ x => x.kp B15 K1521
        have F21 := F15.kp B15 K1521
        have hno : valV kvs (.inr "") = none := by
          cases ev : valV kvs (.inr "") with
          | none => rfl
          | some v =>
            obtain ⟨u, n, e, hu, _⟩ := hz.all _ (mem_valV ev)
            cases e
            rcases hu with e | e
            · have := ry.1
              rw [← e] at this
              exact absurd this (by decide +kernel)
            · have := rz.1
              rw [← e] at this
              exact absurd this (by decide +kernel)
        have hall := hz.has hin
        -- what is due
        refine ⟨_, rfl, D, rfl, ⟨_, SqL.of hD21⟩, fun D4 nD4 => ?_⟩
        refine lc_it (walk_list (xs := as.map V.ref)) (fun i H' => (∀ p o, p ≠ D4 → H21 p = some o → H' p = some o) ∧ ∃ fs : List Addr, H' D4 = some (.lst (fs.map V.ref)) ∧ fs.isEmpty = (rws.take i).all (keepR kvs pg) ∧ fs.length ≤ i)
          ⟨fun p o n e => by rw [upd_ne n]; exact e, [], upd_same, rfl, Nat.le_refl _⟩ (fun i H' _ h => SqL.of (h.1 _ _ (ne_of_none hD21 nD4) hD21)) ?_ ?_
        · rintro i2 x G1 G2 hi2 ⟨keep, fs, hfs, efs, lfs⟩ ⟨rfl, hx⟩
          rw [List.getElem?_map] at hx
          obtain ⟨ra, hra, rfl⟩ := Option.map_eq_some_iff.mp hx
          obtain ⟨rw, hrw, rg⟩ := Lk.get hR21 hra
          have mem := List.mem_of_getElem? hrw
          rw [List.length_map] at hi2
          have sG : Same H21 G2 := fun p o e => keep p o (ne_of_none e nD4) e
          have tk : (rws.take (i2 + 1)).all (keepR kvs pg) = ((rws.take i2).all (keepR kvs pg) && keepR kvs pg rw) := by
            rw [List.take_succ, hrw, List.all_append]
            simp
          refine ⟨rfl, ?_⟩
          refine ⟨_, rfl, _, rfl, _, rfl, dp, ra, kvs, pg, rw, rfl, sG _ _ t21, hz.kint, hno, pg1, by omega, rg.same sG, hasR_of hz.kint hall rw mem, fun G3 s3 => ⟨_, rfl, ?_⟩⟩
          cases hk : keepR kvs pg rw with
          | true =>
            refine iteF ⟨fun p o n e => s3 _ _ (keep p o n e), fs, s3 _ _ hfs, ?_, by omega⟩
            rw [tk, hk, Bool.and_true]
            exact efs
          | false =>
            refine iteT ⟨_, rfl, _, s3 _ _ hfs, ?_, fun p o n e => by rw [upd_ne n]; exact s3 _ _ (keep p o n e), fs ++ [ra], by rw [upd_same, List.map_append]; rfl, ?_, by rw [List.length_append]; show fs.length + 1 ≤ _; omega⟩
            · rw [List.length_map]
              omega
            · rw [tk, hk, Bool.and_false]
              cases fs <;> rfl
        rintro G1 ⟨keep, fs, hfs, efs, lfs⟩
        rw [List.length_map, List.take_of_length_le (by omega)] at efs
        have sG : Same H21 G1 := fun p o e => keep p o (ne_of_none e nD4) e
        refine ⟨(by show 0 ≤ sizeLine; decide), fun p0 np0 => ?_⟩
        have s2 : Same G1 (upd G1 p0 (.lst [])) := same_nw np0
        have t2_ : upd G1 p0 (.lst []) p0 = some (.lst []) := upd_same
        generalize upd G1 p0 (.lst []) = G2 at s2 t2_
        have efs2 : (fs.map V.ref).isEmpty = rws.all (keepR kvs pg) := by
          rw [← efs]
          cases fs <;> rfl
        refine ⟨D4, p0, _, rfl, rfl, SqL.of (s2 _ _ hfs), SqL.of t2_, ?_⟩
        rw [efs2]
        have s21 := sG.trans s2
        have F22 := F21.same s21
        obtain ⟨dx2, rl2, ul2, _, _, j1, _⟩ := id F22
        clear keep hfs efs lfs efs2 sG s2 t2_ np0 nD4
        have hb : ∀ {bb : Bool}, (PyData.shown (.bool bb)).length ≤ sizeLine := fun {bb} => by cases bb <;> decide +kernel
        generalize hbo : rws.all (keepR kvs pg) = both
        refine ⟨_, rfl, f1, dx2, _, rfl, j1, fcF_no, _, rfl, _, rfl, rfl, rfl, mk_setting hz ry rz pg1 (s21 _ _ t21) fun st G3 s3 nst hst => ?_⟩
        refine ⟨rfl, f1, _, rws, rfl, F22.same s3, .inl ⟨st, kvs, pg, rfl, hst, hz.kint, pg1, hall, fun G4 s4 => ?_⟩⟩
        rw [hbo]
        refine ⟨_, .bool _, rfl, .bl _, rfl, rfl, (by simp [PyData.depth]), hb, _, rfl, ⟨_, .bool _, rfl, .bl _, rfl, rfl, (by simp [PyData.depth]), hb, ⟨rfl, _, rfl, ?_⟩⟩⟩
        rw [show (!decide (V.str (PyData.shown (.bool both)) = V.str (PyData.shown (.bool both)))) = false by rw [decide_eq_true rfl]; rfl]
        refine iteF ?_
        have s24 := s21.trans (s3.trans s4)
        exact enx _ _ ⟨_, _, _, _, rfl, (B21.same s24).more (by omega), K1521.trans (Kp.same s24)⟩
      rintro σ H16 ⟨x4, x10, x11, x12, rfl, B16, K16⟩
      have hD16 := K16 _ _ Db hD15
      have hR16 : Lk (RwD H16) as rws := hR15.imp fun _ _ x => x.kp B15 K16
      have F16 := F15.kp B15 K16
      have h16 := K16 _ _ peb h15
      have B16 := B16.more (show 170 + 50 * 6 ≤ 500 by omega)
      have Kall := K3.trans (K4.trans (K36.trans (K7.trans ((Kp.same s715).trans K16))))
      clear hD15 hR15 F15 h15 B15 K16 i15 s715
      -- == of facts
      have own : ∀ {G : Hp} {f : Addr} {rs : List Row}, Fac F C G f rs → ∃ dx rl ul, G f = some (.ins F dx (fcF rl ul)) ∧ Oth K F G (.ref f) := fun {G f rs} h => by
        obtain ⟨dx, rl, ul, _, _, e, _⟩ := h
        exact ⟨dx, rl, ul, e, .ref F, .base (.ins e YF.cl YF.ha YF.hn YF.htk YF.hm), by simp [PySem.W.notFirst]⟩
      refine ⟨_, rfl, _, rfl, _, rfl, b, D, 500, as, rws, [y, z], rfl, B16, by omega, hD16, Db, hR16, by omega, by simp, hin, fun f2 H17 K17 B17 n17 b17 F2 => ?_⟩
      have F17 := F16.kp B16 K17
      obtain ⟨dx2, rl2, ul2, j1, _⟩ := own F17
      obtain ⟨_, _, _, _, o2⟩ := own F2
      refine ⟨f1, dx2, _, rfl, j1, o2, f1, rws, F17, .inl ⟨f2, rws, rfl, F2, fun H18 s18 => ⟨_, rfl, ?_⟩⟩⟩
      rw [decide_eq_true rfl]
      have K18 := K17.trans (Kp.same s18)
      have hD18 := K18 _ _ Db hD16
      refine ⟨_, rfl, iteF ⟨_, rfl, _, rfl, f1, dx2, _, rfl, s18 _ _ j1, ⟨_, .base (.lst hD18), nfL⟩, f1, rws, F17.same s18, .inr ⟨.ref D, rfl, ⟨_, .base (.lst hD18), kL⟩, ⟨_, rfl, ⟨_, rfl, iteF ?_⟩⟩⟩⟩⟩
      have B18 := B17.same s18
      have hR18 : Lk (RwD H18) as rws := hR16.imp fun _ _ x => x.kp B16 K18
      have h18 := K18 _ _ peb h16
      -- other rows
      refine ⟨_, rfl, D, _, rfl, SqL.of hD18, fun q1 nq1 => ?_⟩
      have s19 : Same H18 (upd H18 q1 (.lst (as.map V.ref).reverse)) := same_nw nq1
      have t19 : upd H18 q1 (.lst (as.map V.ref).reverse) q1 = some (.lst (as.map V.ref).reverse) := upd_same
      generalize upd H18 q1 (.lst (as.map V.ref).reverse) = H19 at s19 t19
      have q1b : q1 ≠ b := B18.new nq1
      have B19 := B18.same s19
      rw [← List.map_reverse] at t19
      refine ⟨_, rfl, _, rfl, _, rfl, b, D, pe, 620, as, rws, [y, z], rfl, B19, by omega, s19 _ _ hD18, Db, hR18.imp fun _ _ x => x.same s19, by omega, s19 _ _ h18, by simp, rr, peb, hin, fun c1 as2 rws2 H20 hc1 hR2 l2_ hin2 nc1 c1b B20 K20 => ?_⟩
      have K1820 := (Kp.same s19).trans K20
      refine ⟨_, rfl, _, rfl, _, rfl, b, D, pe, 640, as, rws, [y, z], rfl, B20, by omega, K1820 _ _ Db hD18, Db, hR18.imp fun _ _ x => x.kp B18 K1820, by omega, K1820 _ _ peb h18, by simp, rr, peb, hin, fun c2 as3 rws3 H21 hc2 hR3 l3_ hin3 nc2 c2b B21 K21 => ?_⟩
      refine ⟨(by show 0 ≤ sizeLine; decide), fun e1_ ne1 => ?_⟩
      have s22 : Same H21 (upd H21 e1_ (.lst [])) := same_nw ne1
      have t22 : upd H21 e1_ (.lst []) e1_ = some (.lst []) := upd_same
      generalize upd H21 e1_ (.lst []) = H22 at s22 t22
      have e1b : e1_ ≠ b := B21.new ne1
      refine ⟨(by show 4 ≤ sizeLine; decide), fun L nL => ?_⟩
      have s23 : Same H22 (upd H22 L (.lst [.ref q1, .ref c1, .ref c2, .ref e1_])) := same_nw nL
      have t23 : upd H22 L (.lst [.ref q1, .ref c1, .ref c2, .ref e1_]) L = some (.lst [.ref q1, .ref c1, .ref c2, .ref e1_]) := upd_same
      have B24 : Bx (upd H22 L (.lst [.ref q1, .ref c1, .ref c2, .ref e1_])) b 700 := ((B21.same s22).same s23).more (by omega)
      have Lb : L ≠ b := (B21.same s22).new nL
      generalize upd H22 L (.lst [.ref q1, .ref c1, .ref c2, .ref e1_]) = H24 at s23 t23 B24
      have s2124 := s22.trans s23
      have K2024 : Kp b H20 H24 := K21.trans (Kp.same s2124)
      have K1924 : Kp b H19 H24 := K20.trans K2024
      have K1824 : Kp b H18 H24 := (Kp.same s19).trans K1924
      have KH : Kp b H0 H24 := Kall.trans (K18.trans K1824)
      have hD24 := K1824 _ _ Db hD18
      have hR24 : Lk (RwD H24) as rws := hR18.imp fun _ _ x => x.kp B18 K1824
      have F24 := (F17.same s18).kp B18 K1824
      generalize hM : ([(q1, as.reverse, rws.reverse), (c1, as2, rws2), (c2, as3, rws3), (e1_, [], [])] : List (Addr × List Addr × List Row)) = M
      have eM : ([V.ref q1, V.ref c1, V.ref c2, V.ref e1_] : List V) = M.map fun t => V.ref t.1 := by rw [← hM]; rfl
      have pM : ∀ t ∈ M, t.1 ≠ b ∧ H24 t.1 = some (.lst (t.2.1.map V.ref)) ∧ Lk (RwD H24) t.2.1 t.2.2 ∧ ∀ rw ∈ t.2.2, InR [y, z] rw := fun t ht => by
        rw [← hM] at ht
        simp only [List.mem_cons, List.not_mem_nil, or_false] at ht
        rcases ht with rfl | rfl | rfl | rfl
        · exact ⟨q1b, K1924 _ _ q1b t19, hR24.rev, fun rw h => hin rw (List.mem_reverse.mp h)⟩
        · exact ⟨c1b, K2024 _ _ c1b hc1, hR2.imp fun _ _ x => x.kp B20 K2024, hin2⟩
        · exact ⟨c2b, s2124 _ _ hc2, hR3.imp fun _ _ x => x.same s2124, hin3⟩
        · exact ⟨e1b, s23 _ _ t22, .nil, fun _ h => nomatch h⟩
      have lM : M.length = 4 := by rw [← hM]; rfl
      rw [eM] at t23
      clear hM eM t22 hc1 hc2 hR2 hR3 t19 s23 s22 s19 K1824 K1924 K2024 K21 K20 K18 K17 hD18 hD16 hR18 hR16 h18 h16 B18 B19 B20 B21 B17 B16 F17 F16 F2 j1 o2 s2124 K1820
      refine ⟨L, rfl, ⟨_, SqL.of t23⟩, ?_⟩
      refine for_list (K := K) (a := L) (xs := M.map fun t => V.ref t.1) (fun j σ H' => ∃ x13 x14 x15 : Option V, σ = [some (.ref a), some (.int ((i : Nat) : Int)), some (.ref b), some (.ref pe), x4, some (.ref D), some (.ref f1), some (.ref t2), some (.ref ev), some (.ref pn), x10, x11, x12, x13, x14, x15, v16, v17] ∧ Bx H' b (700 + 130 * j) ∧ Kp b H24 H') ⟨v13, v14, v15, rfl, B24, Kp.refl⟩ (fun j σ H' _ ⟨_, _, _, _, _, k⟩ => SqL.of (k _ _ Lb t23)) ?_ ?_
      · rintro j x σ H25 hx ⟨x13, x14, x15, rfl, B25, K25⟩
        generalize hDE : ({ nx := _, rt := _, bk := _, ct := _ } : Ends) = DE
        have enx : ∀ σ' H', (∃ x13 x14 x15 : Option V, σ' = [some (.ref a), some (.int ((i : Nat) : Int)), some (.ref b), some (.ref pe), x4, some (.ref D), some (.ref f1), some (.ref t2), some (.ref ev), some (.ref pn), x10, x11, x12, x13, x14, x15, v16, v17] ∧ Bx H' b (700 + 130 * (j + 1)) ∧ Kp b H24 H') → DE.nx σ' H' := fun σ' H' h => by
          rw [← hDE]
          exact h
        clear hDE
        rw [List.getElem?_map] at hx
        obtain ⟨⟨mt, ma, mr⟩, ht, rfl⟩ := Option.map_eq_some_iff.mp hx
        have hj : j < 4 := by rw [← lM]; exact (List.getElem?_eq_some_iff.mp ht).1
        obtain ⟨mb, m1_, m2_, m3_⟩ := pM _ (List.mem_of_getElem? ht)
        have m1_ : H24 mt = some (.lst (ma.map V.ref)) := m1_
        have m2_ : Lk (RwD H24) ma mr := m2_
        have mb : mt ≠ b := mb
        have m3_ : ∀ rw ∈ mr, InR [y, z] rw := m3_
        have ml := m2_.length
        have m25 := K25 _ _ mb m1_
        refine ⟨_, rfl, mt, _, rfl, .inl (SqL.of m25), _, _, rfl, rfl, _, rfl, ite2 (fun e6 => ?_) (fun _ => ?_)⟩
        · have e6 : (((ma.map V.ref).length : Nat) : Int) < 6 := of_decide_eq_true e6
          rw [List.length_map] at e6
          have mR25 : Lk (RwD H25) ma mr := m2_.imp fun _ _ x => x.kp B24 K25
          refine ⟨_, rfl, _, rfl, b, mt, 700 + 130 * j, ma, mr, [y, z], rfl, B25, by omega, m25, mb, mR25, by omega, by simp, m3_, fun f3 H26 K26 B26 n26 b26 F3 => ?_⟩
          have K2426 := K25.trans K26
          have mR26 : Lk (RwD H26) ma mr := mR25.imp fun _ _ x => x.kp B25 K26
          have hR26 : Lk (RwD H26) as rws := hR24.imp fun _ _ x => x.kp B24 K2426
          have F26 := F24.kp B24 K2426
          refine ⟨_, rfl, _, rfl, .list (rws.map rwD), .list (mr.map rwD), dp_rows (K2426 _ _ Db hD24) hR26, dp_rows (K26 _ _ mb m25) mR26, shaped_rows ok, shaped_rows (RwD.ok mR26), ?_⟩
          rw [eqv_rows]
          obtain ⟨dx4, _, _, k4, o4⟩ := own F26
          obtain ⟨dx5, _, _, k5, o5⟩ := own F3
          refine ⟨_, rfl, _, rfl, f1, dx4, _, rfl, k4, o5, f1, rws, F26, .inl ⟨f3, mr, rfl, F3, fun H27 s27 => ⟨_, rfl, ?_⟩⟩⟩
          have k4_ := s27 _ _ k4
          have k5_ := s27 _ _ k5
          obtain ⟨_, _, _, _, o4_⟩ := own (F26.same s27)
          refine ⟨_, rfl, _, rfl, f3, dx5, _, rfl, k5_, o4_, f3, mr, F3.same s27, .inl ⟨f1, rws, rfl, F26.same s27, fun H28 s28 => ⟨_, rfl, ?_⟩⟩⟩
          have s2628 := s27.trans s28
          obtain ⟨_, _, _, _, o5_⟩ := own (F3.same s2628)
          refine ⟨_, rfl, _, rfl, f1, dx4, _, rfl, s28 _ _ k4_, o5_, f1, rws, F26.same s2628, .inl ⟨f3, mr, rfl, F3.same s2628, fun H29 s29 => ⟨_, rfl, ?_⟩⟩⟩
          rw [show decide (mr = rws) = decide (rws = mr) from decide_eq_decide.mpr ⟨fun x => x.symm, fun x => x.symm⟩]
          generalize decide (rws = mr) = both
          refine ⟨(by show 3 ≤ sizeLine; decide), fun u1 nu1 => ?_⟩
          have s30 : Same H29 (upd H29 u1 (.lst [.bl both, .bl both, .bl (!both)])) := same_nw nu1
          have t30 : upd H29 u1 (.lst [.bl both, .bl both, .bl (!both)]) u1 = some (.lst [.bl both, .bl both, .bl (!both)]) := upd_same
          generalize upd H29 u1 (.lst [.bl both, .bl both, .bl (!both)]) = H30 at s30 t30
          refine ⟨_, rfl, _, rfl, _, rfl, _, rfl, (by show 3 ≤ sizeLine; decide), fun u2 nu2 => ?_⟩
          have s31 : Same H30 (upd H30 u2 (.lst [.bl both, .bl both, .bl (!both)])) := same_nw nu2
          have t31 : upd H30 u2 (.lst [.bl both, .bl both, .bl (!both)]) u2 = some (.lst [.bl both, .bl both, .bl (!both)]) := upd_same
          generalize upd H30 u2 (.lst [.bl both, .bl both, .bl (!both)]) = H31 at s31 t31
          refine ⟨_, _, dp_bls (s31 _ _ t30), dp_bls t31, rfl, rfl, _, rfl, ?_⟩
          rw [ne_bls]
          refine iteF ?_
          have s2631 := s2628.trans (s29.trans (s30.trans s31))
          exact enx _ _ ⟨_, _, _, rfl, (B26.same s2631).more (by omega), K2426.trans (Kp.same s2631)⟩
        · exact enx _ _ ⟨_, _, _, rfl, B25.more (by omega), K25⟩
      · rintro σ H25 ⟨x13, x14, x15, rfl, B25, K25⟩
        exact dnx _ _ ⟨_, _, _, _, _, _, _, _, _, _, _, _, _, _, _, _, _, rfl, s0.trans (same_of8 nb (KH.trans K25))⟩
    have fl : (qss.map fun qs => qs.map V.ref).flatten = qss.flatten.map V.ref := by rw [List.map_flatten]
    refine ⟨D2, zl, ls, qss.map fun qs => qs.map V.ref, rfl, rfl, SqL.of (sz1 _ _ hls), tz1, by rw [List.length_map]; exact lqs, fun j l xs hl hxs => ?_, ?_, fun e => ?_, fun _ p np => ?_⟩
    · obtain ⟨qs, hqs, _, e⟩ := lk1.get hl
      rw [List.getElem?_map, hqs] at hxs
      cases hxs
      exact sz1 _ _ e
    · rw [fl, List.length_map]
      omega
    · have e0 : qss = [] := List.length_eq_zero_iff.mp (by rw [← lqs, e]; rfl)
      rw [e0] at lk2
      exact rest zl G2 [] s92 tz1 (lk2.imp fun _ _ x => sz1 _ _ x)
    · rw [fl]
      have sp := same_nw (o := .lst (qss.flatten.map V.ref)) np
      exact rest p _ qss.flatten (s92.trans sp) upd_same (lk2.imp fun _ _ x => sp _ _ (sz1 _ _ x))
end
end Mz
set_option Elab.async false
set_option linter.all false
set_option maxRecDepth 100000
set_option maxHeartbeats 4000000
namespace Mz
open PySem PySem.Spec PyProof.Rows L2
theorem kb_one {K : PySem.W.Frag} {x qual : Str} {st : Stmt} {f : Addr} {fd : FuncData} {ps : List Str} (F : Fun K x qual st f fd) (n : Nat) (ks : List Str)
    (h : ∀ (kV doc pm : Value) (an : Option Addr) (cdv ct : Value) (us ws : List Value), us.length = n → ws.length = ks.length → bindArgs (PySem.W.fnOf x qual (defArgs st) (defBody st) (defScope st) .none kV doc pm an cdv ct) ⟨us, ks.zip ws⟩ = pure (ps.zip (us ++ ws))) :
    KBn K fd ps n ks (fun us ws => us ++ ws) (fun vs zs => vs ++ zs) := by
  obtain ⟨oc, od, kV, doc, pm, an, cdv, ct, osl, rfl, lk, hcd⟩ := F.ex
  exact ⟨fun s us ws _ hu hw => .of_eq (h kV doc pm an cdv ct us ws hu hw), fun r1 r2 => r1.append r2⟩
theorem kit_own {K : PySem.W.Frag} {C : Addr} {T : String} (hm : PySem.W.mroIn K C (.type T) = some false) (h2 : PySem.W.kitMeta T = true) : PySem.W.kitOne K (.ref C) (.type T) = some false := by
  unfold PySem.W.kitOne
  rw [if_neg (by intro e; cases e)]
  show (if PySem.W.kitMeta T = true then PySem.W.mroIn K C (.type T) else none) = some false
  rw [if_pos h2, hm]
theorem kit_ref {K : PySem.W.Frag} {C : Addr} {T : String} {b : Bool} (hdct : PySem.W.hasDictIn K C = true) (ht : PySem.W.typeIn K (.ref C) = some (.type "type")) (h4 : PySem.W.subIn K (.type T) (.ref C) = some b) : PySem.W.kitOne K (.type T) (.ref C) = some b := by
  obtain ⟨cd, hc, _⟩ := PySem.W.any_some hdct
  unfold PySem.W.kitOne
  rw [if_neg (by intro e; cases e)]
  show (if ((PySem.W.clsIn K C).isSome && PySem.W.typeIn K (.ref C) == some (.type "type")) = true then PySem.W.subIn K (.type T) (.ref C) else none) = some b
  rw [if_pos (by rw [hc, ht] <;> rfl)]
  exact h4
/-! a written dict from texts to ints -/
def entOf (P : Params) (q : Str × Int × Tok × Tok) : DictEntry := ⟨PyData.keyHash P q.1, .str q.1 q.2.2.1, .int q.2.1 q.2.2.2⟩
def lookF (z : Str) : List (Str × Int × Tok × Tok) → Option Int
  | [] => none
  | q :: r => if z = q.1 then some q.2.1 else lookF z r
theorem lit_of {P : Params} : ∀ l : List (Str × Int × Tok × Tok), PySem.W.KeysLit P (l.map (entOf P))
  | [] => trivial
  | q :: r => ⟨⟨q.1, q.2.2.1, rfl, rfl⟩, lit_of r⟩
theorem find_ent {P : Params} {z : Str} : ∀ l : List (Str × Int × Tok × Tok), (lookF z l = none ∧ (l.map (entOf P)).find? (fun x => x.key.isStr z) = none) ∨
    ∃ i t e, lookF z l = some i ∧ (l.map (entOf P)).find? (fun x => x.key.isStr z) = some e ∧ e.val = .int i t
  | [] => .inl ⟨rfl, rfl⟩
  | q :: r => by
    by_cases h : z = q.1
    · refine .inr ⟨q.2.1, q.2.2.2, entOf P q, if_pos h, ?_, rfl⟩
      rw [List.map_cons, List.find?_cons_of_pos]
      show (q.1 == z) = true
      rw [h]
      exact beq_self_eq_true _
    · have e1 : lookF z (q :: r) = lookF z r := if_neg h
      have e2 : ((q :: r).map (entOf P)).find? (fun x => x.key.isStr z) = (r.map (entOf P)).find? (fun x => x.key.isStr z) := by
        rw [List.map_cons, List.find?_cons_of_neg]
        show ¬ (q.1 == z) = true
        intro x
        exact h (beq_iff_eq.mp x).symm
      rw [e1, e2]
      exact find_ent r
theorem tab_of {K : PySem.W.Frag} {w : World} {d : Addr} {es : Array DictEntry} {n : Nat} {l : List (Str × Int × Tok × Tok)} {f : Str → Option Int} (h : K.lookup d = some ⟨.type "dict", none, .dict es n, #[]⟩) (hl : es.toList = l.map (entOf w.params)) (low : (d == sysModules) = false)
    (hf : ∀ z, f z = lookF z l) : Tab K w d f := by
  refine ⟨es, n, ⟨h, by rw [hl]; exact lit_of l, low⟩, fun z => ?_⟩
  have nr : (es.toList.any fun x => x.refKey) = false := by
    rw [hl]
    rw [List.any_eq_false]
    intro e he
    obtain ⟨q, _, rfl⟩ := List.mem_map.mp he
    exact Bool.false_ne_true
  unfold PySem.W.nsIn
  rw [h]
  dsimp only
  rcases find_ent (P := w.params) (z := z) l with ⟨e1, e2⟩ | ⟨i, t, e, e1, e2, e3⟩
  · rw [hl, e2]
    rw [hl] at nr
    refine ⟨none, ?_, .inl ⟨(hf z).trans e1, rfl⟩⟩
    dsimp only
    rw [nr]
    rfl
  · rw [hl, e2]
    exact ⟨some (.int i t), by rw [← e3], .inr ⟨i, t, (hf z).trans e1, rfl⟩⟩
theorem all_mk {l : PySem.W.OpenLaw} {w : World} {K : PySem.W.Frag} {h : Heap} {mg : Str → Option Value} {fa : Addr} (X : K.In h) (G : h.Ns mainGlobals mg) (hfa : mg "law" = some (.ref fa))
    {cF cG cH cI cM cP cR cS cX po pb ph pg2 fI tD kD kG fra dtn dts dtp : Addr} {ro rb rh rg : List Value} {fi ri : Option Value}
    {fwh : Addr} {odwh anwh : Option Addr} {slwh : Array (Option Value)} {ocwh kVwh dcwh pmwh cdwh ctwh : Value}
    {fii : Addr} {odii anii : Option Addr} {slii : Array (Option Value)} {ocii kVii dcii pmii cdii ctii : Value}
    {ffr : Addr} {odfr anfr : Option Addr} {slfr : Array (Option Value)} {ocfr kVfr dcfr pmfr cdfr ctfr : Value}
    {fna : Addr} {odna anna : Option Addr} {slna : Array (Option Value)} {ocna kVna dcna pmna cdna ctna : Value}
    {fip : Addr} {odip anip : Option Addr} {slip : Array (Option Value)} {ocip kVip dcip pmip cdip ctip : Value}
    {fuo : Addr} {oduo anuo : Option Addr} {sluo : Array (Option Value)} {ocuo kVuo dcuo pmuo cduo ctuo : Value}
    {fle : Addr} {odle anle : Option Addr} {slle : Array (Option Value)} {ocle kVle dcle pmle cdle ctle : Value}
    {fpt : Addr} {odpt anpt : Option Addr} {slpt : Array (Option Value)} {ocpt kVpt dcpt pmpt cdpt ctpt : Value}
    {fhs : Addr} {odhs anhs : Option Addr} {slhs : Array (Option Value)} {ochs kVhs dchs pmhs cdhs cths : Value}
    {far : Addr} {odar anar : Option Addr} {slar : Array (Option Value)} {ocar kVar dcar pmar cdar ctar : Value}
    {fif_ : Addr} {odif_ anif_ : Option Addr} {slif_ : Array (Option Value)} {ocif_ kVif_ dcif_ pmif_ cdif_ ctif_ : Value}
    {fpl : Addr} {odpl anpl : Option Addr} {slpl : Array (Option Value)} {ocpl kVpl dcpl pmpl cdpl ctpl : Value}
    {fpo_ : Addr} {odpo_ anpo_ : Option Addr} {slpo_ : Array (Option Value)} {ocpo_ kVpo_ dcpo_ pmpo_ cdpo_ ctpo_ : Value}
    {fke : Addr} {odke anke : Option Addr} {slke : Array (Option Value)} {ocke kVke dcke pmke cdke ctke : Value}
    {fce : Addr} {odce ance : Option Addr} {slce : Array (Option Value)} {occe kVce dcce pmce cdce ctce : Value}
    {fbo : Addr} {odbo anbo : Option Addr} {slbo : Array (Option Value)} {ocbo kVbo dcbo pmbo cdbo ctbo : Value}
    {fta : Addr} {odta anta : Option Addr} {slta : Array (Option Value)} {octa kVta dcta pmta cdta ctta : Value}
    {flpr : Addr} {odlpr anlpr : Option Addr} {sllpr : Array (Option Value)} {oclpr kVlpr dclpr pmlpr cdlpr ctlpr : Value}
    {flto : Addr} {odlto anlto : Option Addr} {sllto : Array (Option Value)} {oclto kVlto dclto pmlto cdlto ctlto : Value}
    {flrt : Addr} {odlrt anlrt : Option Addr} {sllrt : Array (Option Value)} {oclrt kVlrt dclrt pmlrt cdlrt ctlrt : Value}
    {flsz : Addr} {odlsz anlsz : Option Addr} {sllsz : Array (Option Value)} {oclsz kVlsz dclsz pmlsz cdlsz ctlsz : Value}
    {flrw : Addr} {odlrw anlrw : Option Addr} {sllrw : Array (Option Value)} {oclrw kVlrw dclrw pmlrw cdlrw ctlrw : Value}
    {flre : Addr} {odlre anlre : Option Addr} {sllre : Array (Option Value)} {oclre kVlre dclre pmlre cdlre ctlre : Value}
    {flma : Addr} {odlma anlma : Option Addr} {sllma : Array (Option Value)} {oclma kVlma dclma pmlma cdlma ctlma : Value}
    {flch : Addr} {odlch anlch : Option Addr} {sllch : Array (Option Value)} {oclch kVlch dclch pmlch cdlch ctlch : Value}
    {flps : Addr} {odlps anlps : Option Addr} {sllps : Array (Option Value)} {oclps kVlps dclps pmlps cdlps ctlps : Value}
    {flke : Addr} {odlke anlke : Option Addr} {sllke : Array (Option Value)} {oclke kVlke dclke pmlke cdlke ctlke : Value}
    {flss : Addr} {odlss anlss : Option Addr} {sllss : Array (Option Value)} {oclss kVlss dclss pmlss cdlss ctlss : Value}
    {fla : Addr} {odla anla : Option Addr} {slla : Array (Option Value)} {ocla kVla dcla pmla cdla ctla : Value}
    {fmo : Addr} {odmo anmo : Option Addr} {slmo : Array (Option Value)} {ocmo kVmo dcmo pmmo cdmo ctmo : Value}
    {fmb : Addr} {odmb anmb : Option Addr} {slmb : Array (Option Value)} {ocmb kVmb dcmb pmmb cdmb ctmb : Value}
    {fmh : Addr} {odmh anmh : Option Addr} {slmh : Array (Option Value)} {ocmh kVmh dcmh pmmh cdmh ctmh : Value}
    {fmq : Addr} {odmq anmq : Option Addr} {slmq : Array (Option Value)} {ocmq kVmq dcmq pmmq cdmq ctmq : Value}
    {fmd : Addr} {odmd anmd : Option Addr} {slmd : Array (Option Value)} {ocmd kVmd dcmd pmmd cdmd ctmd : Value}
    {fmx : Addr} {odmx anmx : Option Addr} {slmx : Array (Option Value)} {ocmx kVmx dcmx pmmx cdmx ctmx : Value}
    {fmi : Addr} {odmi anmi : Option Addr} {slmi : Array (Option Value)} {ocmi kVmi dcmi pmmi cdmi ctmi : Value}
    {fmt : Addr} {odmt anmt : Option Addr} {slmt : Array (Option Value)} {ocmt kVmt dcmt pmmt cdmt ctmt : Value}
    {fmr : Addr} {odmr anmr : Option Addr} {slmr : Array (Option Value)} {ocmr kVmr dcmr pmmr cdmr ctmr : Value}
    {fmf : Addr} {odmf anmf : Option Addr} {slmf : Array (Option Value)} {ocmf kVmf dcmf pmmf cdmf ctmf : Value}
    {fg0 : Addr} {odg0 ang0 : Option Addr} {slg0 : Array (Option Value)} {ocg0 kVg0 dcg0 pmg0 cdg0 ctg0 : Value}
    {fg2 : Addr} {odg2 ang2 : Option Addr} {slg2 : Array (Option Value)} {ocg2 kVg2 dcg2 pmg2 cdg2 ctg2 : Value}
    {fg3 : Addr} {odg3 ang3 : Option Addr} {slg3 : Array (Option Value)} {ocg3 kVg3 dcg3 pmg3 cdg3 ctg3 : Value}
    {fg5 : Addr} {odg5 ang5 : Option Addr} {slg5 : Array (Option Value)} {ocg5 kVg5 dcg5 pmg5 cdg5 ctg5 : Value}
    {fh0 : Addr} {odh0 anh0 : Option Addr} {slh0 : Array (Option Value)} {och0 kVh0 dch0 pmh0 cdh0 cth0 : Value}
    {fh1 : Addr} {odh1 anh1 : Option Addr} {slh1 : Array (Option Value)} {och1 kVh1 dch1 pmh1 cdh1 cth1 : Value}
    {fh2 : Addr} {odh2 anh2 : Option Addr} {slh2 : Array (Option Value)} {och2 kVh2 dch2 pmh2 cdh2 cth2 : Value}
    {fh3 : Addr} {odh3 anh3 : Option Addr} {slh3 : Array (Option Value)} {och3 kVh3 dch3 pmh3 cdh3 cth3 : Value}
    {fh4 : Addr} {odh4 anh4 : Option Addr} {slh4 : Array (Option Value)} {och4 kVh4 dch4 pmh4 cdh4 cth4 : Value}
    {fh5 : Addr} {odh5 anh5 : Option Addr} {slh5 : Array (Option Value)} {och5 kVh5 dch5 pmh5 cdh5 cth5 : Value}
    {fh6 : Addr} {odh6 anh6 : Option Addr} {slh6 : Array (Option Value)} {och6 kVh6 dch6 pmh6 cdh6 cth6 : Value}
    (awh : PySem.W.nsIn K mainGlobals "_is_whole" = some (some (.ref fwh))) (lwh : K.lookup fwh = some ⟨ocwh, odwh, .func (PySem.W.fnOf "_is_whole" "_is_whole" (defArgs sWhole) (defBody sWhole) (defScope sWhole) .none kVwh dcwh pmwh anwh cdwh ctwh), slwh⟩) (cwh : PySem.W.codeIn K cdwh "_is_whole" = true) (kwh : PySem.W.keepIn K (.ref fwh) = true)
    (aii : PySem.W.nsIn K mainGlobals "is_integer" = some (some (.ref fii))) (lii : K.lookup fii = some ⟨ocii, odii, .func (PySem.W.fnOf "is_integer" "is_integer" (defArgs sIsInt) (defBody sIsInt) (defScope sIsInt) .none kVii dcii pmii anii cdii ctii), slii⟩) (cii : PySem.W.codeIn K cdii "is_integer" = true) (kii : PySem.W.keepIn K (.ref fii) = true)
    (afr : PySem.W.nsIn K mainGlobals "is_integer_from" = some (some (.ref ffr))) (lfr : K.lookup ffr = some ⟨ocfr, odfr, .func (PySem.W.fnOf "is_integer_from" "is_integer_from" (defArgs sIsFrom) (defBody sIsFrom) (defScope sIsFrom) .none kVfr dcfr pmfr anfr cdfr ctfr), slfr⟩) (cfr : PySem.W.codeIn K cdfr "is_integer_from" = true) (kfr : PySem.W.keepIn K (.ref ffr) = true)
    (ana : PySem.W.nsIn K mainGlobals "is_name" = some (some (.ref fna))) (lna : K.lookup fna = some ⟨ocna, odna, .func (PySem.W.fnOf "is_name" "is_name" (defArgs sIsName) (defBody sIsName) (defScope sIsName) .none kVna dcna pmna anna cdna ctna), slna⟩) (cna : PySem.W.codeIn K cdna "is_name" = true) (kna : PySem.W.keepIn K (.ref fna) = true)
    (aip : PySem.W.nsIn K mainGlobals "is_place" = some (some (.ref fip))) (lip : K.lookup fip = some ⟨ocip, odip, .func (PySem.W.fnOf "is_place" "is_place" (defArgs sIsPlace) (defBody sIsPlace) (defScope sIsPlace) .none kVip dcip pmip anip cdip ctip), slip⟩) (cip : PySem.W.codeIn K cdip "is_place" = true) (kip : PySem.W.keepIn K (.ref fip) = true)
    (auo : PySem.W.nsIn K mainGlobals "unknowns_of" = some (some (.ref fuo))) (luo : K.lookup fuo = some ⟨ocuo, oduo, .func (PySem.W.fnOf "unknowns_of" "unknowns_of" (defArgs sUnkOf) (defBody sUnkOf) (defScope sUnkOf) .none kVuo dcuo pmuo anuo cduo ctuo), sluo⟩) (cuo : PySem.W.codeIn K cduo "unknowns_of" = true) (kuo : PySem.W.keepIn K (.ref fuo) = true)
    (ale : PySem.W.nsIn K mainGlobals "_least_shift" = some (some (.ref fle))) (lle : K.lookup fle = some ⟨ocle, odle, .func (PySem.W.fnOf "_least_shift" "_least_shift" (defArgs sLeast) (defBody sLeast) (defScope sLeast) .none kVle dcle pmle anle cdle ctle), slle⟩) (cle : PySem.W.codeIn K cdle "_least_shift" = true) (kle : PySem.W.keepIn K (.ref fle) = true)
    (apt : PySem.W.nsIn K mainGlobals "_parts_of_text" = some (some (.ref fpt))) (lpt : K.lookup fpt = some ⟨ocpt, odpt, .func (PySem.W.fnOf "_parts_of_text" "_parts_of_text" (defArgs sParts) (defBody sParts) (defScope sParts) .none kVpt dcpt pmpt anpt cdpt ctpt), slpt⟩) (cpt : PySem.W.codeIn K cdpt "_parts_of_text" = true) (kpt : PySem.W.keepIn K (.ref fpt) = true)
    (ahs : PySem.W.nsIn K mainGlobals "has_sizes" = some (some (.ref fhs))) (lhs : K.lookup fhs = some ⟨ochs, odhs, .func (PySem.W.fnOf "has_sizes" "has_sizes" (defArgs sHasSizes) (defBody sHasSizes) (defScope sHasSizes) .none kVhs dchs pmhs anhs cdhs cths), slhs⟩) (chs : PySem.W.codeIn K cdhs "has_sizes" = true) (khs : PySem.W.keepIn K (.ref fhs) = true)
    (aar : PySem.W.nsIn K mainGlobals "_are_sizes" = some (some (.ref far))) (lar : K.lookup far = some ⟨ocar, odar, .func (PySem.W.fnOf "_are_sizes" "_are_sizes" (defArgs sAreSizes) (defBody sAreSizes) (defScope sAreSizes) .none kVar dcar pmar anar cdar ctar), slar⟩) (car : PySem.W.codeIn K cdar "_are_sizes" = true) (kar : PySem.W.keepIn K (.ref far) = true)
    (aif_ : PySem.W.nsIn K mainGlobals "is_fact" = some (some (.ref fif_))) (lif_ : K.lookup fif_ = some ⟨ocif_, odif_, .func (PySem.W.fnOf "is_fact" "is_fact" (defArgs sIsFact) (defBody sIsFact) (defScope sIsFact) .none kVif_ dcif_ pmif_ anif_ cdif_ ctif_), slif_⟩) (cif_ : PySem.W.codeIn K cdif_ "is_fact" = true) (kif_ : PySem.W.keepIn K (.ref fif_) = true)
    (apl : PySem.W.nsIn K mainGlobals "placed_row" = some (some (.ref fpl))) (lpl : K.lookup fpl = some ⟨ocpl, odpl, .func (PySem.W.fnOf "placed_row" "placed_row" (defArgs sPlacedRow) (defBody sPlacedRow) (defScope sPlacedRow) .none kVpl dcpl pmpl anpl cdpl ctpl), slpl⟩) (cpl : PySem.W.codeIn K cdpl "placed_row" = true) (kpl : PySem.W.keepIn K (.ref fpl) = true)
    (apo_ : PySem.W.nsIn K mainGlobals "places_of_rows" = some (some (.ref fpo_))) (lpo_ : K.lookup fpo_ = some ⟨ocpo_, odpo_, .func (PySem.W.fnOf "places_of_rows" "places_of_rows" (defArgs sPlacesOf) (defBody sPlacesOf) (defScope sPlacesOf) .none kVpo_ dcpo_ pmpo_ anpo_ cdpo_ ctpo_), slpo_⟩) (cpo_ : PySem.W.codeIn K cdpo_ "places_of_rows" = true) (kpo_ : PySem.W.keepIn K (.ref fpo_) = true)
    (ake : PySem.W.nsIn K mainGlobals "keeps" = some (some (.ref fke))) (lke : K.lookup fke = some ⟨ocke, odke, .func (PySem.W.fnOf "keeps" "keeps" (defArgs sKeeps) (defBody sKeeps) (defScope sKeeps) .none kVke dcke pmke anke cdke ctke), slke⟩) (cke : PySem.W.codeIn K cdke "keeps" = true) (kke : PySem.W.keepIn K (.ref fke) = true)
    (ace : PySem.W.nsIn K mainGlobals "_law_cell" = some (some (.ref fce))) (lce : K.lookup fce = some ⟨occe, odce, .func (PySem.W.fnOf "_law_cell" "_law_cell" (defArgs sCell) (defBody sCell) (defScope sCell) .none kVce dcce pmce ance cdce ctce), slce⟩) (cce : PySem.W.codeIn K cdce "_law_cell" = true) (kce : PySem.W.keepIn K (.ref fce) = true)
    (abo : PySem.W.nsIn K mainGlobals "_law_box" = some (some (.ref fbo))) (lbo : K.lookup fbo = some ⟨ocbo, odbo, .func (PySem.W.fnOf "_law_box" "_law_box" (defArgs sBox) (defBody sBox) (defScope sBox) .none kVbo dcbo pmbo anbo cdbo ctbo), slbo⟩) (cbo : PySem.W.codeIn K cdbo "_law_box" = true) (kbo : PySem.W.keepIn K (.ref fbo) = true)
    (ata : PySem.W.nsIn K mainGlobals "_law_take" = some (some (.ref fta))) (lta : K.lookup fta = some ⟨octa, odta, .func (PySem.W.fnOf "_law_take" "_law_take" (defArgs sTake) (defBody sTake) (defScope sTake) .none kVta dcta pmta anta cdta ctta), slta⟩) (cta : PySem.W.codeIn K cdta "_law_take" = true) (kta : PySem.W.keepIn K (.ref fta) = true)
    (alpr : PySem.W.nsIn K mainGlobals "_law_pair" = some (some (.ref flpr))) (llpr : K.lookup flpr = some ⟨oclpr, odlpr, .func (PySem.W.fnOf "_law_pair" "_law_pair" (defArgs sPair6) (defBody sPair6) (defScope sPair6) .none kVlpr dclpr pmlpr anlpr cdlpr ctlpr), sllpr⟩) (clpr : PySem.W.codeIn K cdlpr "_law_pair" = true) (klpr : PySem.W.keepIn K (.ref flpr) = true)
    (alto : PySem.W.nsIn K mainGlobals "_law_told" = some (some (.ref flto))) (llto : K.lookup flto = some ⟨oclto, odlto, .func (PySem.W.fnOf "_law_told" "_law_told" (defArgs sTold6) (defBody sTold6) (defScope sTold6) .none kVlto dclto pmlto anlto cdlto ctlto), sllto⟩) (clto : PySem.W.codeIn K cdlto "_law_told" = true) (klto : PySem.W.keepIn K (.ref flto) = true)
    (alrt : PySem.W.nsIn K mainGlobals "_law_roots" = some (some (.ref flrt))) (llrt : K.lookup flrt = some ⟨oclrt, odlrt, .func (PySem.W.fnOf "_law_roots" "_law_roots" (defArgs sRoots6) (defBody sRoots6) (defScope sRoots6) .none kVlrt dclrt pmlrt anlrt cdlrt ctlrt), sllrt⟩) (clrt : PySem.W.codeIn K cdlrt "_law_roots" = true) (klrt : PySem.W.keepIn K (.ref flrt) = true)
    (alsz : PySem.W.nsIn K mainGlobals "_law_size" = some (some (.ref flsz))) (llsz : K.lookup flsz = some ⟨oclsz, odlsz, .func (PySem.W.fnOf "_law_size" "_law_size" (defArgs sSize6) (defBody sSize6) (defScope sSize6) .none kVlsz dclsz pmlsz anlsz cdlsz ctlsz), sllsz⟩) (clsz : PySem.W.codeIn K cdlsz "_law_size" = true) (klsz : PySem.W.keepIn K (.ref flsz) = true)
    (alrw : PySem.W.nsIn K mainGlobals "_law_row" = some (some (.ref flrw))) (llrw : K.lookup flrw = some ⟨oclrw, odlrw, .func (PySem.W.fnOf "_law_row" "_law_row" (defArgs sRow) (defBody sRow) (defScope sRow) .none kVlrw dclrw pmlrw anlrw cdlrw ctlrw), sllrw⟩) (clrw : PySem.W.codeIn K cdlrw "_law_row" = true) (klrw : PySem.W.keepIn K (.ref flrw) = true)
    (alre : PySem.W.nsIn K mainGlobals "_law_real" = some (some (.ref flre))) (llre : K.lookup flre = some ⟨oclre, odlre, .func (PySem.W.fnOf "_law_real" "_law_real" (defArgs sReal) (defBody sReal) (defScope sReal) .none kVlre dclre pmlre anlre cdlre ctlre), sllre⟩) (clre : PySem.W.codeIn K cdlre "_law_real" = true) (klre : PySem.W.keepIn K (.ref flre) = true)
    (alma : PySem.W.nsIn K mainGlobals "_law_made" = some (some (.ref flma))) (llma : K.lookup flma = some ⟨oclma, odlma, .func (PySem.W.fnOf "_law_made" "_law_made" (defArgs sMade) (defBody sMade) (defScope sMade) .none kVlma dclma pmlma anlma cdlma ctlma), sllma⟩) (clma : PySem.W.codeIn K cdlma "_law_made" = true) (klma : PySem.W.keepIn K (.ref flma) = true)
    (alch : PySem.W.nsIn K mainGlobals "_law_changed" = some (some (.ref flch))) (llch : K.lookup flch = some ⟨oclch, odlch, .func (PySem.W.fnOf "_law_changed" "_law_changed" (defArgs sChanged) (defBody sChanged) (defScope sChanged) .none kVlch dclch pmlch anlch cdlch ctlch), sllch⟩) (clch : PySem.W.codeIn K cdlch "_law_changed" = true) (klch : PySem.W.keepIn K (.ref flch) = true)
    (alps : PySem.W.nsIn K mainGlobals "_law_pairs" = some (some (.ref flps))) (llps : K.lookup flps = some ⟨oclps, odlps, .func (PySem.W.fnOf "_law_pairs" "_law_pairs" (defArgs sPairs) (defBody sPairs) (defScope sPairs) .none kVlps dclps pmlps anlps cdlps ctlps), sllps⟩) (clps : PySem.W.codeIn K cdlps "_law_pairs" = true) (klps : PySem.W.keepIn K (.ref flps) = true)
    (alke : PySem.W.nsIn K mainGlobals "_law_keeps" = some (some (.ref flke))) (llke : K.lookup flke = some ⟨oclke, odlke, .func (PySem.W.fnOf "_law_keeps" "_law_keeps" (defArgs sLKeeps) (defBody sLKeeps) (defScope sLKeeps) .none kVlke dclke pmlke anlke cdlke ctlke), sllke⟩) (clke : PySem.W.codeIn K cdlke "_law_keeps" = true) (klke : PySem.W.keepIn K (.ref flke) = true)
    (alss : PySem.W.nsIn K mainGlobals "_law_sizes" = some (some (.ref flss))) (llss : K.lookup flss = some ⟨oclss, odlss, .func (PySem.W.fnOf "_law_sizes" "_law_sizes" (defArgs sLSizes) (defBody sLSizes) (defScope sLSizes) .none kVlss dclss pmlss anlss cdlss ctlss), sllss⟩) (clss : PySem.W.codeIn K cdlss "_law_sizes" = true) (klss : PySem.W.keepIn K (.ref flss) = true)
    (ala : PySem.W.nsIn K mainGlobals "law" = some (some (.ref fla))) (lla : K.lookup fla = some ⟨ocla, odla, .func (PySem.W.fnOf "law" "law" (defArgs sLaw) (defBody sLaw) (defScope sLaw) .none kVla dcla pmla anla cdla ctla), slla⟩) (cla : PySem.W.codeIn K cdla "law" = true) (kla : PySem.W.keepIn K (.ref fla) = true)
    (aCP : PySem.W.nsIn K mainGlobals "Place" = some (some (.ref cP)))
    (aCG : PySem.W.nsIn K mainGlobals "Setting" = some (some (.ref cG)))
    (aCH : PySem.W.nsIn K mainGlobals "Facts" = some (some (.ref cH)))
    (aCX : PySem.W.nsIn K mainGlobals "InvalidPlace" = some (some (.ref cX)))
    (aCI : PySem.W.nsIn K mainGlobals "InvalidInteger" = some (some (.ref cI)))
    (aCS : PySem.W.nsIn K mainGlobals "InvalidSetting" = some (some (.ref cS)))
    (aCR : PySem.W.nsIn K mainGlobals "InvalidFact" = some (some (.ref cR)))
    (aCF : PySem.W.nsIn K mainGlobals "InvalidFacts" = some (some (.ref cF)))
    (aCM : PySem.W.nsIn K mainGlobals "MapError" = some (some (.ref cM)))
    (amo : PySem.W.findCls K (.ref cP) (.type "type") "of" = some (.get (.builtin "classmethod.__get__") (.ref po) .none (.ref cP))) (amo2 : PySem.W.recIn K po "classmethod" = some (.ref fmo :: ro)) (lmo : K.lookup fmo = some ⟨ocmo, odmo, .func (PySem.W.fnOf "of" "Place.of" (defArgs (inClass sPlace 1)) (defBody (inClass sPlace 1)) (defScope (inClass sPlace 1)) .none kVmo dcmo pmmo anmo cdmo ctmo), slmo⟩) (cmo : PySem.W.codeIn K cdmo "Place.of" = true) (kmo : PySem.W.keepIn K (.ref fmo) = true)
    (amb : PySem.W.findIn K (.ref cP) "base" = some (some (.ref pb))) (amb1 : PySem.W.specialIn K (.ref pb) "__get__" = some (some (.builtin "property.__get__"))) (amb2 : PySem.W.takesIn K (.ref pb) = some true) (amb3 : PySem.W.recIn K pb "property" = some (.ref fmb :: rb)) (lmb : K.lookup fmb = some ⟨ocmb, odmb, .func (PySem.W.fnOf "base" "Place.base" (defArgs (inClass sPlace 2)) (defBody (inClass sPlace 2)) (defScope (inClass sPlace 2)) .none kVmb dcmb pmmb anmb cdmb ctmb), slmb⟩) (cmb : PySem.W.codeIn K cdmb "Place.base" = true) (kmb : PySem.W.keepIn K (.ref fmb) = true)
    (amh : PySem.W.findIn K (.ref cP) "shift" = some (some (.ref ph))) (amh1 : PySem.W.specialIn K (.ref ph) "__get__" = some (some (.builtin "property.__get__"))) (amh2 : PySem.W.takesIn K (.ref ph) = some true) (amh3 : PySem.W.recIn K ph "property" = some (.ref fmh :: rh)) (lmh : K.lookup fmh = some ⟨ocmh, odmh, .func (PySem.W.fnOf "shift" "Place.shift" (defArgs (inClass sPlace 3)) (defBody (inClass sPlace 3)) (defScope (inClass sPlace 3)) .none kVmh dcmh pmmh anmh cdmh ctmh), slmh⟩) (cmh : PySem.W.codeIn K cdmh "Place.shift" = true) (kmh : PySem.W.keepIn K (.ref fmh) = true)
    (amq : PySem.W.findIn K (.ref cP) "__eq__" = some (some (.ref fmq))) (lmq : K.lookup fmq = some ⟨ocmq, odmq, .func (PySem.W.fnOf "__eq__" "Place.__eq__" (defArgs (inClass sPlace 6)) (defBody (inClass sPlace 6)) (defScope (inClass sPlace 6)) .none kVmq dcmq pmmq anmq cdmq ctmq), slmq⟩) (cmq : PySem.W.codeIn K cdmq "Place.__eq__" = true) (kmq : PySem.W.keepIn K (.ref fmq) = true)
    (amd : PySem.W.findIn K (.ref cP) "__add__" = some (some (.ref fmd))) (lmd : K.lookup fmd = some ⟨ocmd, odmd, .func (PySem.W.fnOf "__add__" "Place.__add__" (defArgs (inClass sPlace 7)) (defBody (inClass sPlace 7)) (defScope (inClass sPlace 7)) .none kVmd dcmd pmmd anmd cdmd ctmd), slmd⟩) (cmd : PySem.W.codeIn K cdmd "Place.__add__" = true) (kmd : PySem.W.keepIn K (.ref fmd) = true)
    (amx : PySem.W.findIn K (.ref cX) "__init__" = some (some (.ref fmx))) (lmx : K.lookup fmx = some ⟨ocmx, odmx, .func (PySem.W.fnOf "__init__" "InvalidPlace.__init__" (defArgs (inClass sInvPlace 0)) (defBody (inClass sInvPlace 0)) (defScope (inClass sInvPlace 0)) .none kVmx dcmx pmmx anmx cdmx ctmx), slmx⟩) (cmx : PySem.W.codeIn K cdmx "InvalidPlace.__init__" = true) (kmx : PySem.W.keepIn K (.ref fmx) = true)
    (ami : PySem.W.findIn K (.ref cI) "__init__" = some (some (.ref fmi))) (lmi : K.lookup fmi = some ⟨ocmi, odmi, .func (PySem.W.fnOf "__init__" "InvalidInteger.__init__" (defArgs (inClass sInvInt 0)) (defBody (inClass sInvInt 0)) (defScope (inClass sInvInt 0)) .none kVmi dcmi pmmi anmi cdmi ctmi), slmi⟩) (cmi : PySem.W.codeIn K cdmi "InvalidInteger.__init__" = true) (kmi : PySem.W.keepIn K (.ref fmi) = true)
    (amt : PySem.W.findIn K (.ref cS) "__init__" = some (some (.ref fmt))) (lmt : K.lookup fmt = some ⟨ocmt, odmt, .func (PySem.W.fnOf "__init__" "InvalidSetting.__init__" (defArgs (inClass sInvSet 0)) (defBody (inClass sInvSet 0)) (defScope (inClass sInvSet 0)) .none kVmt dcmt pmmt anmt cdmt ctmt), slmt⟩) (cmt : PySem.W.codeIn K cdmt "InvalidSetting.__init__" = true) (kmt : PySem.W.keepIn K (.ref fmt) = true)
    (amr : PySem.W.findIn K (.ref cR) "__init__" = some (some (.ref fmr))) (lmr : K.lookup fmr = some ⟨ocmr, odmr, .func (PySem.W.fnOf "__init__" "InvalidFact.__init__" (defArgs (inClass sInvFact 0)) (defBody (inClass sInvFact 0)) (defScope (inClass sInvFact 0)) .none kVmr dcmr pmmr anmr cdmr ctmr), slmr⟩) (cmr : PySem.W.codeIn K cdmr "InvalidFact.__init__" = true) (kmr : PySem.W.keepIn K (.ref fmr) = true)
    (amf : PySem.W.findIn K (.ref cF) "__init__" = some (some (.ref fmf))) (lmf : K.lookup fmf = some ⟨ocmf, odmf, .func (PySem.W.fnOf "__init__" "InvalidFacts.__init__" (defArgs (inClass sInvFacts 0)) (defBody (inClass sInvFacts 0)) (defScope (inClass sInvFacts 0)) .none kVmf dcmf pmmf anmf cdmf ctmf), slmf⟩) (cmf : PySem.W.codeIn K cdmf "InvalidFacts.__init__" = true) (kmf : PySem.W.keepIn K (.ref fmf) = true)
    (ag0 : PySem.W.findIn K (.ref cG) "__init__" = some (some (.ref fg0))) (lg0 : K.lookup fg0 = some ⟨ocg0, odg0, .func (PySem.W.fnOf "__init__" "Setting.__init__" (defArgs (inClass sSetting 0)) (defBody (inClass sSetting 0)) (defScope (inClass sSetting 0)) .none kVg0 dcg0 pmg0 ang0 cdg0 ctg0), slg0⟩) (cg0 : PySem.W.codeIn K cdg0 "Setting.__init__" = true) (kg0 : PySem.W.keepIn K (.ref fg0) = true)
    (ag2 : PySem.W.findIn K (.ref cG) "page" = some (some (.ref pg2))) (ag21 : PySem.W.specialIn K (.ref pg2) "__get__" = some (some (.builtin "property.__get__"))) (ag22 : PySem.W.takesIn K (.ref pg2) = some true) (ag23 : PySem.W.recIn K pg2 "property" = some (.ref fg2 :: rg)) (lg2 : K.lookup fg2 = some ⟨ocg2, odg2, .func (PySem.W.fnOf "page" "Setting.page" (defArgs (inClass sSetting 2)) (defBody (inClass sSetting 2)) (defScope (inClass sSetting 2)) .none kVg2 dcg2 pmg2 ang2 cdg2 ctg2), slg2⟩) (cg2 : PySem.W.codeIn K cdg2 "Setting.page" = true) (kg2 : PySem.W.keepIn K (.ref fg2) = true)
    (ag3 : PySem.W.findIn K (.ref cG) "__getitem__" = some (some (.ref fg3))) (lg3 : K.lookup fg3 = some ⟨ocg3, odg3, .func (PySem.W.fnOf "__getitem__" "Setting.__getitem__" (defArgs (inClass sSetting 3)) (defBody (inClass sSetting 3)) (defScope (inClass sSetting 3)) .none kVg3 dcg3 pmg3 ang3 cdg3 ctg3), slg3⟩) (cg3 : PySem.W.codeIn K cdg3 "Setting.__getitem__" = true) (kg3 : PySem.W.keepIn K (.ref fg3) = true)
    (ag5 : PySem.W.findIn K (.ref cG) "__contains__" = some (some (.ref fg5))) (lg5 : K.lookup fg5 = some ⟨ocg5, odg5, .func (PySem.W.fnOf "__contains__" "Setting.__contains__" (defArgs (inClass sSetting 5)) (defBody (inClass sSetting 5)) (defScope (inClass sSetting 5)) .none kVg5 dcg5 pmg5 ang5 cdg5 ctg5), slg5⟩) (cg5 : PySem.W.codeIn K cdg5 "Setting.__contains__" = true) (kg5 : PySem.W.keepIn K (.ref fg5) = true)
    (ah0 : PySem.W.findIn K (.ref cH) "__init__" = some (some (.ref fh0))) (lh0 : K.lookup fh0 = some ⟨och0, odh0, .func (PySem.W.fnOf "__init__" "Facts.__init__" (defArgs (inClass sFacts 0)) (defBody (inClass sFacts 0)) (defScope (inClass sFacts 0)) .none kVh0 dch0 pmh0 anh0 cdh0 cth0), slh0⟩) (ch0 : PySem.W.codeIn K cdh0 "Facts.__init__" = true) (kh0 : PySem.W.keepIn K (.ref fh0) = true)
    (ah1 : PySem.W.findIn K (.ref cH) "rows" = some (some (.ref fh1))) (lh1 : K.lookup fh1 = some ⟨och1, odh1, .func (PySem.W.fnOf "rows" "Facts.rows" (defArgs (inClass sFacts 1)) (defBody (inClass sFacts 1)) (defScope (inClass sFacts 1)) .none kVh1 dch1 pmh1 anh1 cdh1 cth1), slh1⟩) (ch1 : PySem.W.codeIn K cdh1 "Facts.rows" = true) (kh1 : PySem.W.keepIn K (.ref fh1) = true)
    (ah2 : PySem.W.findIn K (.ref cH) "unknowns" = some (some (.ref fh2))) (lh2 : K.lookup fh2 = some ⟨och2, odh2, .func (PySem.W.fnOf "unknowns" "Facts.unknowns" (defArgs (inClass sFacts 2)) (defBody (inClass sFacts 2)) (defScope (inClass sFacts 2)) .none kVh2 dch2 pmh2 anh2 cdh2 cth2), slh2⟩) (ch2 : PySem.W.codeIn K cdh2 "Facts.unknowns" = true) (kh2 : PySem.W.keepIn K (.ref fh2) = true)
    (ah3 : PySem.W.findIn K (.ref cH) "holds" = some (some (.ref fh3))) (lh3 : K.lookup fh3 = some ⟨och3, odh3, .func (PySem.W.fnOf "holds" "Facts.holds" (defArgs (inClass sFacts 3)) (defBody (inClass sFacts 3)) (defScope (inClass sFacts 3)) .none kVh3 dch3 pmh3 anh3 cdh3 cth3), slh3⟩) (ch3 : PySem.W.codeIn K cdh3 "Facts.holds" = true) (kh3 : PySem.W.keepIn K (.ref fh3) = true)
    (ah4 : PySem.W.findIn K (.ref cH) "__and__" = some (some (.ref fh4))) (lh4 : K.lookup fh4 = some ⟨och4, odh4, .func (PySem.W.fnOf "__and__" "Facts.__and__" (defArgs (inClass sFacts 4)) (defBody (inClass sFacts 4)) (defScope (inClass sFacts 4)) .none kVh4 dch4 pmh4 anh4 cdh4 cth4), slh4⟩) (ch4 : PySem.W.codeIn K cdh4 "Facts.__and__" = true) (kh4 : PySem.W.keepIn K (.ref fh4) = true)
    (ah5 : PySem.W.findIn K (.ref cH) "__len__" = some (some (.ref fh5))) (lh5 : K.lookup fh5 = some ⟨och5, odh5, .func (PySem.W.fnOf "__len__" "Facts.__len__" (defArgs (inClass sFacts 5)) (defBody (inClass sFacts 5)) (defScope (inClass sFacts 5)) .none kVh5 dch5 pmh5 anh5 cdh5 cth5), slh5⟩) (ch5 : PySem.W.codeIn K cdh5 "Facts.__len__" = true) (kh5 : PySem.W.keepIn K (.ref fh5) = true)
    (ah6 : PySem.W.findIn K (.ref cH) "__eq__" = some (some (.ref fh6))) (lh6 : K.lookup fh6 = some ⟨och6, odh6, .func (PySem.W.fnOf "__eq__" "Facts.__eq__" (defArgs (inClass sFacts 6)) (defBody (inClass sFacts 6)) (defScope (inClass sFacts 6)) .none kVh6 dch6 pmh6 anh6 cdh6 cth6), slh6⟩) (ch6 : PySem.W.codeIn K cdh6 "Facts.__eq__" = true) (kh6 : PySem.W.keepIn K (.ref fh6) = true)
    (jmq : PySem.W.isFn K (.ref fmq) = true)
    (jmd : PySem.W.isFn K (.ref fmd) = true)
    (jg0 : PySem.W.isFn K (.ref fg0) = true)
    (jg3 : PySem.W.isFn K (.ref fg3) = true)
    (jg5 : PySem.W.isFn K (.ref fg5) = true)
    (jh0 : PySem.W.isFn K (.ref fh0) = true)
    (jh1 : PySem.W.isFn K (.ref fh1) = true)
    (jh2 : PySem.W.isFn K (.ref fh2) = true)
    (jh3 : PySem.W.isFn K (.ref fh3) = true)
    (jh4 : PySem.W.isFn K (.ref fh4) = true)
    (jh5 : PySem.W.isFn K (.ref fh5) = true)
    (jh6 : PySem.W.isFn K (.ref fh6) = true)
    (fo : PySem.W.fnIn K fmo = true)
    (fog : PySem.W.fnIn K fg3 = true)
    (tfX : PySem.W.typeIn K (.ref fmx) = some (.type "function"))
    (tfI : PySem.W.typeIn K (.ref fmi) = some (.type "function"))
    (tfS : PySem.W.typeIn K (.ref fmt) = some (.type "function"))
    (tfR : PySem.W.typeIn K (.ref fmr) = some (.type "function"))
    (tfF : PySem.W.typeIn K (.ref fmf) = some (.type "function"))
    {odI anI odT : Option Addr} {slI slT : Array (Option Value)} {ocI dcI pmI cdI ctI : Value} {nT : Nat} {kT kS kL kA kM kU kP : Tok}
    (eG : kVg0 = .ref kG)
    (iI : PySem.W.findIn K (.ref cP) "__init__" = some (some (.ref fI)))
    (jI : PySem.W.isFn K (.ref fI) = true)
    (lI : K.lookup fI = some ⟨ocI, odI, .func (PySem.W.fnOf "__init__" "Place.__init__" (defArgs (inClass sPlace 0)) (defBody (inClass sPlace 0)) (defScope (inClass sPlace 0)) (.ref tD) (.ref kD) dcI pmI anI cdI ctI), slI⟩)
    (cI_ : PySem.W.codeIn K cdI "Place.__init__" = true)
    (kI : PySem.W.keepIn K (.ref fI) = true)
    (lT : K.lookup tD = some ⟨.type "tuple", odT, .seq #[.str "" kT] nT, slT⟩)
    (sD : PySem.W.nsIn K kD "shift" = some (some (.int 0 kS)))
    (hn : PySem.W.specialIn K (.builtin "object.__class__") "__get__" = some (some (.builtin "getset_descriptor.__get__")))
    (htk : PySem.W.takesIn K (.builtin "object.__class__") = some true)
    (nB : PySem.W.findIn K (.ref cP) "_base" = some none)
    (nS : PySem.W.findIn K (.ref cP) "_shift" = some none)
    (rdP : PySem.W.readsIn K cP (.type "type") = true)
    (gaP : PySem.W.specialIn K (.ref cP) "__getattribute__" = some (some (.builtin "type.__getattribute__")))
    (xiP : PySem.W.mroIn K cP (.type "int") = some false)
    (xsP : PySem.W.mroIn K cP (.type "str") = some false)
    (sf : PySem.W.selfFirst K cP = true)
    (ra : PySem.W.findIn K (.ref cP) "__radd__" = some (some (.ref fra)))
    (ia : PySem.W.findIn K (.type "int") "__add__" = some fi)
    (ira : PySem.W.findIn K (.type "int") "__radd__" = some ri)
    (pgP : PySem.W.plainGet K cP Str.empty = true)
    (hdP : PySem.W.hasDictIn K cP = true)
    (pv_P : PySem.W.plainOver K cP = true)
    (saP : PySem.W.findIn K (.ref cP) "__setattr__" = some (some (.builtin "object.__setattr__")))
    (mkP : PySem.W.makesIn K cP = true)
    (kcP : PySem.W.keepIn K (.ref cP) = true)
    (haP : PySem.W.findIn K (.ref cP) "__class__" = some (some (.builtin "object.__class__")))
    (hmP : PySem.W.mroIn K cP (.type "object") = some true)
    (tCP : PySem.W.typeIn K (.ref cP) = some (.type "type"))
    (pgG : PySem.W.plainGet K cG Str.empty = true)
    (hdG : PySem.W.hasDictIn K cG = true)
    (pv_G : PySem.W.plainOver K cG = true)
    (saG : PySem.W.findIn K (.ref cG) "__setattr__" = some (some (.builtin "object.__setattr__")))
    (mkG : PySem.W.makesIn K cG = true)
    (kcG : PySem.W.keepIn K (.ref cG) = true)
    (haG : PySem.W.findIn K (.ref cG) "__class__" = some (some (.builtin "object.__class__")))
    (hmG : PySem.W.mroIn K cG (.type "object") = some true)
    (tCG : PySem.W.typeIn K (.ref cG) = some (.type "type"))
    (pgH : PySem.W.plainGet K cH Str.empty = true)
    (hdH : PySem.W.hasDictIn K cH = true)
    (pv_H : PySem.W.plainOver K cH = true)
    (saH : PySem.W.findIn K (.ref cH) "__setattr__" = some (some (.builtin "object.__setattr__")))
    (mkH : PySem.W.makesIn K cH = true)
    (kcH : PySem.W.keepIn K (.ref cH) = true)
    (haH : PySem.W.findIn K (.ref cH) "__class__" = some (some (.builtin "object.__class__")))
    (hmH : PySem.W.mroIn K cH (.type "object") = some true)
    (tCH : PySem.W.typeIn K (.ref cH) = some (.type "type"))
    (nZG : PySem.W.findIn K (.ref cG) "_sizes" = some none)
    (nPG : PySem.W.findIn K (.ref cG) "_page" = some none)
    (sG : PySem.W.nsIn K kG "page" = some (some (.int 32 kP)))
    (nRH : PySem.W.findIn K (.ref cH) "_rows" = some none)
    (nUH : PySem.W.findIn K (.ref cH) "_unknowns" = some none)
    (sfH : PySem.W.selfFirst K cH = true)
    (anH : PySem.W.findIn K (.ref cH) "__rand__" = some none)
    (neH : PySem.W.findIn K (.ref cH) "__ne__" = some (some (.builtin "object.__ne__")))
    (suL : PySem.W.subIn K (.type "list") (.ref cH) = some false)
    {nmX qqX : Str} {NNX : Addr} {bsX bmX : List Value} {snX : List Str} {subX : List Value} {abX : Bool} {colX : Option Bool} {ddX : Option Addr} {k0X k1X k2X k3X k5X : Option Value}
    (lXx : K.lookup cX = some (excClassObj nmX qqX cX NNX bsX bmX true snX subX abX colX ddX k0X k1X k2X k3X k5X "ValueError.__new__"))
    (rX : PySem.HandSPX.refsVE bmX = true)
    (saXe : PySem.W.findIn K (.ref cX) "__setattr__" = some (some (.builtin "object.__setattr__")))
    (exXe : PySem.W.subIn K (.ref cX) (.type "BaseException") = some true)
    (tyXe : PySem.W.typeIn K (.ref cX) = some (.type "type"))
    (kXe : PySem.W.keepIn K (.ref cX) = true)
    (gaXe : PySem.W.findIn K (.ref cX) "__getattribute__" = some (some (.builtin "BaseException.__getattribute__")))
    (ggXe : PySem.W.findIn K (.ref cX) "__getattr__" = some none)
    (hdXe : PySem.W.hasDictIn K cX = true)
    (suXe : PySem.W.subIn K (.ref cX) (.ref cX) = some true)
    (noXe : PySem.W.findIn K (.ref cX) "value" = some none)
    {nmI qqI : Str} {NNI : Addr} {bsI bmI : List Value} {snI : List Str} {subI : List Value} {abI : Bool} {colI : Option Bool} {ddI : Option Addr} {k0I k1I k2I k3I k5I : Option Value}
    (lIx : K.lookup cI = some (excClassObj nmI qqI cI NNI bsI bmI true snI subI abI colI ddI k0I k1I k2I k3I k5I "ValueError.__new__"))
    (rI : PySem.HandSPX.refsVE bmI = true)
    (saIe : PySem.W.findIn K (.ref cI) "__setattr__" = some (some (.builtin "object.__setattr__")))
    (exIe : PySem.W.subIn K (.ref cI) (.type "BaseException") = some true)
    (tyIe : PySem.W.typeIn K (.ref cI) = some (.type "type"))
    (kIe : PySem.W.keepIn K (.ref cI) = true)
    (gaIe : PySem.W.findIn K (.ref cI) "__getattribute__" = some (some (.builtin "BaseException.__getattribute__")))
    (ggIe : PySem.W.findIn K (.ref cI) "__getattr__" = some none)
    (hdIe : PySem.W.hasDictIn K cI = true)
    (suIe : PySem.W.subIn K (.ref cI) (.ref cI) = some true)
    (noIe : PySem.W.findIn K (.ref cI) "value" = some none)
    {nmS qqS : Str} {NNS : Addr} {bsS bmS : List Value} {snS : List Str} {subS : List Value} {abS : Bool} {colS : Option Bool} {ddS : Option Addr} {k0S k1S k2S k3S k5S : Option Value}
    (lSx : K.lookup cS = some (excClassObj nmS qqS cS NNS bsS bmS true snS subS abS colS ddS k0S k1S k2S k3S k5S "ValueError.__new__"))
    (rS : PySem.HandSPX.refsVE bmS = true)
    (saSe : PySem.W.findIn K (.ref cS) "__setattr__" = some (some (.builtin "object.__setattr__")))
    (exSe : PySem.W.subIn K (.ref cS) (.type "BaseException") = some true)
    (tySe : PySem.W.typeIn K (.ref cS) = some (.type "type"))
    (kSe : PySem.W.keepIn K (.ref cS) = true)
    (gaSe : PySem.W.findIn K (.ref cS) "__getattribute__" = some (some (.builtin "BaseException.__getattribute__")))
    (ggSe : PySem.W.findIn K (.ref cS) "__getattr__" = some none)
    (hdSe : PySem.W.hasDictIn K cS = true)
    (suSe : PySem.W.subIn K (.ref cS) (.ref cS) = some true)
    (noSe : PySem.W.findIn K (.ref cS) "value" = some none)
    {nmR qqR : Str} {NNR : Addr} {bsR bmR : List Value} {snR : List Str} {subR : List Value} {abR : Bool} {colR : Option Bool} {ddR : Option Addr} {k0R k1R k2R k3R k5R : Option Value}
    (lRx : K.lookup cR = some (excClassObj nmR qqR cR NNR bsR bmR true snR subR abR colR ddR k0R k1R k2R k3R k5R "ValueError.__new__"))
    (rR : PySem.HandSPX.refsVE bmR = true)
    (saRe : PySem.W.findIn K (.ref cR) "__setattr__" = some (some (.builtin "object.__setattr__")))
    (exRe : PySem.W.subIn K (.ref cR) (.type "BaseException") = some true)
    (tyRe : PySem.W.typeIn K (.ref cR) = some (.type "type"))
    (kRe : PySem.W.keepIn K (.ref cR) = true)
    (gaRe : PySem.W.findIn K (.ref cR) "__getattribute__" = some (some (.builtin "BaseException.__getattribute__")))
    (ggRe : PySem.W.findIn K (.ref cR) "__getattr__" = some none)
    (hdRe : PySem.W.hasDictIn K cR = true)
    (suRe : PySem.W.subIn K (.ref cR) (.ref cR) = some true)
    (noRe : PySem.W.findIn K (.ref cR) "value" = some none)
    {nmF qqF : Str} {NNF : Addr} {bsF bmF : List Value} {snF : List Str} {subF : List Value} {abF : Bool} {colF : Option Bool} {ddF : Option Addr} {k0F k1F k2F k3F k5F : Option Value}
    (lFx : K.lookup cF = some (excClassObj nmF qqF cF NNF bsF bmF true snF subF abF colF ddF k0F k1F k2F k3F k5F "ValueError.__new__"))
    (rF : PySem.HandSPX.refsVE bmF = true)
    (saFe : PySem.W.findIn K (.ref cF) "__setattr__" = some (some (.builtin "object.__setattr__")))
    (exFe : PySem.W.subIn K (.ref cF) (.type "BaseException") = some true)
    (tyFe : PySem.W.typeIn K (.ref cF) = some (.type "type"))
    (kFe : PySem.W.keepIn K (.ref cF) = true)
    (gaFe : PySem.W.findIn K (.ref cF) "__getattribute__" = some (some (.builtin "BaseException.__getattribute__")))
    (ggFe : PySem.W.findIn K (.ref cF) "__getattr__" = some none)
    (hdFe : PySem.W.hasDictIn K cF = true)
    (suFe : PySem.W.subIn K (.ref cF) (.ref cF) = some true)
    (noFe : PySem.W.findIn K (.ref cF) "value" = some none)
    (rdM : PySem.W.readsIn K cM (.type "type") = true)
    (gaM : PySem.W.specialIn K (.ref cM) "__getattribute__" = some (some (.builtin "type.__getattribute__")))
    (fcM : PySem.W.findCls K (.ref cM) (.type "type") "__init__" = some (.val (.builtin "ValueError.__init__")))
    (gL : PySem.W.nsIn K mainGlobals "_LONGEST_NAME" = some (some (.int 6 kL)))
    (gA : PySem.W.nsIn K mainGlobals "_LETTERS" = some (some (.str abc kA)))
    (gM : PySem.W.nsIn K mainGlobals "_MOST" = some (some (.int 3 kM)))
    (gU : PySem.W.nsIn K mainGlobals "MOST_UNKNOWNS" = some (some (.int 2 kU)))
    {zntn : Nat} {utn0 utn1 utn2 utn3 : Int} {ptn0 qtn0 ptn1 qtn1 ptn2 qtn2 ptn3 qtn3 : Tok}
    (gtn : PySem.W.nsIn K mainGlobals "_NUMBERS" = some (some (.ref dtn)))
    (ttn : K.lookup dtn = some ⟨.type "dict", none, .dict #[⟨utn0, .str "0" ptn0, .int 0 qtn0⟩, ⟨utn1, .str "1" ptn1, .int 1 qtn1⟩, ⟨utn2, .str "2" ptn2, .int 2 qtn2⟩, ⟨utn3, .str "3" ptn3, .int 3 qtn3⟩] zntn, #[]⟩)
    (etn0 : utn0 = PyData.keyHash w.params "0")
    (etn1 : utn1 = PyData.keyHash w.params "1")
    (etn2 : utn2 = PyData.keyHash w.params "2")
    (etn3 : utn3 = PyData.keyHash w.params "3")
    (wtn : (dtn == sysModules) = false)
    {znts : Nat} {uts0 uts1 uts2 uts3 uts4 uts5 : Int} {pts0 qts0 pts1 qts1 pts2 qts2 pts3 qts3 pts4 qts4 pts5 qts5 : Tok}
    (gts : PySem.W.nsIn K mainGlobals "_SHIFTS" = some (some (.ref dts)))
    (tts : K.lookup dts = some ⟨.type "dict", none, .dict #[⟨uts0, .str "-3" pts0, .int (-3) qts0⟩, ⟨uts1, .str "-2" pts1, .int (-2) qts1⟩, ⟨uts2, .str "-1" pts2, .int (-1) qts2⟩, ⟨uts3, .str "+1" pts3, .int 1 qts3⟩, ⟨uts4, .str "+2" pts4, .int 2 qts4⟩, ⟨uts5, .str "+3" pts5, .int 3 qts5⟩] znts, #[]⟩)
    (ets0 : uts0 = PyData.keyHash w.params "-3")
    (ets1 : uts1 = PyData.keyHash w.params "-2")
    (ets2 : uts2 = PyData.keyHash w.params "-1")
    (ets3 : uts3 = PyData.keyHash w.params "+1")
    (ets4 : uts4 = PyData.keyHash w.params "+2")
    (ets5 : uts5 = PyData.keyHash w.params "+3")
    (wts : (dts == sysModules) = false)
    {zntp : Nat} {utp0 utp1 : Int} {ptp0 qtp0 ptp1 qtp1 : Tok}
    (gtp : PySem.W.nsIn K mainGlobals "_PLACES" = some (some (.ref dtp)))
    (ttp : K.lookup dtp = some ⟨.type "dict", none, .dict #[⟨utp0, .str "at_most" ptp0, .int 2 qtp0⟩, ⟨utp1, .str "page" ptp1, .int 1 qtp1⟩] zntp, #[]⟩)
    (etp0 : utp0 = PyData.keyHash w.params "at_most")
    (etp1 : utp1 = PyData.keyHash w.params "page")
    (wtp : (dtp == sysModules) = false)
    (zlen : PySem.W.nsIn K mainGlobals "len" = some none)
    (zmax : PySem.W.nsIn K mainGlobals "max" = some none)
    (zmin : PySem.W.nsIn K mainGlobals "min" = some none)
    (zint : PySem.W.nsIn K mainGlobals "int" = some none)
    (zrange : PySem.W.nsIn K mainGlobals "range" = some none)
    (zisinstance : PySem.W.nsIn K mainGlobals "isinstance" = some none)
    (zbool : PySem.W.nsIn K mainGlobals "bool" = some none)
    (zstr : PySem.W.nsIn K mainGlobals "str" = some none)
    (zall : PySem.W.nsIn K mainGlobals "all" = some none)
    (zrepr : PySem.W.nsIn K mainGlobals "repr" = some none)
    (zdict : PySem.W.nsIn K mainGlobals "dict" = some none)
    (ztuple : PySem.W.nsIn K mainGlobals "tuple" = some none)
    (zsorted : PySem.W.nsIn K mainGlobals "sorted" = some none)
    (zlist : PySem.W.nsIn K mainGlobals "list" = some none)
    (zsum : PySem.W.nsIn K mainGlobals "sum" = some none)
    (zset : PySem.W.nsIn K mainGlobals "set" = some none)
    : ∃ fd : FuncData, (∀ (s : Shared) (v : Value), BindsTo s fd ⟨[v], []⟩ [("_law_script", v)]) ∧ ∀ base : Heap, K.In base → base.Ns mainGlobals mg → FnG l.prog w K mg base CX0 13 fa fd ["_law_script"] (spLaw K) := by
  have e := hfa.symm.trans (PySem.W.mg_of X G ala)
  cases e
  have B : Blt mg := ⟨PySem.W.mg_none_of X G zlen, PySem.W.mg_none_of X G zmax, PySem.W.mg_none_of X G zmin, PySem.W.mg_none_of X G zint, PySem.W.mg_none_of X G zrange⟩
  have D : Blp mg := ⟨PySem.W.mg_none_of X G zisinstance, PySem.W.mg_none_of X G zbool, PySem.W.mg_none_of X G zstr, PySem.W.mg_none_of X G zall⟩
  have m_len := PySem.W.mg_none_of X G zlen
  have m_max := PySem.W.mg_none_of X G zmax
  have m_min := PySem.W.mg_none_of X G zmin
  have m_int := PySem.W.mg_none_of X G zint
  have m_range := PySem.W.mg_none_of X G zrange
  have m_isinstance := PySem.W.mg_none_of X G zisinstance
  have m_bool := PySem.W.mg_none_of X G zbool
  have m_str := PySem.W.mg_none_of X G zstr
  have m_all := PySem.W.mg_none_of X G zall
  have m_repr := PySem.W.mg_none_of X G zrepr
  have m_dict := PySem.W.mg_none_of X G zdict
  have m_tuple := PySem.W.mg_none_of X G ztuple
  have m_sorted := PySem.W.mg_none_of X G zsorted
  have m_list := PySem.W.mg_none_of X G zlist
  have m_sum := PySem.W.mg_none_of X G zsum
  have m_set := PySem.W.mg_none_of X G zset
  have Fwh := fun_mk (st := sWhole) lwh cwh kwh
  have bwh := Fwh.binds (ps := ["value"]) fun _ _ _ _ _ _ us hl => match us, hl with | [_], _ => rfl
  have mwh := PySem.W.mg_of X G awh
  have Fii := fun_mk (st := sIsInt) lii cii kii
  have bii := Fii.binds (ps := ["value", "low", "high"]) fun _ _ _ _ _ _ us hl => match us, hl with | [_, _, _], _ => rfl
  have mii := PySem.W.mg_of X G aii
  have Ffr := fun_mk (st := sIsFrom) lfr cfr kfr
  have bfr := Ffr.binds (ps := ["value", "low"]) fun _ _ _ _ _ _ us hl => match us, hl with | [_, _], _ => rfl
  have mfr := PySem.W.mg_of X G afr
  have Fna := fun_mk (st := sIsName) lna cna kna
  have bna := Fna.binds (ps := ["value"]) fun _ _ _ _ _ _ us hl => match us, hl with | [_], _ => rfl
  have mna := PySem.W.mg_of X G ana
  have Fip := fun_mk (st := sIsPlace) lip cip kip
  have bip := Fip.binds (ps := ["value"]) fun _ _ _ _ _ _ us hl => match us, hl with | [_], _ => rfl
  have mip := PySem.W.mg_of X G aip
  have Fuo := fun_mk (st := sUnkOf) luo cuo kuo
  have buo := Fuo.binds (ps := ["places"]) fun _ _ _ _ _ _ us hl => match us, hl with | [_], _ => rfl
  have muo := PySem.W.mg_of X G auo
  have Fle := fun_mk (st := sLeast) lle cle kle
  have ble := Fle.binds (ps := ["base"]) fun _ _ _ _ _ _ us hl => match us, hl with | [_], _ => rfl
  have mle := PySem.W.mg_of X G ale
  have Fpt := fun_mk (st := sParts) lpt cpt kpt
  have bpt := Fpt.binds (ps := ["text"]) fun _ _ _ _ _ _ us hl => match us, hl with | [_], _ => rfl
  have mpt := PySem.W.mg_of X G apt
  have Fhs := fun_mk (st := sHasSizes) lhs chs khs
  have bhs := Fhs.binds (ps := ["setting", "unknowns"]) fun _ _ _ _ _ _ us hl => match us, hl with | [_, _], _ => rfl
  have mhs := PySem.W.mg_of X G ahs
  have Far := fun_mk (st := sAreSizes) lar car kar
  have bar := Far.binds (ps := ["value"]) fun _ _ _ _ _ _ us hl => match us, hl with | [_], _ => rfl
  have mar := PySem.W.mg_of X G aar
  have Fif_ := fun_mk (st := sIsFact) lif_ cif_ kif_
  have bif_ := Fif_.binds (ps := ["value"]) fun _ _ _ _ _ _ us hl => match us, hl with | [_], _ => rfl
  have mif_ := PySem.W.mg_of X G aif_
  have Fpl := fun_mk (st := sPlacedRow) lpl cpl kpl
  have bpl := Fpl.binds (ps := ["row"]) fun _ _ _ _ _ _ us hl => match us, hl with | [_], _ => rfl
  have mpl := PySem.W.mg_of X G apl
  have Fpo_ := fun_mk (st := sPlacesOf) lpo_ cpo_ kpo_
  have bpo_ := Fpo_.binds (ps := ["rows"]) fun _ _ _ _ _ _ us hl => match us, hl with | [_], _ => rfl
  have mpo_ := PySem.W.mg_of X G apo_
  have Fke := fun_mk (st := sKeeps) lke cke kke
  have bke := Fke.binds (ps := ["setting", "row"]) fun _ _ _ _ _ _ us hl => match us, hl with | [_, _], _ => rfl
  have mke := PySem.W.mg_of X G ake
  have Fce := fun_mk (st := sCell) lce cce kce
  have bce := Fce.binds (ps := ["_law_script", "_law_k"]) fun _ _ _ _ _ _ us hl => match us, hl with | [_, _], _ => rfl
  have mce := PySem.W.mg_of X G ace
  have Fbo := fun_mk (st := sBox) lbo cbo kbo
  have bbo := Fbo.binds (ps := ["_law_cell_here"]) fun _ _ _ _ _ _ us hl => match us, hl with | [_], _ => rfl
  have mbo := PySem.W.mg_of X G abo
  have Fta := fun_mk (st := sTake) lta cta kta
  have bta := Fta.binds (ps := ["_law_box_here", "_law_many"]) fun _ _ _ _ _ _ us hl => match us, hl with | [_, _], _ => rfl
  have mta := PySem.W.mg_of X G ata
  have Flpr := fun_mk (st := sPair6) llpr clpr klpr
  have blpr := Flpr.binds (ps := ["_law_box_here", "_law_roots_here"]) fun _ _ _ _ _ _ us hl => match us, hl with | [_, _], _ => rfl
  have mlpr := PySem.W.mg_of X G alpr
  have Flto := fun_mk (st := sTold6) llto clto klto
  have blto := Flto.binds (ps := ["_law_box_here", "_law_pair_here"]) fun _ _ _ _ _ _ us hl => match us, hl with | [_, _], _ => rfl
  have mlto := PySem.W.mg_of X G alto
  have Flrt := fun_mk (st := sRoots6) llrt clrt klrt
  have blrt := Flrt.binds (ps := ["_law_box_here"]) fun _ _ _ _ _ _ us hl => match us, hl with | [_], _ => rfl
  have mlrt := PySem.W.mg_of X G alrt
  have Flsz := fun_mk (st := sSize6) llsz clsz klsz
  have blsz := Flsz.binds (ps := ["_law_box_here"]) fun _ _ _ _ _ _ us hl => match us, hl with | [_], _ => rfl
  have mlsz := PySem.W.mg_of X G alsz
  have Flrw := fun_mk (st := sRow) llrw clrw klrw
  have blrw := Flrw.binds (ps := ["_law_box_here", "_law_roots_here"]) fun _ _ _ _ _ _ us hl => match us, hl with | [_, _], _ => rfl
  have mlrw := PySem.W.mg_of X G alrw
  have Flre := fun_mk (st := sReal) llre clre klre
  have blre := Flre.binds (ps := ["_law_box_here", "_law_row_here"]) fun _ _ _ _ _ _ us hl => match us, hl with | [_, _], _ => rfl
  have mlre := PySem.W.mg_of X G alre
  have Flma := fun_mk (st := sMade) llma clma klma
  have blma := Flma.binds (ps := ["_law_box_here", "_law_rows"]) fun _ _ _ _ _ _ us hl => match us, hl with | [_, _], _ => rfl
  have mlma := PySem.W.mg_of X G alma
  have Flch := fun_mk (st := sChanged) llch clch klch
  have blch := Flch.binds (ps := ["_law_box_here", "_law_rows", "_law_roots_here"]) fun _ _ _ _ _ _ us hl => match us, hl with | [_, _, _], _ => rfl
  have mlch := PySem.W.mg_of X G alch
  have Flps := fun_mk (st := sPairs) llps clps klps
  have blps := Flps.binds (ps := ["_law_row_here"]) fun _ _ _ _ _ _ us hl => match us, hl with | [_], _ => rfl
  have mlps := PySem.W.mg_of X G alps
  have Flke := fun_mk (st := sLKeeps) llke clke klke
  have blke := Flke.binds (ps := ["_law_sizes_here", "_law_much", "_law_row_here"]) fun _ _ _ _ _ _ us hl => match us, hl with | [_, _, _], _ => rfl
  have mlke := PySem.W.mg_of X G alke
  have Flss := fun_mk (st := sLSizes) llss clss klss
  have blss := Flss.binds (ps := ["_law_box_here", "_law_roots_here", "_law_much"]) fun _ _ _ _ _ _ us hl => match us, hl with | [_, _, _], _ => rfl
  have mlss := PySem.W.mg_of X G alss
  have Fla := fun_mk (st := sLaw) lla cla kla
  have bla := Fla.binds (ps := ["_law_script"]) fun _ _ _ _ _ _ us hl => match us, hl with | [_], _ => rfl
  have mla := PySem.W.mg_of X G ala
  have Fmo := fun_mk (st := (inClass sPlace 1)) lmo cmo kmo
  have bmo := Fmo.binds (ps := ["cls", "value"]) fun _ _ _ _ _ _ us hl => match us, hl with | [_, _], _ => rfl
  have Fmb := fun_mk (st := (inClass sPlace 2)) lmb cmb kmb
  have bmb := Fmb.binds (ps := ["self"]) fun _ _ _ _ _ _ us hl => match us, hl with | [_], _ => rfl
  have Fmh := fun_mk (st := (inClass sPlace 3)) lmh cmh kmh
  have bmh := Fmh.binds (ps := ["self"]) fun _ _ _ _ _ _ us hl => match us, hl with | [_], _ => rfl
  have Fmq := fun_mk (st := (inClass sPlace 6)) lmq cmq kmq
  have bmq := Fmq.binds (ps := ["self", "other"]) fun _ _ _ _ _ _ us hl => match us, hl with | [_, _], _ => rfl
  have Fmd := fun_mk (st := (inClass sPlace 7)) lmd cmd kmd
  have bmd := Fmd.binds (ps := ["self", "other"]) fun _ _ _ _ _ _ us hl => match us, hl with | [_, _], _ => rfl
  have Fmx := fun_mk (st := (inClass sInvPlace 0)) lmx cmx kmx
  have bmx := Fmx.binds (ps := ["self", "value"]) fun _ _ _ _ _ _ us hl => match us, hl with | [_, _], _ => rfl
  have Fmi := fun_mk (st := (inClass sInvInt 0)) lmi cmi kmi
  have bmi := Fmi.binds (ps := ["self", "value"]) fun _ _ _ _ _ _ us hl => match us, hl with | [_, _], _ => rfl
  have Fmt := fun_mk (st := (inClass sInvSet 0)) lmt cmt kmt
  have bmt := Fmt.binds (ps := ["self", "value"]) fun _ _ _ _ _ _ us hl => match us, hl with | [_, _], _ => rfl
  have Fmr := fun_mk (st := (inClass sInvFact 0)) lmr cmr kmr
  have bmr := Fmr.binds (ps := ["self", "value"]) fun _ _ _ _ _ _ us hl => match us, hl with | [_, _], _ => rfl
  have Fmf := fun_mk (st := (inClass sInvFacts 0)) lmf cmf kmf
  have bmf := Fmf.binds (ps := ["self", "value"]) fun _ _ _ _ _ _ us hl => match us, hl with | [_, _], _ => rfl
  have Fg0 := fun_mk (st := (inClass sSetting 0)) lg0 cg0 kg0
  have Fg2 := fun_mk (st := (inClass sSetting 2)) lg2 cg2 kg2
  have bg2 := Fg2.binds (ps := ["self"]) fun _ _ _ _ _ _ us hl => match us, hl with | [_], _ => rfl
  have Fg3 := fun_mk (st := (inClass sSetting 3)) lg3 cg3 kg3
  have bg3 := Fg3.binds (ps := ["self", "at"]) fun _ _ _ _ _ _ us hl => match us, hl with | [_, _], _ => rfl
  have Fg5 := fun_mk (st := (inClass sSetting 5)) lg5 cg5 kg5
  have bg5 := Fg5.binds (ps := ["self", "x"]) fun _ _ _ _ _ _ us hl => match us, hl with | [_, _], _ => rfl
  have Fh0 := fun_mk (st := (inClass sFacts 0)) lh0 ch0 kh0
  have Fh1 := fun_mk (st := (inClass sFacts 1)) lh1 ch1 kh1
  have bh1 := Fh1.binds (ps := ["self"]) fun _ _ _ _ _ _ us hl => match us, hl with | [_], _ => rfl
  have Fh2 := fun_mk (st := (inClass sFacts 2)) lh2 ch2 kh2
  have bh2 := Fh2.binds (ps := ["self"]) fun _ _ _ _ _ _ us hl => match us, hl with | [_], _ => rfl
  have Fh3 := fun_mk (st := (inClass sFacts 3)) lh3 ch3 kh3
  have bh3 := Fh3.binds (ps := ["self", "setting"]) fun _ _ _ _ _ _ us hl => match us, hl with | [_, _], _ => rfl
  have Fh4 := fun_mk (st := (inClass sFacts 4)) lh4 ch4 kh4
  have bh4 := Fh4.binds (ps := ["self", "other"]) fun _ _ _ _ _ _ us hl => match us, hl with | [_, _], _ => rfl
  have Fh5 := fun_mk (st := (inClass sFacts 5)) lh5 ch5 kh5
  have bh5 := Fh5.binds (ps := ["self"]) fun _ _ _ _ _ _ us hl => match us, hl with | [_], _ => rfl
  have Fh6 := fun_mk (st := (inClass sFacts 6)) lh6 ch6 kh6
  have bh6 := Fh6.binds (ps := ["self", "other"]) fun _ _ _ _ _ _ us hl => match us, hl with | [_, _], _ => rfl
  have FI : FunD K "__init__" "Place.__init__" (defArgs (inClass sPlace 0)) (defBody (inClass sPlace 0)) (defScope (inClass sPlace 0)) [.str ""] [("shift", .int 0)] fI _ :=
    ⟨⟨ocI, odI, .ref tD, .ref kD, dcI, pmI, anI, cdI, ctI, slI, rfl, lI, cI_, .inr ⟨by simp, tD, _, [.str "" kT], nT, rfl, lT, rfl, .cons ⟨kT, rfl⟩ .nil⟩, .inr ⟨kD, rfl, fun q hq => by
      rw [List.mem_singleton.mp hq]
      exact ⟨_, sD, ⟨kS, rfl⟩⟩⟩⟩, kI⟩
  obtain ⟨ds2, hds2, bI2⟩ := FunD.binds (ps := ["self", "base", "shift"]) FI 2 1 (by simp) rfl (fun T D doc pm an cdv ct us its ks l1 l2 l3 => match us, its, ks, l1, l2, l3 with
    | [_, _], [_], [_], _, _, _ => ⟨_, rfl, ⟨_, _, _, _, _, _, rfl, rfl, rfl⟩⟩) (by simp)
  obtain ⟨its1, mv1, kb1⟩ := FunD.kbinds (ps := ["self", "base", "shift"]) FI 1 ["shift"] [] (fun us its _ ws => us ++ its ++ ws) (by simp) (by simp) (fun q hq => nomatch hq) (fun r1 r2 _ r4 => (r1.append r2).append r4)
    (fun T D doc pm an cdv ct us its mv ws l1 l2 l3 l4 => match us, its, mv, ws, l1, l2, l3, l4 with
    | [_], [_], [], [_], _, _, _, _ => ⟨_, rfl, rfl⟩)
  obtain ⟨its2, mv2, kb2⟩ := FunD.kbinds (ps := ["self", "base", "shift"]) FI 2 ["shift"] [] (fun us _ _ ws => us ++ ws) (by simp) (by simp) (fun q hq => nomatch hq) (fun r1 _ _ r4 => r1.append r4)
    (fun T D doc pm an cdv ct us its mv ws l1 l2 l3 l4 => match us, its, mv, ws, l1, l2, l3, l4 with
    | [_, _], [_], [], [_], _, _, _, _ => ⟨_, rfl, rfl⟩)
  have Z : Cpl K mg cP := ⟨⟨pgP, hdP, pv_P, saP⟩, nB, nS, PySem.W.mg_of X G aCP⟩
  have Y : Pty K cP := ⟨⟨pgP, hdP, pv_P, saP⟩, haP, hn, htk, hmP⟩
  have N1 : Npl K cP := ⟨kit_ref hdP tCP rfl, kit_ref hdP tCP rfl, kit_ref hdP tCP rfl, kit_ref hdP tCP rfl⟩
  have M : Mk K cP fI := ⟨mkP, iI, jI, kcP⟩
  subst eG
  have FS : FunD K "__init__" "Setting.__init__" (defArgs (inClass sSetting 0)) (defBody (inClass sSetting 0)) (defScope (inClass sSetting 0)) [] [("page", .int 32)] fg0 _ :=
    ⟨⟨ocg0, odg0, .none, .ref kG, dcg0, pmg0, ang0, cdg0, ctg0, slg0, rfl, lg0, cg0, .inl ⟨rfl, rfl⟩, .inr ⟨kG, rfl, fun q hq => by
      rw [List.mem_singleton.mp hq]
      exact ⟨_, sG, ⟨kP, rfl⟩⟩⟩⟩, kg0⟩
  obtain ⟨dsS, hdsS, bS2⟩ := FunD.binds0 (ps := ["self", "sizes", "page"]) FS 2 (by simp) rfl (fun D doc pm an cdv ct us ks l1 l2 => match us, ks, l1, l2 with
    | [_, _], [_], _, _ => ⟨_, _, _, _, _, _, rfl, rfl, rfl⟩)
  have kS2 := kb_one (ps := ["self", "sizes", "page"]) Fg0 2 ["page"] fun _ _ _ _ _ _ us ws hu hw => match us, ws, hu, hw with | [_, _], [_], _, _ => rfl
  have YS : Pty K cG := ⟨⟨pgG, hdG, pv_G, saG⟩, haG, hn, htk, hmG⟩
  have pP : PropOf K cG "page" pg2 fg2 := ⟨ag2, ag21, ag22, rg, ag23⟩
  have MS : Mk K cG fg0 := ⟨mkG, ag0, jg0, kcG⟩
  have TT : Scl K mg cG := ⟨⟨pgG, hdG, pv_G, saG⟩, nZG, nPG, PySem.W.mg_of X G aCG⟩
  have TF : Fcl K mg cH := ⟨⟨pgH, hdH, pv_H, saH⟩, nRH, nUH, PySem.W.mg_of X G aCH⟩
  have YF : Pty K cH := ⟨⟨pgH, hdH, pv_H, saH⟩, haH, hn, htk, hmH⟩
  have MF : Mk K cH fh0 := ⟨mkH, ah0, jh0, kcH⟩
  have TAnd : Lty K cH .BitAnd fh4 := ⟨sfH, ah4, jh4, _, anH, .inl rfl⟩
  have TA : Arith K cP .Add fmd := ⟨sf, amd, jmd, ⟨_, ra, .inr ⟨_, rfl⟩⟩, ⟨_, ia⟩, ⟨_, ira⟩, rfl⟩
  have TX_ : Xcl K mg "InvalidPlace" cX "value" := ⟨⟨⟨nmX, qqX, NNX, bsX, bmX, snX, subX, abX, colX, ddX, k0X, k1X, k2X, k3X, k5X, lXx, rX⟩, saXe, exXe, tyXe, kXe⟩, noXe, PySem.W.mg_of X G aCX, ⟨gaXe, ggXe, exXe, hdXe⟩⟩
  have teX : PySem.W.exmOne K (.ref cX) (.ref cX) = some true := PySem.W.exm_ref exXe hdXe tyXe suXe
  have TI_ : Xcl K mg "InvalidInteger" cI "value" := ⟨⟨⟨nmI, qqI, NNI, bsI, bmI, snI, subI, abI, colI, ddI, k0I, k1I, k2I, k3I, k5I, lIx, rI⟩, saIe, exIe, tyIe, kIe⟩, noIe, PySem.W.mg_of X G aCI, ⟨gaIe, ggIe, exIe, hdIe⟩⟩
  have teI : PySem.W.exmOne K (.ref cI) (.ref cI) = some true := PySem.W.exm_ref exIe hdIe tyIe suIe
  have TS_ : Xcl K mg "InvalidSetting" cS "value" := ⟨⟨⟨nmS, qqS, NNS, bsS, bmS, snS, subS, abS, colS, ddS, k0S, k1S, k2S, k3S, k5S, lSx, rS⟩, saSe, exSe, tySe, kSe⟩, noSe, PySem.W.mg_of X G aCS, ⟨gaSe, ggSe, exSe, hdSe⟩⟩
  have teS : PySem.W.exmOne K (.ref cS) (.ref cS) = some true := PySem.W.exm_ref exSe hdSe tySe suSe
  have TR_ : Xcl K mg "InvalidFact" cR "value" := ⟨⟨⟨nmR, qqR, NNR, bsR, bmR, snR, subR, abR, colR, ddR, k0R, k1R, k2R, k3R, k5R, lRx, rR⟩, saRe, exRe, tyRe, kRe⟩, noRe, PySem.W.mg_of X G aCR, ⟨gaRe, ggRe, exRe, hdRe⟩⟩
  have teR : PySem.W.exmOne K (.ref cR) (.ref cR) = some true := PySem.W.exm_ref exRe hdRe tyRe suRe
  have TF_ : Xcl K mg "InvalidFacts" cF "value" := ⟨⟨⟨nmF, qqF, NNF, bsF, bmF, snF, subF, abF, colF, ddF, k0F, k1F, k2F, k3F, k5F, lFx, rF⟩, saFe, exFe, tyFe, kFe⟩, noFe, PySem.W.mg_of X G aCF, ⟨gaFe, ggFe, exFe, hdFe⟩⟩
  have teF : PySem.W.exmOne K (.ref cF) (.ref cF) = some true := PySem.W.exm_ref exFe hdFe tyFe suFe
  have pB : PropOf K cP "base" pb fmb := ⟨amb, amb1, amb2, rb, amb3⟩
  have pS : PropOf K cP "shift" ph fmh := ⟨amh, amh1, amh2, rh, amh3⟩
  subst etn0 etn1 etn2 etn3 ets0 ets1 ets2 ets3 ets4 ets5 etp0 etp1
  have Ttn : Tab K w dtn numS := tab_of (l := [("0", 0, ptn0, qtn0), ("1", 1, ptn1, qtn1), ("2", 2, ptn2, qtn2), ("3", 3, ptn3, qtn3)]) ttn rfl wtn fun z => rfl
  have Tts : Tab K w dts shS := tab_of (l := [("-3", (-3), pts0, qts0), ("-2", (-2), pts1, qts1), ("-1", (-1), pts2, qts2), ("+1", 1, pts3, qts3), ("+2", 2, pts4, qts4), ("+3", 3, pts5, qts5)]) tts rfl wts fun z => rfl
  have Ttp : Tab K w dtp plS := tab_of (l := [("at_most", 2, ptp0, qtp0), ("page", 1, ptp1, qtp1)]) ttp rfl wtp fun z => rfl
  refine ⟨PySem.W.fnOf "law" "law" (defArgs sLaw) (defBody sLaw) (defScope sLaw) .none kVla dcla pmla anla cdla ctla, fun s v => .of_eq rfl, fun base _ _ => ?_⟩
  have gm := PySem.W.mg_of X G gM
  have Gwh : FnOk l.prog w K mg base CX0 1 _ _ ["value"] (spWhole K) := ok_whole Fwh B D
  have Gii : FnOk l.prog w K mg base CX0 2 _ _ ["value", "low", "high"] (spIsInt K) := ok_isInt Fii Gwh mwh kwh bwh
  have Gna : FnOk l.prog w K mg base CX0 1 _ _ ["value"] (spIsName K) := ok_isName Fna B D (PySem.W.mg_of X G gL) (PySem.W.mg_of X G gA)
  have Gle : FnOk l.prog w K mg base CX0 1 _ _ ["base"] spLeast := ok_least Fle gm
  have GIP : FnOk l.prog w K mg base CX0 3 fI _ ["self", "base", "shift"] (spInit cP) := ok_init FI Z Gna mna kna bna Gii mii kii bii Gle mle kle ble gm
  have T : Tk l.prog w K mg base fta _ := ⟨ok_take Fta B, mta, kta, bta⟩
  have Gpt : FnOk l.prog w K mg base CX0 2 _ _ ["text"] spParts := ok_parts Fpt Gna mna kna bna (PySem.W.mg_of X G gtn) (PySem.W.mg_of X G gts) Ttn Tts
  have GXX : FnOk l.prog w K mg base CX0 1 fmx _ ["self", "value"] (spX1 K cX "value") := ok_xinit Fmx TX_ (PySem.W.mg_of X G aCM) ⟨rdM, gaM⟩ fcM
  have XRX : Xr l.prog w K mg base "InvalidPlace" cX fmx _ := ⟨TX_, GXX, amx, tfX, bmx⟩
  have GXI : FnOk l.prog w K mg base CX0 1 fmi _ ["self", "value"] (spX1 K cI "value") := ok_xinitI Fmi TI_ (PySem.W.mg_of X G aCM) ⟨rdM, gaM⟩ fcM
  have XRI : Xr l.prog w K mg base "InvalidInteger" cI fmi _ := ⟨TI_, GXI, ami, tfI, bmi⟩
  have GXS : FnOk l.prog w K mg base CX0 1 fmt _ ["self", "value"] (spX1 K cS "value") := ok_xinitS Fmt TS_ (PySem.W.mg_of X G aCM) ⟨rdM, gaM⟩ fcM
  have XRS : Xr l.prog w K mg base "InvalidSetting" cS fmt _ := ⟨TS_, GXS, amt, tfS, bmt⟩
  have GXR : FnOk l.prog w K mg base CX0 1 fmr _ ["self", "value"] (spX1 K cR "value") := ok_xinitR Fmr TR_ (PySem.W.mg_of X G aCM) ⟨rdM, gaM⟩ fcM
  have XRR : Xr l.prog w K mg base "InvalidFact" cR fmr _ := ⟨TR_, GXR, amr, tfR, bmr⟩
  have GXF : FnOk l.prog w K mg base CX0 1 fmf _ ["self", "value"] (spX1 K cF "value") := ok_xinitFs Fmf TF_ (PySem.W.mg_of X G aCM) ⟨rdM, gaM⟩ fcM
  have XRF : Xr l.prog w K mg base "InvalidFacts" cF fmf _ := ⟨TF_, GXF, amf, tfF, bmf⟩
  have GO : FnOk l.prog w K mg base (L2.CX l.prog w) 5 fmo _ ["cls", "value"] (spOf K cP cX) := ok_of Fmo Z Y N1 B D Gii mii kii bii Gpt mpt kpt bpt gm M GIP kb1 kb2 TX_ GXX amx tfX bmx
  have O : OfM l.prog w K mg base cP cX po fmo _ := ⟨GO, ⟨rdP, gaP⟩, ⟨amo, ⟨_, amo2⟩, fo⟩, bmo⟩
  have Gb : FnOk l.prog w K mg base CX0 1 fmb _ ["self"] (spBase cP) := ok_base Fmb Z
  have Gs : FnOk l.prog w K mg base CX0 1 fmh _ ["self"] (spShift cP) := ok_shift Fmh Z
  have GE : FnOk l.prog w K mg base CX0 1 fmq _ ["self", "other"] (spEq K cP) := ok_eq Fmq Z Y D
  have GAd : FnOk l.prog w K mg base CX0 5 fmd _ ["self", "other"] (spAdd cP) := ok_add Fmd Z Gii mii kii bii Gle mle kle ble gm M GIP kb2
  have Gfr : FnOk l.prog w K mg base CX0 2 _ _ ["value", "low"] (spIsFrom K) := ok_isFrom Ffr Gwh mwh kwh bwh
  have Gar : FnOk l.prog w K mg base CX0 3 _ _ ["value"] (spAre K) := ok_are Far B D m_dict (PySem.W.mg_of X G gU) Gna mna kna bna Gfr mfr kfr bfr
  have GIS : FnOk l.prog w K mg base (L2.CX l.prog w) 4 fg0 _ ["self", "sizes", "page"] (spInitS K cG cS cI) := ok_initS FS TT m_dict Gar mar kar bar Gfr mfr kfr bfr TS_ GXS amt tfS bmt TI_ GXI ami tfI bmi
  have GG : FnOk l.prog w K mg base (L2.CX l.prog w) 6 fg3 _ ["self", "at"] (spGetS K cG cP cX) := ok_getS Fg3 Z TT O TX_ GXX amx tfX bmx pB Gb bmb pS Gs bmh
  have GPg : FnOk l.prog w K mg base CX0 1 fg2 _ ["self"] (spPageS cG) := ok_pageS Fg2 TT
  have GC : FnOk l.prog w K mg base CX0 1 fg5 _ ["self", "x"] (spContS K cG) := ok_contS Fg5 TT D
  have Gip : FnOk l.prog w K mg base CX0 6 _ _ ["value"] (spIsPl K cP) := ok_isPl Fip Z O (PySem.W.mg_of X G aCX) teX
  have Gif : FnOk l.prog w K mg base CX0 7 _ _ ["value"] (spIsFact K cP) := ok_isFact Fif_ Gip mip kip bip (PySem.W.mg_of X G gtp) Ttp B D m_tuple
  have Gpl : FnOk l.prog w K mg base CX0 6 _ _ ["row"] (spPlaced K cP) := ok_placed Fpl Z O
  have Gpo : FnOk l.prog w K mg base CX0 1 _ _ ["rows"] (spPlacesOf K cP) := ok_placesOf Fpo_
  have Guo : FnOk l.prog w K mg base CX0 3 _ _ ["places"] (spUnkOf K cP) := ok_unkOf Fuo Z m_sorted pB Gb bmb
  have Ghs : FnOk l.prog w K mg base CX0 2 _ _ ["setting", "unknowns"] (spHasSizes K cG) := ok_hasSizes Fhs D GC bg5 ag5 jg5
  have Gke : FnOk l.prog w K mg base CX0 8 _ _ ["setting", "row"] (spKeeps K cG cP) := ok_keeps Fke TT GG bg3 ag3 fog jg3 pP GPg bg2
  have GIF : FnR l.prog w K mg base (L2.CX l.prog w) 8 fh0 (spMakeF K cP cH cR cF) := ok_initF Fh0 TF XRR XRF B ⟨Gif, mif_, kif_, bif_⟩ ⟨Gpl, mpl, kpl, bpl⟩ ⟨Gpo, mpo_, kpo_, bpo_⟩ ⟨Guo, muo, kuo, buo⟩ (PySem.W.mg_of X G gU) (StX.bind_star1 (B := fun l => bindArgs _ ⟨l, []⟩) (fun a => rfl) (fun a r rs => rfl))
  have GHo : FnOk l.prog w K mg base (L2.CX l.prog w) 9 fh3 _ ["self", "setting"] (spHolds K cH cG cP cS) := ok_holds Fh3 TF TT YS XRS D ⟨Ghs, mhs, khs, bhs⟩ ⟨Gke, mke, kke, bke⟩
  have GLn : FnOk l.prog w K mg base CX0 1 fh5 _ ["self"] (spLenF cH cP) := ok_lenF Fh5 TF B
  have GAn : FnOk l.prog w K mg base (L2.CX l.prog w) 10 fh4 _ ["self", "other"] (spAnd K cH cP cF) := ok_and Fh4 TF YF XRF B D MF GIF ⟨Gpo, mpo_, kpo_, bpo_⟩ ⟨Guo, muo, kuo, buo⟩ (PySem.W.mg_of X G gU)
  have Glpr : FnOk l.prog w K mg base CX0 2 _ _ ["_law_box_here", "_law_roots_here"] (spPair6 K) := ok_pair6 Flpr T B
  have Glto : FnOk l.prog w K mg base CX0 6 _ _ ["_law_box_here", "_law_pair_here"] (spTold6 K cP) := ok_told6 Flto T Z M N1 GIP hds2 bI2 kb2 GAd bmd TA
  have Glrt : FnOk l.prog w K mg base CX0 2 _ _ ["_law_box_here"] spRoots6 := ok_roots6 Flrt T B
  have Glsz : FnOk l.prog w K mg base CX0 2 _ _ ["_law_box_here"] spSize6 := ok_size6 Flsz T
  have Glrw : FnOk l.prog w K mg base CX0 3 _ _ ["_law_box_here", "_law_roots_here"] (spRow8 K) := ok_row8 Flrw T ⟨Glpr, mlpr, klpr, blpr⟩
  have Glre : FnOk l.prog w K mg base CX0 7 _ _ ["_law_box_here", "_law_row_here"] (spReal8 K cP) := ok_real8 Flre B ⟨Glto, mlto, klto, blto⟩
  have GM1 : FnOk l.prog w K mg base CX0 11 flma _ ["_law_box_here", "_law_rows"] (spMade K cP cH 1) := ok_made (kk := 10) (m := 1) (spR := fun _ _ _ _ => False) Flma B T ⟨Glre, mlre, klre, blre⟩ TF YF MF GIF GAn bh4 TAnd ⟨fun _ _ _ _ h => h.elim, fun _ _ _ _ _ _ _ _ _ _ _ _ _ h => h.elim⟩ mlma klma blma (by decide) (by decide) (fun h => absurd h (by decide))
  have GM5 : FnOk l.prog w K mg base CX0 12 flma _ ["_law_box_here", "_law_rows"] (spMade K cP cH 5) := ok_made (kk := 11) (m := 5) Flma B T ⟨Glre, mlre, klre, blre⟩ TF YF MF GIF GAn bh4 TAnd GM1 mlma klma blma (by decide) (by decide) (fun _ _ _ _ _ h => h)
  have Glch : FnOk l.prog w K mg base CX0 4 _ _ ["_law_box_here", "_law_rows", "_law_roots_here"] (spChanged K) := ok_changed Flch B T ⟨Glpr, mlpr, klpr, blpr⟩ ⟨Glrw, mlrw, klrw, blrw⟩
  have Glps : FnOk l.prog w K mg base CX0 3 _ _ ["_law_row_here"] (spPairs K cP) := ok_pairs Flps m_tuple Z pB Gb bmb pS Gs bmh
  have Glke : FnOk l.prog w K mg base CX0 1 _ _ ["_law_sizes_here", "_law_much", "_law_row_here"] (spLKeeps K) := ok_lkeeps Flke B
  have Glss : FnOk l.prog w K mg base CX0 3 _ _ ["_law_box_here", "_law_roots_here", "_law_much"] spLSizes := ok_lsizes Flss B m_dict T ⟨Glsz, mlsz, klsz, blsz⟩
  have GRw : FnOk l.prog w K mg base CX0 1 fh1 _ ["self"] (spRowsF cH cP) := ok_rowsF Fh1 TF m_list
  have GUn : FnOk l.prog w K mg base CX0 1 fh2 _ ["self"] (spUnkF cH cP) := ok_unkF Fh2 TF m_list
  have GEq : FnOk l.prog w K mg base CX0 4 fh6 _ ["self", "other"] (spEqF K cH cP) := ok_eqF Fh6 TF YF D GE bmq amq jmq
  have kH := kb_one (ps := ["self", "setting"]) Fh3 1 ["setting"] fun _ _ _ _ _ _ us ws hu hw => match us, ws, hu, hw with | [_], [_], _, _ => rfl
  have nfL : PySem.W.notFirst K cH (.type "list") = true := by
    unfold PySem.W.notFirst
    rw [suL]
    simp
  exact ok_law Fla B m_repr m_list m_sum m_set m_sorted T ⟨ok_cell Fce B, mce, kce, bce⟩ ⟨ok_box Fbo B, mbo, kbo, bbo⟩ ⟨Glrt, mlrt, klrt, blrt⟩ ⟨Glrw, mlrw, klrw, blrw⟩ ⟨GM5, mlma, klma, blma⟩ ⟨Glch, mlch, klch, blch⟩ ⟨Glps, mlps, klps, blps⟩ ⟨Glke, mlke, klke, blke⟩ ⟨Glss, mlss, klss, blss⟩
    TT MS GIS kS2 TF YF GRw bh1 ⟨ah1, jh1, kh1⟩ GUn bh2 ⟨ah2, jh2, kh2⟩ GHo kH ⟨ah3, jh3, kh3⟩ GLn bh5 ah5 jh5 GEq bh6 ah6 jh6 neH nfL (kit_ref hdH tCH rfl)
theorem walk {l : PySem.W.OpenLaw} {q : Program} {loose : List Str} {XP : (Str → Option Value) → Heap → Prop} {YP : World → Heap → Prop} {d : DefRec} {K : Params → PySem.W.Frag} (hn : l.most = some 63) (hdf : d.params.defaults = [])
    (hY : ∀ (w : World) (h : Heap), YP w h → (K w.params).In h)
    (F : ∀ (w : World) (mg : Str → Option Value) (fa : Addr) (h : Heap), (K w.params).In h → h.Ns mainGlobals mg → mg d.name = some (.ref fa) →
      ∃ fd : FuncData, (∀ (s : Shared) (u : Value), BindsTo s fd ⟨[u], []⟩ [("_law_script", u)]) ∧ ∀ base : Heap, (K w.params).In base → base.Ns mainGlobals mg → FnG l.prog w (K w.params) mg base CX0 13 fa fd ["_law_script"] (spLaw (K w.params))) :
    PySem.W.WalkO q loose XP YP l.row.toRowW d [] (fun f vs => PySem.call f vs) :=
  walk_G (n := 63) (k := 13) (x := "_law_script") (CX := fun _ => CX0) (sp := fun w => spLaw (K w.params)) hn (by decide) hdf ⟨rfl, by decide, by decide⟩ hY F (fun _ _ a ns hl _ _ hS => ⟨a, ns, rfl, hS, hl, fun _ => rfl⟩) fun _ _ _ _ _ z => z
end Mz
set_option Elab.async false
set_option linter.all false
set_option maxRecDepth 100000
open PySem PySem.W PyProof.Rows in
set_option maxRecDepth 100000 in
set_option maxHeartbeats 0 in
theorem PySem.Challenge.cw_mapsizes_k08_facts_kept_holds : PySem.Challenge.rw_mapsizes_k08_facts_kept.Holds := by
  w_on; o_law; k_head; (case hw => w_witness2)
  k_fill
  refine Mz.walk (l := PySem.Challenge.rw_mapsizes_k08_facts_kept) rfl rfl (fun w h Y => PySem.W.kIn_of Y) ?F
  case F =>
    intro w mg fa h KX G hmg
    refine' Mz.all_mk (w := w) KX G hmg ?awh ?lwh ?cwh ?kwh ?aii ?lii ?cii ?kii ?afr ?lfr ?cfr ?kfr ?ana ?lna ?cna ?kna ?aip ?lip ?cip ?kip ?auo ?luo ?cuo ?kuo ?ale ?lle ?cle ?kle ?apt ?lpt ?cpt ?kpt ?ahs ?lhs ?chs ?khs ?aar ?lar ?car ?kar ?aif_ ?lif_ ?cif_ ?kif_ ?apl ?lpl ?cpl ?kpl ?apo_ ?lpo_ ?cpo_ ?kpo_ ?ake ?lke ?cke ?kke ?ace ?lce ?cce ?kce ?abo ?lbo ?cbo ?kbo ?ata ?lta ?cta ?kta ?alpr ?llpr ?clpr ?klpr ?alto ?llto ?clto ?klto ?alrt ?llrt ?clrt ?klrt ?alsz ?llsz ?clsz ?klsz ?alrw ?llrw ?clrw ?klrw ?alre ?llre ?clre ?klre ?alma ?llma ?clma ?klma ?alch ?llch ?clch ?klch ?alps ?llps ?clps ?klps ?alke ?llke ?clke ?klke ?alss ?llss ?clss ?klss ?ala ?lla ?cla ?kla ?aCP ?aCG ?aCH ?aCX ?aCI ?aCS ?aCR ?aCF ?aCM ?amo ?amo2 ?lmo ?cmo ?kmo ?amb ?amb1 ?amb2 ?amb3 ?lmb ?cmb ?kmb ?amh ?amh1 ?amh2 ?amh3 ?lmh ?cmh ?kmh ?amq ?lmq ?cmq ?kmq ?amd ?lmd ?cmd ?kmd ?amx ?lmx ?cmx ?kmx ?ami ?lmi ?cmi ?kmi ?amt ?lmt ?cmt ?kmt ?amr ?lmr ?cmr ?kmr ?amf ?lmf ?cmf ?kmf ?ag0 ?lg0 ?cg0 ?kg0 ?ag2 ?ag21 ?ag22 ?ag23 ?lg2 ?cg2 ?kg2 ?ag3 ?lg3 ?cg3 ?kg3 ?ag5 ?lg5 ?cg5 ?kg5 ?ah0 ?lh0 ?ch0 ?kh0 ?ah1 ?lh1 ?ch1 ?kh1 ?ah2 ?lh2 ?ch2 ?kh2 ?ah3 ?lh3 ?ch3 ?kh3 ?ah4 ?lh4 ?ch4 ?kh4 ?ah5 ?lh5 ?ch5 ?kh5 ?ah6 ?lh6 ?ch6 ?kh6 ?jmq ?jmd ?jg0 ?jg3 ?jg5 ?jh0 ?jh1 ?jh2 ?jh3 ?jh4 ?jh5 ?jh6 ?fo ?fog ?tfX ?tfI ?tfS ?tfR ?tfF ?eG ?iI ?jI ?lI ?cI_ ?kI ?lT ?sD ?hn ?htk ?nB ?nS ?rdP ?gaP ?xiP ?xsP ?sf ?ra ?ia ?ira ?pgP ?hdP ?pv_P ?saP ?mkP ?kcP ?haP ?hmP ?tCP ?pgG ?hdG ?pv_G ?saG ?mkG ?kcG ?haG ?hmG ?tCG ?pgH ?hdH ?pv_H ?saH ?mkH ?kcH ?haH ?hmH ?tCH ?nZG ?nPG ?sG ?nRH ?nUH ?sfH ?anH ?neH ?suL ?lXx ?rX ?saXe ?exXe ?tyXe ?kXe ?gaXe ?ggXe ?hdXe ?suXe ?noXe ?lIx ?rI ?saIe ?exIe ?tyIe ?kIe ?gaIe ?ggIe ?hdIe ?suIe ?noIe ?lSx ?rS ?saSe ?exSe ?tySe ?kSe ?gaSe ?ggSe ?hdSe ?suSe ?noSe ?lRx ?rR ?saRe ?exRe ?tyRe ?kRe ?gaRe ?ggRe ?hdRe ?suRe ?noRe ?lFx ?rF ?saFe ?exFe ?tyFe ?kFe ?gaFe ?ggFe ?hdFe ?suFe ?noFe ?rdM ?gaM ?fcM ?gL ?gA ?gM ?gU ?gtn ?ttn ?etn0 ?etn1 ?etn2 ?etn3 ?wtn ?gts ?tts ?ets0 ?ets1 ?ets2 ?ets3 ?ets4 ?ets5 ?wts ?gtp ?ttp ?etp0 ?etp1 ?wtp ?zlen ?zmax ?zmin ?zint ?zrange ?zisinstance ?zbool ?zstr ?zall ?zrepr ?zdict ?ztuple ?zsorted ?zlist ?zsum ?zset
    (case awh => k_is)
    (case lwh => k_is)
    (case cwh => k_is)
    (case kwh => k_is)
    (case aii => k_is)
    (case lii => k_is)
    (case cii => k_is)
    (case kii => k_is)
    (case afr => k_is)
    (case lfr => k_is)
    (case cfr => k_is)
    (case kfr => k_is)
    (case ana => k_is)
    (case lna => k_is)
    (case cna => k_is)
    (case kna => k_is)
    (case aip => k_is)
    (case lip => k_is)
    (case cip => k_is)
    (case kip => k_is)
    (case auo => k_is)
    (case luo => k_is)
    (case cuo => k_is)
    (case kuo => k_is)
    (case ale => k_is)
    (case lle => k_is)
    (case cle => k_is)
    (case kle => k_is)
    (case apt => k_is)
    (case lpt => k_is)
    (case cpt => k_is)
    (case kpt => k_is)
    (case ahs => k_is)
    (case lhs => k_is)
    (case chs => k_is)
    (case khs => k_is)
    (case aar => k_is)
    (case lar => k_is)
    (case car => k_is)
    (case kar => k_is)
    (case aif_ => k_is)
    (case lif_ => k_is)
    (case cif_ => k_is)
    (case kif_ => k_is)
    (case apl => k_is)
    (case lpl => k_is)
    (case cpl => k_is)
    (case kpl => k_is)
    (case apo_ => k_is)
    (case lpo_ => k_is)
    (case cpo_ => k_is)
    (case kpo_ => k_is)
    (case ake => k_is)
    (case lke => k_is)
    (case cke => k_is)
    (case kke => k_is)
    (case ace => k_is)
    (case lce => k_is)
    (case cce => k_is)
    (case kce => k_is)
    (case abo => k_is)
    (case lbo => k_is)
    (case cbo => k_is)
    (case kbo => k_is)
    (case ata => k_is)
    (case lta => k_is)
    (case cta => k_is)
    (case kta => k_is)
    (case alpr => k_is)
    (case llpr => k_is)
    (case clpr => k_is)
    (case klpr => k_is)
    (case alto => k_is)
    (case llto => k_is)
    (case clto => k_is)
    (case klto => k_is)
    (case alrt => k_is)
    (case llrt => k_is)
    (case clrt => k_is)
    (case klrt => k_is)
    (case alsz => k_is)
    (case llsz => k_is)
    (case clsz => k_is)
    (case klsz => k_is)
    (case alrw => k_is)
    (case llrw => k_is)
    (case clrw => k_is)
    (case klrw => k_is)
    (case alre => k_is)
    (case llre => k_is)
    (case clre => k_is)
    (case klre => k_is)
    (case alma => k_is)
    (case llma => k_is)
    (case clma => k_is)
    (case klma => k_is)
    (case alch => k_is)
    (case llch => k_is)
    (case clch => k_is)
    (case klch => k_is)
    (case alps => k_is)
    (case llps => k_is)
    (case clps => k_is)
    (case klps => k_is)
    (case alke => k_is)
    (case llke => k_is)
    (case clke => k_is)
    (case klke => k_is)
    (case alss => k_is)
    (case llss => k_is)
    (case clss => k_is)
    (case klss => k_is)
    (case ala => k_is)
    (case lla => k_is)
    (case cla => k_is)
    (case kla => k_is)
    (case aCP => k_is)
    (case aCG => k_is)
    (case aCH => k_is)
    (case aCX => k_is)
    (case aCI => k_is)
    (case aCS => k_is)
    (case aCR => k_is)
    (case aCF => k_is)
    (case aCM => k_is)
    (case amo => k_is)
    (case amo2 => k_is)
    (case lmo => k_is)
    (case cmo => k_is)
    (case kmo => k_is)
    (case amb => k_is)
    (case amb1 => k_is)
    (case amb2 => k_is)
    (case amb3 => k_is)
    (case lmb => k_is)
    (case cmb => k_is)
    (case kmb => k_is)
    (case amh => k_is)
    (case amh1 => k_is)
    (case amh2 => k_is)
    (case amh3 => k_is)
    (case lmh => k_is)
    (case cmh => k_is)
    (case kmh => k_is)
    (case amq => k_is)
    (case lmq => k_is)
    (case cmq => k_is)
    (case kmq => k_is)
    (case amd => k_is)
    (case lmd => k_is)
    (case cmd => k_is)
    (case kmd => k_is)
    (case amx => k_is)
    (case lmx => k_is)
    (case cmx => k_is)
    (case kmx => k_is)
    (case ami => k_is)
    (case lmi => k_is)
    (case cmi => k_is)
    (case kmi => k_is)
    (case amt => k_is)
    (case lmt => k_is)
    (case cmt => k_is)
    (case kmt => k_is)
    (case amr => k_is)
    (case lmr => k_is)
    (case cmr => k_is)
    (case kmr => k_is)
    (case amf => k_is)
    (case lmf => k_is)
    (case cmf => k_is)
    (case kmf => k_is)
    (case ag0 => k_is)
    (case lg0 => k_is)
    (case cg0 => k_is)
    (case kg0 => k_is)
    (case ag2 => k_is)
    (case ag21 => k_is)
    (case ag22 => k_is)
    (case ag23 => k_is)
    (case lg2 => k_is)
    (case cg2 => k_is)
    (case kg2 => k_is)
    (case ag3 => k_is)
    (case lg3 => k_is)
    (case cg3 => k_is)
    (case kg3 => k_is)
    (case ag5 => k_is)
    (case lg5 => k_is)
    (case cg5 => k_is)
    (case kg5 => k_is)
    (case ah0 => k_is)
    (case lh0 => k_is)
    (case ch0 => k_is)
    (case kh0 => k_is)
    (case ah1 => k_is)
    (case lh1 => k_is)
    (case ch1 => k_is)
    (case kh1 => k_is)
    (case ah2 => k_is)
    (case lh2 => k_is)
    (case ch2 => k_is)
    (case kh2 => k_is)
    (case ah3 => k_is)
    (case lh3 => k_is)
    (case ch3 => k_is)
    (case kh3 => k_is)
    (case ah4 => k_is)
    (case lh4 => k_is)
    (case ch4 => k_is)
    (case kh4 => k_is)
    (case ah5 => k_is)
    (case lh5 => k_is)
    (case ch5 => k_is)
    (case kh5 => k_is)
    (case ah6 => k_is)
    (case lh6 => k_is)
    (case ch6 => k_is)
    (case kh6 => k_is)
    (case jmq => k_is)
    (case jmd => k_is)
    (case jg0 => k_is)
    (case jg3 => k_is)
    (case jg5 => k_is)
    (case jh0 => k_is)
    (case jh1 => k_is)
    (case jh2 => k_is)
    (case jh3 => k_is)
    (case jh4 => k_is)
    (case jh5 => k_is)
    (case jh6 => k_is)
    (case fo => k_is)
    (case fog => k_is)
    (case tfX => k_is)
    (case tfI => k_is)
    (case tfS => k_is)
    (case tfR => k_is)
    (case tfF => k_is)
    (case eG => rfl)
    (case iI => k_is)
    (case jI => k_is)
    (case lI => k_is)
    (case cI_ => k_is)
    (case kI => k_is)
    (case lT => k_is)
    (case sD => k_is)
    (case hn => k_is)
    (case htk => k_is)
    (case nB => k_is)
    (case nS => k_is)
    (case rdP => k_is)
    (case gaP => k_is)
    (case xiP => k_is)
    (case xsP => k_is)
    (case sf => k_is)
    (case ra => k_is)
    (case ia => k_is)
    (case ira => k_is)
    (case pgP => k_is)
    (case hdP => k_is)
    (case pv_P => k_is)
    (case saP => k_is)
    (case mkP => k_is)
    (case kcP => k_is)
    (case haP => k_is)
    (case hmP => k_is)
    (case tCP => k_is)
    (case pgG => k_is)
    (case hdG => k_is)
    (case pv_G => k_is)
    (case saG => k_is)
    (case mkG => k_is)
    (case kcG => k_is)
    (case haG => k_is)
    (case hmG => k_is)
    (case tCG => k_is)
    (case pgH => k_is)
    (case hdH => k_is)
    (case pv_H => k_is)
    (case saH => k_is)
    (case mkH => k_is)
    (case kcH => k_is)
    (case haH => k_is)
    (case hmH => k_is)
    (case tCH => k_is)
    (case nZG => k_is)
    (case nPG => k_is)
    (case sG => k_is)
    (case nRH => k_is)
    (case nUH => k_is)
    (case sfH => k_is)
    (case anH => k_is)
    (case neH => k_is)
    (case suL => k_is)
    (case lXx => k_is)
    (case rX => rfl)
    (case saXe => k_is)
    (case exXe => k_is)
    (case tyXe => k_is)
    (case kXe => k_is)
    (case gaXe => k_is)
    (case ggXe => k_is)
    (case hdXe => k_is)
    (case suXe => k_is)
    (case noXe => k_is)
    (case lIx => k_is)
    (case rI => rfl)
    (case saIe => k_is)
    (case exIe => k_is)
    (case tyIe => k_is)
    (case kIe => k_is)
    (case gaIe => k_is)
    (case ggIe => k_is)
    (case hdIe => k_is)
    (case suIe => k_is)
    (case noIe => k_is)
    (case lSx => k_is)
    (case rS => rfl)
    (case saSe => k_is)
    (case exSe => k_is)
    (case tySe => k_is)
    (case kSe => k_is)
    (case gaSe => k_is)
    (case ggSe => k_is)
    (case hdSe => k_is)
    (case suSe => k_is)
    (case noSe => k_is)
    (case lRx => k_is)
    (case rR => rfl)
    (case saRe => k_is)
    (case exRe => k_is)
    (case tyRe => k_is)
    (case kRe => k_is)
    (case gaRe => k_is)
    (case ggRe => k_is)
    (case hdRe => k_is)
    (case suRe => k_is)
    (case noRe => k_is)
    (case lFx => k_is)
    (case rF => rfl)
    (case saFe => k_is)
    (case exFe => k_is)
    (case tyFe => k_is)
    (case kFe => k_is)
    (case gaFe => k_is)
    (case ggFe => k_is)
    (case hdFe => k_is)
    (case suFe => k_is)
    (case noFe => k_is)
    (case rdM => k_is)
    (case gaM => k_is)
    (case fcM => k_is)
    (case gL => k_is)
    (case gA => k_is)
    (case gM => k_is)
    (case gU => k_is)
    (case gtn => k_is)
    (case ttn => k_is)
    (case etn0 => rfl)
    (case etn1 => rfl)
    (case etn2 => rfl)
    (case etn3 => rfl)
    (case wtn => first | rfl | k_is)
    (case gts => k_is)
    (case tts => k_is)
    (case ets0 => rfl)
    (case ets1 => rfl)
    (case ets2 => rfl)
    (case ets3 => rfl)
    (case ets4 => rfl)
    (case ets5 => rfl)
    (case wts => first | rfl | k_is)
    (case gtp => k_is)
    (case ttp => k_is)
    (case etp0 => rfl)
    (case etp1 => rfl)
    (case wtp => first | rfl | k_is)
    (case zlen => k_is)
    (case zmax => k_is)
    (case zmin => k_is)
    (case zint => k_is)
    (case zrange => k_is)
    (case zisinstance => k_is)
    (case zbool => k_is)
    (case zstr => k_is)
    (case zall => k_is)
    (case zrepr => k_is)
    (case zdict => k_is)
    (case ztuple => k_is)
    (case zsorted => k_is)
    (case zlist => k_is)
    (case zsum => k_is)
    (case zset => k_is)
