import PyProof.Rows.All
import Wide.All
import OpenK.AllK
import Wide.FinOn
import PyProof.ReprRoads
import HandS.ForMost
import HandS.EndBits
import HandS.ForExc
import HandS.TryMany
import HandS.ExcInit
import HandS.ExcField
import HandS.ClsMeth
import HandS.IsInst
import KE.KCallOwn
import KE.KFmtOwn
import KE.KOpsOwn
import HandS.FStr
import KE.KxField
import HandS.MakeKwOnly
import HandS.ExcOwn
import PyProof.StrLawsRepr
import PyProof.TwoTypes
import PyProof.FactsAll.bool
import PyProof.FactsAll.int
import OpenK.KMeth
import KE.KEqNest
import HandS.DictComp
import HandS.Walk
import HandS.Wide
import HandS.Property
import PySem.Challenge.RW_mapsizes_k06_settings_told
import HandS.More
import HandS.Dict
import HandS.StrMore
import HandS.ListItems
import HandS.ForDict
import HandS.Style
import HandS.ExcIs
set_option Elab.async false
set_option linter.all false
set_option maxRecDepth 100000
set_option maxHeartbeats 4000000
/-! calls under which no container is being shown: the promises of defs that show lists -/
namespace Mz
open PySem PySem.Spec PyProof.Rows L2
section
variable {P : Program} {w : World} {K : PySem.W.Frag} {mg : Str → Option Value} {base : Heap} {CX : CXT} {k : Nat} {f : Addr} {fd : FuncData} {ps : List Str} {sp : Sp}
theorem quiet_deeper {A : Around} {env : Env} (h : A.guards = some []) : (A.deeper env).guards = some [] := h
theorem quiet_make {A : Around} {c : Addr} {us : List Value} {kw : List (Str × Value)} (h : A.guards = some []) : (A.under (.builtin "type.__call__" ⟨.ref c :: us, kw⟩)).guards = some [] := by
  have e : (Code.builtin "type.__call__" ⟨.ref c :: us, kw⟩).guards = [] := by
    have e2 : (Code.builtin "type.__call__" ⟨.ref c :: us, kw⟩).isGuard = false := by
      show guardIds.contains "type.__call__" = false
      decide +kernel
    unfold Code.guards
    rw [e2]
    rfl
  show pushGuards (Code.builtin "type.__call__" ⟨.ref c :: us, kw⟩).guards A.guards = some []
  rw [e, h]
  rfl
/-- a def's promise where nothing is being shown around it -/
structure FnG (P : Program) (w : World) (K : PySem.W.Frag) (mg : Str → Option Value) (base : Heap) (CX : CXT) (k : Nat) (f : Addr) (fd : FuncData) (ps : List Str) (sp : Sp) : Prop where
  lenG : ∀ vs H Q E, sp vs H Q E → vs.length = ps.length
  runG : ∀ (A : Around) (outer : List Env) (s : Shared) (H : Hp) (args : Args) (us : List Value) (vs : List V) (Q : VK) (E : XK),
    A.guards = some [] → Room k A → Env0 P w K mg base A outer s H → BindsTo s fd args (ps.zip us) → Vals vs us → sp vs H Q E →
    codeAny (model P w) A (.call (.ref f) args) (CR CX outer P w H s Q E) s
theorem FnG.of (F : FnOk P w K mg base CX k f fd ps sp) : FnG P w K mg base CX k f fd ps sp :=
  ⟨F.len, fun A outer s H args us vs Q E _ => F.run A outer s H args us vs Q E⟩
theorem FnG.mono {j : Nat} (F : FnG P w K mg base CX j f fd ps sp) (h : j ≤ k) : FnG P w K mg base CX k f fd ps sp :=
  ⟨F.lenG, fun A outer s H args us vs Q E g r => F.runG A outer s H args us vs Q E g (r.mono h)⟩
/-- the def by its body, told that nothing is being shown -/
theorem fnG_of {name qual : Str} {params : Arguments} {body : List Stmt} {scope : Scope} {dV kV doc pm cdv ct oc : Value} {an od : Option Addr} {osl : Array (Option Value)} {N : List Str}
    (lk : K.lookup f = some ⟨oc, od, .func (PySem.W.fnOf name qual params body scope dV kV doc pm an cdv ct), osl⟩) (hcd : PySem.W.codeIn K cdv qual = true) (S : FnScope N ps scope)
    (len : ∀ vs H Q E, sp vs H Q E → vs.length = ps.length)
    (hb : ∀ (A : Around) (outer : List Env) (s : Shared) (H : Hp) (vs : List V) (Q : VK) (E : XK), A.guards = some [] → Room k (A.deeper (envOfC qual scope s.heap.objs.size f cdv)) → sp vs H Q E →
      ∃ t, PSs (cxOf CX P w K mg base N qual scope f cdv A outer s H E) body t ∧ t { nx := fun _ H' => Q .non H', rt := Q } (start N vs) H) :
    FnG P w K mg base CX (k + 1) f (PySem.W.fnOf name qual params body scope dV kV doc pm an cdv ct) ps sp := by
  refine ⟨len, fun A outer s H args us vs Q E hg hr e0 hbi r hsp => ?_⟩
  -- the promise of the same def at this very place alone: whoever runs it stands at A
  have spA : ∀ (A2 : Around), A2 = A → A2.guards = some [] := fun A2 e => by
    rw [e]
    exact hg
  have lenv := len _ _ _ _ hsp
  have KX : K.In s.heap := e0.mod.kin.keeps fun b o e => (e0.bs b o e).1
  have lim : s.heap.NoLimit := e0.mod.nolimit.keeps fun b o e => (e0.bs b o e).1
  have kinds : ∀ y ∈ ps.zip us, scope.names.lookup y.1 = some .local ∨ (scope.names.lookup y.1 = some .cell ∧ ((cellsFrom (s.heap.objs.size + 1) scope.names []).lookup y.1).isSome = true) := by
    intro y hy
    obtain ⟨n, v⟩ := y
    rcases S.par n (List.of_mem_zip hy).1 with q | q
    · exact .inl q
    · exact .inr ⟨q, PySem.W.cellsFrom_some _ _ _ (.inl q)⟩
  refine codeAny_call_function hr.depth (KX _ _ lk) rfl S.co S.gen rfl (PySem.W.codeRec_of KX hcd) (hbi _ _ _ _ ?_)
  refine wpAny_newFunctionEnv_cells S.kind kinds fun env he s1 x => ?_
  subst he
  refine ⟨lim.keeps x.toInCall.keep, codeAny_func ?_⟩
  obtain ⟨t, ht, hq⟩ := hb A outer s H vs Q E hg (hr.deeper _) hsp
  have I : Inv (cxOf CX P w K mg base N qual scope f cdv A outer s H E) [] (start N vs) H s1 := inv_start S hr.hd e0 lenv r x
  refine wpAny_mono (ht.run [] s1 (start N vs) H _ I hq) (fun fl s' hs => ?_) fun e s' hs => hs
  cases fl with
  | ret u =>
    obtain ⟨v, σ', H', J, rv, q⟩ := hs
    exact ⟨v, H', J.os, J.bare, J.base, J.hok, rv, q⟩
  | next =>
    obtain ⟨σ', H', J, q⟩ := hs
    exact ⟨V.non, H', J.os, J.bare, J.base, J.hok, rfl, q⟩
  | brk =>
    obtain ⟨_, _, _, q⟩ := hs
    exact q.elim
  | cont =>
    obtain ⟨_, _, _, q⟩ := hs
    exact q.elim
end
section
variable {P : Program} {w : World} {K : PySem.W.Frag} {mg : Str → Option Value} {base : Heap}
theorem fun_okG {x qual : Str} {st : Stmt} {f : Addr} {fd : FuncData} {N ps : List Str} {k : Nat} {sp : Sp} (F : Fun K x qual st f fd) (S : FnScope N ps (defScope st)) (len : ∀ vs H Q E, sp vs H Q E → vs.length = ps.length)
    (hb : ∀ (cdv : Value) (A : Around) (outer : List Env) (s : Shared) (H : Hp) (vs : List V) (Q : VK) (E : XK), A.guards = some [] → Room k (A.deeper (envOfC qual (defScope st) s.heap.objs.size f cdv)) → sp vs H Q E →
      ∃ t, PSs (cxOf CX0 P w K mg base N qual (defScope st) f cdv A outer s H E).nox (defBody st) t ∧ t { nx := fun _ H' => Q .non H', rt := Q } (start N vs) H) : FnG P w K mg base CX0 (k + 1) f fd ps sp := by
  obtain ⟨oc, od, kV, doc, pm, an, cdv, ct, osl, rfl, lk, hcd⟩ := F.ex
  refine fnG_of lk hcd S len fun A outer s H vs Q E hg hr hsp => ?_
  obtain ⟨t, h, q⟩ := hb cdv A outer s H vs Q E hg hr hsp
  exact ⟨t, h.nox, q⟩
end
section
variable {X : Cx} {CX : CXT} {k : Nat} {f : Addr} {fd : FuncData} {ps : List Str} {sp : Sp} {dvs : List V} {ds : List Value} {E : XK} {x : Str} {p pos : Pos} {e : Expr} {es : List Expr} {t : TA}
/-- a call of such a def -/
theorem pe_callG (F : FnG X.prog X.w X.K X.mg X.base CX k f fd ps sp) (g0 : X.A.guards = some []) (hr : Room k X.A) (hg : Gl X x) (hm : X.mg x = some (.ref f)) (hk : PySem.W.keepIn X.K (.ref f) = true) (hb : Binds X.K fd ps ds) (hd : Vals dvs ds) (hx : Passes CX X E)
    (ha : PA X (e :: es) t) (hdb : (x == ("__debug__" : Str)) = false := by decide) (he : starEach (e :: es) X.env = (false, eval e X.env) :: starEach es X.env := by rfl) (hpl : (backTo pos (starEach es X.env)).any (·.1) = false := by rfl) :
    PE X (.Call (.Name x p) (e :: es) [] pos) (tCall sp dvs E t) := by
  refine ⟨fun pins s σ H Q I h => wpAny_Call_Name_kw (ld_glob I hg hm ?_ hdb)⟩
  refine PySem.W.callWith_K (h₀ := X.base) I.ok.mod.kin hk (thn (ha.run pos pins s σ H _ I h) fun us s1 hv => ?_) he hpl
  obtain ⟨vs, H1, I1, r, q⟩ := hv
  refine ⟨I1.kIn, ?_⟩
  have r2 : Vals (vs ++ dvs) (us ++ ds) := r.append hd
  have hl : (us ++ ds).length = ps.length := r2.length.symm.trans (F.lenG _ _ _ _ q)
  refine wpAny_call (codeAny_mono (F.runG X.A X.stack s1 H1 ⟨us, []⟩ (us ++ ds) (vs ++ dvs) Q E g0 hr I1.env0 (hb s1 us I1.kIn hl) r2 q) fun r s' hq => ?_)
  cases r with
  | error e => exact hx pins σ H1 s1 e s' I1 hq
  | ok fl =>
    cases fl with
    | ret u => exact I1.after hq
    | next => exact hq.elim
    | brk => exact hq.elim
    | cont => exact hq.elim
end
/-! ### repr of data -/
section
variable {X : Cx}
/-- repr(x), x a bool, None, an int of some size, a text, a list or a tuple of these -/
def rReprD (K : PySem.W.Frag) : List V → Hp → VK → Prop := fun xs H Q => ∃ x d, xs = [x] ∧ Dp K H x d ∧ PyData.showable d = true ∧ PyData.hasDict d = false ∧ PyData.depth d < 60 ∧ (PyData.shown d).length ≤ sizeLine ∧ Q (.str (PyData.shown d)) H
theorem call_reprD (g0 : X.A.guards = some []) (hu : X.A.units + 64 < cLine) : CallR X (.builtin "repr") (rReprD X.K) := by
  intro pins s σ H xs us Q I r h
  obtain ⟨x, d, rfl, hd, hs, hno, hdp, hz, q⟩ := h
  obtain ⟨u, rfl, rx⟩ := vals1 r
  have ends : ∀ h' t tk, (∀ b o, s.heap.get? b = some o → h'.get? b = some o) → EP X pins σ Q (.str (PyData.shown d) t) { s with heap := h', toks := tk } :=
    fun h' t tk hk => ⟨.str _, H, I.kept hk, ⟨_, rfl⟩, q⟩
  have keep : ∀ b o, s.heap.get? b = some o → s.heap.get? b = some o := fun _ _ z => z
  obtain ⟨as, rd⟩ := Dp.reads I d x u hd rx
  cases hd with
  | non =>
    cases rx
    exact PySem.P.repr_of_none (by simpa only [PyData.shown] using ends s.heap _ _ keep)
  | bl b =>
    cases rx
    exact PySem.P.repr_of_bool (by simpa only [PyData.shown] using ends s.heap _ _ keep)
  | int i =>
    obtain ⟨t, rfl⟩ := rx
    have hs' : i.natAbs.log2 < 1920 := by simpa [PyData.showable] using hs
    exact PySem.P.repr_of_int hs' (by simpa only [PyData.shown] using ends s.heap _ _ keep)
  | str z =>
    obtain ⟨t, rfl⟩ := rx
    exact PySem.P.repr_of_str (by simpa only [PyData.shown] using ends s.heap _ _ keep) (by simpa only [PyData.shown] using hz)
  | lst h1 h2 =>
    cases rx
    exact repr_of_reads' rd hs (fun z => by rw [hno] at z; cases z) g0 (by omega) keep (fun h' t tk hk => ends h' t tk hk) hz
  | tup h1 h2 =>
    cases rx
    exact repr_of_reads' rd hs (fun z => by rw [hno] at z; cases z) g0 (by omega) keep (fun h' t tk hk => ends h' t tk hk) hz
end
end Mz
set_option Elab.async false
set_option linter.all false
set_option maxRecDepth 100000
set_option maxHeartbeats 4000000
/-! the end of a row for a law whose promise wants that nothing is being shown -/
namespace Mz
open PySem PySem.Spec PyProof.Rows L2
theorem law_callG {P : Program} {w : World} {K : PySem.W.Frag} {mg mb : Str → Option Value} {CX : CXT} {k : Nat} {fa a : Addr} {fd : FuncData} {x : Str} {sp : Sp} {s1 : Shared} {vs : List Value} {ns : List Int}
    (KX : K.In s1.heap) (hns : s1.heap.Ns mainGlobals mg) (hb : s1.heap.Ns builtinsNs mb) (hbb : ∀ x : Str, x ≠ "__name__" → mb x = bootBuiltins x) (hlim : s1.heap.NoLimit) (hgen : s1.gens = #[])
    (ha : s1.heap.get? a = some { cls := .type "list", data := .seq vs.toArray }) (hi : IntsAre vs ns) (hl : ns.length ≤ sizeLine) (hr : Room k callerA)
    (F : ∀ base : Heap, K.In base → base.Ns mainGlobals mg → FnG P w K mg base CX k fa fd [x] sp) (hbind : ∀ (s : Shared) (u : Value), BindsTo s fd ⟨[u], []⟩ [(x, u)])
    (hsp : ∀ H : Hp, Only H → SqL K H a (ns.map V.int) → sp [.ref a] H (fun v _ => v = .bl true) fun _ _ _ => False)
    (hCX : ∀ H e s', CX [] H s1 (fun _ _ _ => False) e s' → False) :
    codeAny (model P w) callerA (.call (.ref fa) ⟨[.ref a], []⟩) (fun r s' => r = .ok (.ret (.bool true)) ∧ OldK s1.heap s'.heap ∧ s'.os = s1.os ∧ AllBare s'.gens) s1 := by
  have rv := vals_ints hi
  have lenV := hi.length
  have way : ∀ H : Hp, Only H → SqL K H a (ns.map V.int) → HOk P w H s1.heap → (∀ b u, H b = some u → b = a) → (∀ u, H a = some u → K.lookup a = none) →
      codeAny (model P w) callerA (.call (.ref fa) ⟨[.ref a], []⟩) (fun r s' => r = .ok (.ret (.bool true)) ∧ OldK s1.heap s'.heap ∧ s'.os = s1.os ∧ AllBare s'.gens) s1 := by
    intro H hO hS hok hA hK
    have untr : ∀ {b : Addr} {o : Obj} {es : Array DictEntry} {ep : Nat}, s1.heap.get? b = some o → o.data = .dict es ep → H b = none := by
      intro b o es ep e d
      rcases q : H b with _ | u
      · rfl
      · obtain rfl := hA b u q
        rw [ha] at e
        cases e
        exact nomatch (show Data.seq vs.toArray _ = Data.dict es ep from d)
    have nsK : ∀ {b : Addr} {m : Str → Option Value}, s1.heap.Ns b m → (hidT s1.heap H).Ns b m := by
      rintro b m ⟨o, es, ep, e, d, r⟩
      exact ⟨o, es, ep, hidT_get e (untr e d), d, r⟩
    have hKb : K.In (hidT s1.heap H) := by
      intro b o e
      refine hidT_get (KX b o e) ?_
      rcases q : H b with _ | u
      · rfl
      · obtain rfl := hA b u q
        have z := hK u q
        rw [z] at e
        cases e
    have hM : Mod K mg (hidT s1.heap H) := by
      obtain ⟨mc, h1, h2⟩ := hlim
      exact ⟨hKb, nsK hns, ⟨mb, nsK hb, hbb⟩, ⟨mc, nsK h1, h2⟩⟩
    have e0 : Env0 P w K mg (hidT s1.heap H) callerA [] s1 H :=
      ⟨rfl, hM, fun b o e => of_hidT e, Nat.le_of_eq (hidT_size _ _), trivial, fun b z => (nomatch (show b ∈ ([] : List Addr) from z)), hok, .of_eq hgen⟩
    have run := (F _ hKb (nsK hns)).runG callerA [] s1 H ⟨[.ref a], []⟩ [.ref a] [.ref a] _ _ rfl hr e0 (hbind s1 (.ref a)) (.cons rfl .nil) (hsp H hO hS)
    refine codeAny_mono run fun r s' h => ?_
    match r, h with
    | .error e, h => exact (hCX H e s' h).elim
    | .ok .next, h => exact h.elim
    | .ok .brk, h => exact h.elim
    | .ok .cont, h => exact h.elim
    | .ok (.ret u), h =>
      obtain ⟨v, H', os, bare, un, hok2, r2, q⟩ := h
      obtain rfl : v = .bl true := q
      obtain rfl : u = Value.bool true := r2
      refine ⟨rfl, OldK.of_keep fun b o e => ?_, os, bare⟩
      rcases q : H b with _ | u
      · exact un.keep b o e q (fun z => (nomatch (show b ∈ ([] : List Addr) from z))) (by simp)
      · rcases hO b with z | ⟨ob, xs, z⟩
        · rw [q] at z
          cases z
        · have z2 := un.frzs b ob _ z
          obtain ⟨e1, _⟩ := hok b _ z
          obtain ⟨e2, _⟩ := hok2 b _ z2
          rw [e] at e1
          cases e1
          exact e2
  rcases hk : K.lookup a with _ | o
  · have at_a : ∀ {b : Addr} {u : HO}, (if b = a then some (HO.frz { cls := .type "list", data := .seq vs.toArray } (.lst (ns.map V.int))) else none) = some u → b = a ∧ u = .frz { cls := .type "list", data := .seq vs.toArray } (.lst (ns.map V.int)) := by
      intro b u z
      by_cases hba : b = a
      · rw [if_pos hba] at z
        exact ⟨hba, (Option.some.inj z).symm⟩
      · rw [if_neg hba] at z
        cases z
    refine way (fun b => if b = a then some (.frz { cls := .type "list", data := .seq vs.toArray } (.lst (ns.map V.int))) else none) (fun b => ?_) (.inl (.inr ⟨{ cls := .type "list", data := .seq vs.toArray }, if_pos rfl⟩)) (fun b u z => ?_) (fun b u z => (at_a z).1) fun u _ => hk
    · by_cases hba : b = a
      · exact .inr ⟨_, _, if_pos hba⟩
      · exact .inl (if_neg hba)
    · obtain ⟨rfl, rfl⟩ := at_a z
      exact ⟨ha, by rw [List.length_map]; exact hl, vs, _, rv, ha⟩
  · have e := KX a o hk
    rw [ha] at e
    cases e
    refine way (fun _ => none) (fun _ => .inl rfl) (.inr ⟨_, vs.toArray, _, hk, rfl, rfl, rfl, by rw [List.size_toArray, lenV]; exact hl, by simpa using rv⟩) (fun b u z => ?_) (fun b u z => ?_) fun u z => ?_
    · exact nomatch (show (none : Option HO) = some u from z)
    · exact nomatch (show (none : Option HO) = some u from z)
    · exact nomatch (show (none : Option HO) = some u from z)
theorem walk_G {l : PySem.W.OpenLaw} {n k : Nat} {q : Program} {loose : List Str} {XP : (Str → Option Value) → Heap → Prop} {YP : World → Heap → Prop} {d : DefRec} {K : Params → PySem.W.Frag} {CX : World → CXT} {sp : World → Sp} {x : Str}
    (hn : l.most = some n) (hn2 : n ≤ sizeLine) (hdf : d.params.defaults = []) (hr : Room k callerA)
    (hY : ∀ (w : World) (h : Heap), YP w h → (K w.params).In h)
    (F : ∀ (w : World) (mg : Str → Option Value) (fa : Addr) (h : Heap), (K w.params).In h → h.Ns mainGlobals mg → mg d.name = some (.ref fa) →
      ∃ fd : FuncData, (∀ (s : Shared) (u : Value), BindsTo s fd ⟨[u], []⟩ [(x, u)]) ∧ ∀ base : Heap, (K w.params).In base → base.Ns mainGlobals mg → FnG l.prog w (K w.params) mg base (CX w) k fa fd [x] (sp w))
    (hsp : ∀ (w : World) (H : Hp) (a : Addr) (ns : List Int), ns.length ≤ n → (∀ z ∈ ns, Builtin.Int.intBits z ≤ 1048576) → Only H → SqL (K w.params) H a (ns.map V.int) → sp w [.ref a] H (fun v _ => v = .bl true) fun _ _ _ => False)
    (hCX : ∀ (w : World) (H : Hp) (s : Shared) (e : Value) (s' : Shared), CX w [] H s (fun _ _ _ => False) e s' → False) :
    PySem.W.WalkO q loose XP YP l.row.toRowW d [] (fun f vs => PySem.call f vs) := by
  refine Att.attach_callB hn hdf fun w s0 s1 mg mb fa o pm cd doc a vs ns G Y ho hd hcd hmg hobj hints hlen hbits hgen => ?_
  obtain ⟨fd, hb, hF⟩ := F w mg fa _ (hY w _ Y) G.T.g hmg
  exact law_callG (hY w _ Y) G.T.g G.T.b G.T.builtins G.T.nolimit hgen hobj hints (Nat.le_trans hlen hn2) hr hF hb (fun H hO hS => hsp w H a ns hlen hbits hO hS) fun H e s' => hCX w H s1 e s'
end Mz
set_option Elab.async false
set_option linter.all false
set_option maxRecDepth 100000
set_option maxHeartbeats 4000000
/-! try with several clauses «except X as n», the exception met by one of them; what else stands behind these clauses is never looked at -/
namespace Mz
open PySem PySem.Spec PyProof.Rows L2
/-- a clause: the class, the slot of its name, its suite -/
abbrev Cl := Value × Nat × (Addr → Value → Option Addr → TS)
def endsAs (i : Nat) (D : Ends) : Ends := { nx := fun t G => D.nx (t.set i none) G, rt := D.rt, bk := fun t G => D.bk (t.set i none) G, ct := fun t G => D.ct (t.set i none) G }
def wNam (K : PySem.W.Frag) (D : Ends) : List Cl → WX
  | [] => fun _ _ _ _ => False
  | (c, i, ts) :: r => fun cls d t G => ∃ b, PySem.W.exmOne K cls c = some b ∧ (b = true → ∀ a, G a = none → ts a cls d (endsAs i D) (t.set i (some (.ref a))) G) ∧ (b = false → wNam K D r cls d t G)
inductive Cls_ (X : Cx) : List ExceptHandler → List Cl → Prop
  | any (l : List ExceptHandler) : Cls_ X l []
  | one {x n : Str} {c : Value} {i : Nat} {ts : Addr → Value → Option Addr → TS} {st : Stmt} {suite : List Stmt} {p1 p2 : Pos} {hs : List ExceptHandler} {l : List Cl} (hi : X.N[i]? = some n) (hl : X.env.kindOf n = some .local) (hc : Names X x c)
      (hsu : ∀ (a : Addr) (oe : Obj) (cls : Value) (d : Option Addr) (pn : List (Addr × Obj)), Zc cls d oe → (∃ vs, oe.data = .fields vs) → PSs (X.suite a ((a, oe) :: pn)) (st :: suite) (ts a cls d)) (r : Cls_ X hs l) :
      Cls_ X (.ExceptHandler (some (.Name x p1)) (some n) (st :: suite) p2 :: hs) ((c, i, ts) :: l)
section
variable {X : Cx} {body : List Stmt} {hd0 : ExceptHandler} {hds : List ExceptHandler} {tb : WX → TS} {l : List Cl} {pos : Pos}
theorem ps_try_named (hst : X.stack = X.env :: X.outer) (hfr : X.env.frame = some X.env.locals) (hN : X.N.Nodup)
    (hb : ∀ (W : WX) (pn : List (Addr × Obj)) (xe : Value → Shared → Prop), Takes (X.tr pn xe) W → PassesOwn (model X.prog X.w) X.A X.env xe → PSs (X.tr pn xe) body (tb W))
    (hh : Cls_ X (hd0 :: hds) l) : PS X (.Try body (hd0 :: hds) [] [] pos) (fun D σ H => tb (wNam X.K D l) D σ H) := by
  refine ⟨fun pins s σ H D I h => ?_⟩
  have ok := I.ok
  have frames : X.A.frames = some (X.env :: X.outer) := ok.frames.trans (congrArg some hst)
  refine wpAny_Try_except (wpAny_mono ((hb (wNam X.K D l) (X.pn ++ pins) (fun e q1 => wpAny (model X.prog X.w) X.A (noteFrame e X.env) (fun _ q2 => wpAny (model X.prog X.w) X.A (setFlight e none) (fun _ q3 =>
    wpAny (model X.prog X.w) X.A (handleBy e X.env (hd0 :: hds)) (SP X pins D) X.xe q3) X.xe q2) X.xe q1) (fun u s' xx => ?_) PassesOwn.looking).run [] s σ H D (I.toTry _) h) (fun f q1 hsp => ?_) fun e q1 he => he)
  · obtain ⟨a, B, sI, pins2, t, G, cls, d, rfl, JT, nb, up, sky, na, os, ag, wish⟩ := xx
    have J : Inv X pins t G sI := JT.ofTry ok
    have sky2 : Sky B (X.env :: X.outer) a (Zc cls d) X.env.locals s'.heap := hst ▸ sky
    show wpAny (model X.prog X.w) X.A (noteFrame (.ref a) X.env) _ _ _
    refine Sky.land Zc.steady frames hfr sky2 fun g3 fl3 up3 => ?_
    have J3 : Inv X pins t G { s' with heap := g3 } := J.landed nb fl3.1 (up.trans up3) os ag
    obtain ⟨oe3, vs3, he3, hz3, hd3⟩ := fl3.there
    have off : a ∉ frs (X.env :: X.outer) := by
      intro hm
      obtain ⟨_, o2, e2, hnf⟩ := fl3.2.2.1.mem hm
      rw [he3] at e2
      cases e2
      exact hnf _ hd3
    have nL : a ≠ X.env.locals := fun z => off (List.mem_filterMap.mpr ⟨X.env, List.mem_cons_self, by rw [hfr, z]⟩)
    have nF : a ∉ X.fs := by
      intro hm
      obtain ⟨e, he, q⟩ := List.mem_filterMap.mp hm
      exact off (List.mem_filterMap.mpr ⟨e, List.mem_cons_of_mem _ he, q⟩)
    have S3 := J3.suite he3 hd3 na nL nF
    have go : ∀ {k : List ExceptHandler} {m : List Cl}, Cls_ X k m → wNam X.K D m cls d t G → wpAny (model X.prog X.w) X.A (handleBy (.ref a) X.env k) (SP X pins D) X.xe { s' with heap := g3 } := by
      intro k m hk
      induction hk with
      | any k => exact fun z => z.elim
      | @one x n c i ts st suite p1 p2 k2 m2 hi hl hc hsu r ih =>
        rintro ⟨b, hb1, hyes, hno⟩
        have locn : Loc X.env.scope n := .inl hl
        refine wpAny_handleBy_cons (codeAny_handlers_test ?_) (by intro q; cases q)
        have typ : PySem.W.Looks (model X.prog X.w) g3 (typeOf (.ref a)) cls := fun A Q E s k q => wpAny_typeOf_ref (k _ _ he3) (by rw [hz3.1]; exact q)
        have met := PySem.W.exm_one (M := model X.prog X.w) (J3.kIn) typ hb1
        have load : ∀ {Q : Value → Shared → Prop} {E : Value → Shared → Prop}, Q c { s' with heap := g3 } → wpAny (model X.prog X.w) (X.A.mark (some (.ref a))) (eval (.Name x p1) X.env) Q E { s' with heap := g3 } := by
          intro Q E q
          obtain ⟨h1, h2, h3 | ⟨h3, h4, h5⟩⟩ := hc
          · exact ld_glob (X := X.suite a ((a, oe3) :: (X.pn ++ pins))) S3 h1 h3 q h2
          · exact ld_blt (X := X.suite a ((a, oe3) :: (X.pn ++ pins))) S3 h1 h3 h4 q h5 h2
        refine load (met.here ?_)
        cases b with
        | false => exact ih (hno rfl)
        | true =>
          refine codeAny_handlers_suite_as (HandSPX.lands_againZ fl3 fun g4 fl4 up4 => ?_)
          have J4 : Inv X pins t G { s' with heap := g4 } := J.landed nb fl4.1 ((up.trans up3).trans up4) os ag
          obtain ⟨oe4, vs4, he4, hz4, hd4⟩ := fl4.there
          have S4 := J4.suite he4 hd4 na nL nF
          refine store_ok (X := X.suite a ((a, oe4) :: (X.pn ++ pins))) (v := .ref a) S4 hN hi locn rfl (fun q5 S5 => ?_) (.inr hl)
          refine wpAny_mono ((hsu a oe4 cls d (X.pn ++ pins) hz4 ⟨_, hd4⟩).run [] q5 _ G _ S5 (hyes rfl a na)) (fun f q6 hsp => ?_) (fun _ _ z => z.elim)
          have fin : ∀ {t6 : L2.St} {G6 : Hp} {Q : Shared → Prop}, Inv (X.suite a ((a, oe4) :: (X.pn ++ pins))) [] t6 G6 q6 → (∀ q7, Inv X pins (t6.set i none) G6 q7 → Q q7) →
              wpAny (model X.prog X.w) X.A (do bindName X.env n .none; unbindBehindTheSuite X.env n p2) (fun _ q7 => Q q7) X.xe q6 := fun S6 hq => gone_ok (S6.unsuite ok) hN hi hl hq
          match f, hsp with
          | .next, ⟨t6, G6, S6, q6⟩ => exact fin S6 fun _ J7 => ⟨_, _, J7, q6⟩
          | .brk, ⟨t6, G6, S6, q6⟩ => exact fin S6 fun _ J7 => ⟨_, _, J7, q6⟩
          | .cont, ⟨t6, G6, S6, q6⟩ => exact fin S6 fun _ J7 => ⟨_, _, J7, q6⟩
          | .ret u, ⟨v6, t6, G6, S6, r6, q6⟩ => exact fin S6 fun _ J7 => ⟨_, _, _, J7, r6, q6⟩
    first
      | exact go hh wish
      | exact HandSPX.setFlight_upZ fl3 fun h4 hh4 up4 => go hh wish
  · match f, hsp with
    | .next, ⟨t, G, J, q⟩ => exact wpAny_execs_nil ⟨t, G, J.ofTry ok, q⟩
    | .brk, ⟨t, G, J, q⟩ => exact ⟨t, G, J.ofTry ok, q⟩
    | .cont, ⟨t, G, J, q⟩ => exact ⟨t, G, J.ofTry ok, q⟩
    | .ret u, ⟨v, t, G, J, r, q⟩ => exact ⟨v, t, G, J.ofTry ok, r, q⟩
end
end Mz
set_option Elab.async false
set_option linter.all false
set_option maxRecDepth 100000
set_option maxHeartbeats 4000000
/-! own exceptions whose __init__ calls the __init__ of an own base by its name -/
namespace Mz
open PySem PySem.Spec PyProof.Rows L2
section
variable {X : Cx} {o e : Expr} {es : List Expr} {ta : TA} {x : Str} {cM : Addr} {p1 p2 pos : Pos}
/-- MapError.__init__(self, ..): what stands there is the built-in one -/
theorem pe_meinit {pl : Sem Bool} (hg : Gl X x) (hm : X.mg x = some (.ref cM)) (rd : ClX.CRead X.K cM (.type "type")) (fc : PySem.W.findCls X.K (.ref cM) (.type "type") "__init__" = some (.val (.builtin "ValueError.__init__"))) (ha : PA X (e :: es) ta)
    (hc : eval (.Call (.Attribute (.Name x p1) "__init__" p2) (e :: es) [] pos) X.env = (do
      let ov ← eval (.Name x p1) X.env
      standAt p2.atName
      let (f, first) ← holding [ov] (getMethod ov "__init__" pl)
      callWith pos f first (backTo pos (starEach (e :: es) X.env)) (backToKw pos (keywordEach [] X.env))) := by rfl)
    (hdb : (x == ("__debug__" : Str)) = false := by decide) (he : starEach (e :: es) X.env = (false, eval e X.env) :: starEach es X.env := by rfl) (hpl : (backTo pos (starEach es X.env)).any (·.1) = false := by rfl) :
    PE X (.Call (.Attribute (.Name x p1) "__init__" p2) (e :: es) [] pos) (tVeI X.K ta) := by
  refine ⟨fun pins s σ H Q I h => PySem.W.methodCall_KW (ld_glob I hg hm ?_ hdb) hc⟩
  refine PySem.W.method_cls I.kIn rd.ga (PySem.W.cls_value I.kIn rd.rd fc (by decide +kernel) ?_)
  show wpAny _ _ (callWith pos (Value.builtin "ValueError.__init__") [] (backTo pos (starEach (e :: es) X.env)) []) _ _ _
  refine PyProof.Rows.callWith_method1 (thn (ha.run pos pins _ σ H _ (I.tok _) h) fun us s1 hv => ?_) he hpl
  obtain ⟨vs, H1, I1, r1, a, C, ws, rfl, hl, T, ea, q⟩ := hv
  cases r1 with
  | @cons _ u0 _ ur ra rw2 =>
    obtain rfl : u0 = Value.ref a := ra
    have short : ur.length ≤ sizeLine := by
      have e2 := Paired.length rw2
      have e3 := sizeLine_eq
      omega
    exact oinit_ok T I1 ea short fun s2 J => ⟨.non, H1, J, rfl, q⟩
end
/-- an exception of one field that is being made: it is at a, no dict as yet; behind __init__ its dict holds the field -/
def spX1 (K : PySem.W.Frag) (C : Addr) (f : Str) : Sp := fun vs H Q _ => ∃ (a : Addr) (v : V), vs = [.ref a, v] ∧ H a = some (exo a C none) ∧
  ∀ dx, H dx = none → dx ≠ a → Q .non (upd (upd H dx (exd dx [(f, v)])) a (exo a C (some dx)))
end Mz
set_option Elab.async false
set_option linter.all false
set_option maxRecDepth 100000
set_option maxHeartbeats 4000000
/-! what an own class says of str, ==, !=, + -/
namespace Mz
open PySem PySem.Spec PyProof.Rows L2
section
variable {X : Cx} {CX : CXT} {k : Nat} {f C : Addr} {fd : FuncData} {ps : List Str} {sp : Sp} {E : XK}
/-- a def of the text called at another place of the same run -/
theorem run_at {pins : List (Addr × Obj)} {σ : L2.St} {H : Hp} {s : Shared} {A : Around} {Q : VK} {us : List Value} {vs : List V} {E2 : Value → Shared → Prop} (F : FnOk X.prog X.w X.K X.mg X.base CX k f fd ps sp) (hr : Room k A) (e0 : Env0 X.prog X.w X.K X.mg X.base A X.stack s H)
    (hb : Binds X.K fd ps []) (hx : ∀ e s2, CX X.stack H s E e s2 → E2 e s2) (I : Inv X pins σ H s) (r : Vals vs us) (h : sp vs H Q E) : wpAny (model X.prog X.w) A (call (.ref f) us) (EP X pins σ Q) E2 s := by
  have hl : (us ++ []).length = ps.length := by
    rw [List.append_nil]
    exact r.length.symm.trans (F.len _ _ _ _ h)
  have hbi := hb s us I.kIn hl
  rw [List.append_nil] at hbi
  refine wpAny_call (codeAny_mono (F.run A X.stack s H ⟨us, []⟩ us vs Q E hr e0 hbi r h) fun r s2 hq => ?_)
  match r, hq with
  | .error e, hq => exact hx e s2 hq
  | .ok (.ret u), hq => exact I.after hq
  | .ok .next, hq => exact hq.elim
  | .ok .brk, hq => exact hq.elim
  | .ok .cont, hq => exact hq.elim
/-- str(x) by the own __str__ -/
theorem call_strO (F : FnOk X.prog X.w X.K X.mg X.base CX0 k f fd ps sp) (hr : Room (k + 2) X.A) (hb : Binds X.K fd ps []) (hs : PySem.W.findIn X.K (.ref C) "__str__" = some (some (.ref f))) (hf : PySem.W.isFn X.K (.ref f) = true) :
    CallR X (.type "str") (fun xs H Q => ∃ a dx fs, xs = [.ref a] ∧ H a = some (.ins C dx fs) ∧ sp [.ref a] H (fun v H2 => ∃ z : Str, v = .str z ∧ Q (.str z) H2) E0) := by
  intro pins s σ H xs us Q I r h
  obtain ⟨a, dx, fs, rfl, ha, q⟩ := h
  obtain ⟨u, rfl, rx⟩ := vals1 r
  obtain rfl : u = Value.ref a := rx
  obtain ⟨mA, O, _⟩ := ins_get I.hok ha
  obtain ⟨od, J, _⟩ := O.look
  refine PySem.W.kso_call hr.in1.in1.units0 I.kIn J hs hf (wpAny_mono (run_at (E := E0) (vs := [.ref a]) (us := [.ref a]) F hr.in1.in1 I.env0.in1.in1 hb (fun _ _ z => z.elim) I (.cons rfl .nil) q) (fun u s2 hv => ?_) fun _ _ z => z)
  obtain ⟨v, H2, I2, rv, z, rfl, q2⟩ := hv
  obtain ⟨t, rfl⟩ := rv
  exact ⟨.str z, H2, I2, ⟨t, rfl⟩, q2⟩
/-- what stands on the other side of == : its type, no class below C -/
def Oth (K : PySem.W.Frag) (C : Addr) (H : Hp) (y : V) : Prop := ∃ t, TyX K H y t ∧ PySem.W.notFirst K C t = true
theorem op_eqO (F : FnOk X.prog X.w X.K X.mg X.base CX0 k f fd ps sp) (hr : Room k X.A) (hb : Binds X.K fd ps []) (hs : PySem.W.findIn X.K (.ref C) "__eq__" = some (some (.ref f))) (hf : PySem.W.isFn X.K (.ref f) = true) :
    OpR X (compareOp .Eq) (fun x y H Q => ∃ a dx fs, x = .ref a ∧ H a = some (.ins C dx fs) ∧ Oth X.K C H y ∧ sp [.ref a, y] H (fun v H2 => ∃ b : Bool, v = .bl b ∧ Q (.bl b) H2) E0) := by
  intro pins s σ H x y v u Q I rx ry h
  obtain ⟨a, dx, fs, rfl, ha, ⟨t, ty, nf⟩, q⟩ := h
  obtain rfl : v = Value.ref a := rx
  obtain ⟨mA, O, _⟩ := ins_get I.hok ha
  obtain ⟨od, J, _⟩ := O.look
  obtain ⟨m, hF⟩ := I.fr
  obtain ⟨P, Z, hp, _⟩ := kit_of I ry ty
  refine PySem.W.cmp_ofEq (PySem.W.cmp_K (op := .Eq) hr.units0 hF I.ok.mod.kin J (Z.ty _ _ I.kIn hp) nf hs hf (wpAny_mono (run_at (E := E0) (vs := [.ref a, y]) (us := [.ref a, u]) F hr I.env0 hb (fun _ _ z => z.elim) I (.cons rfl (.cons ry .nil)) q) (fun u s2 hv => ?_) fun _ _ z => z))
  obtain ⟨v, H2, I2, rv, b, rfl, q2⟩ := hv
  obtain rfl : u = Value.bool b := rv
  exact ⟨.bl b, H2, I2, rfl, q2⟩
/-- object.__ne__ by the own __eq__ -/
theorem op_neO (F : FnOk X.prog X.w X.K X.mg X.base CX0 k f fd ps sp) (hr : Room (k + 1) X.A) (hb : Binds X.K fd ps []) (hs : PySem.W.findIn X.K (.ref C) "__eq__" = some (some (.ref f))) (hf : PySem.W.isFn X.K (.ref f) = true)
    (hn : PySem.W.findIn X.K (.ref C) "__ne__" = some (some (.builtin "object.__ne__"))) (hm : PySem.W.mroIn X.K C (.type "object") = some true) :
    OpR X (compareOp .NotEq) (fun x y H Q => ∃ a dx fs, x = .ref a ∧ H a = some (.ins C dx fs) ∧ Oth X.K C H y ∧ sp [.ref a, y] H (fun v H2 => ∃ b : Bool, v = .bl b ∧ Q (.bl (!b)) H2) E0) := by
  intro pins s σ H x y v u Q I rx ry h
  obtain ⟨a, dx, fs, rfl, ha, ⟨t, ty, nf⟩, q⟩ := h
  obtain rfl : v = Value.ref a := rx
  obtain ⟨mA, O, _⟩ := ins_get I.hok ha
  obtain ⟨od, J, _⟩ := O.look
  obtain ⟨m, hF⟩ := I.fr
  obtain ⟨P, Z, hp, _⟩ := kit_of I ry ty
  have back : wpAny (model X.prog X.w) X.A.in1 (call (.ref f) [.ref a, u]) (fun r s2 => ∃ b, r = .bool b ∧ EP X pins σ Q (.bool (!b)) s2) X.xe s :=
    wpAny_mono (run_at (E := E0) (vs := [.ref a, y]) (us := [.ref a, u]) F hr.in1 I.env0.in1 hb (fun _ _ z => z.elim) I (.cons rfl (.cons ry .nil)) q) (fun r s2 hv => by
      obtain ⟨v, H2, I2, rv, b, rfl, q2⟩ := hv
      obtain rfl : r = Value.bool b := rv
      exact ⟨b, rfl, .bl (!b), H2, I2, rfl, q2⟩) fun _ _ z => z
  have body : wpAny (model X.prog X.w) X.A.in1 (Builtin.«object.__ne__» ⟨[.ref a, u], []⟩) (fun fin s2 => ∃ b : Bool, fin = .done (.ret (.bool b)) ∧ EP X pins σ Q (.bool b) s2) X.xe s := by
    unfold Builtin.«object.__ne__»
    refine wpAny_bind (m := slotArgs "__ne__" 1 _) (wpAny_pure ?_)
    refine wpAny_bind (m := cRoomFor _ _) (wpAny_cRoomFor hr.in1.units0 ?_)
    refine wpAny_bind (m := callSpecialIfBound? (.ref a) "__eq__" [u]) (PySem.W.ifBound_K I.kIn J hs hf (wpAny_mono back (fun r s2 hv => ?_) fun _ _ z => z))
    obtain ⟨b, rfl, e⟩ := hv
    exact wpAny_bind (wpAny_pure (wpAny_pure ⟨!b, rfl, e⟩))
  have sub : PySem.W.Looks (model X.prog X.w) s.heap (isInstance (.ref a) (.type "object")) true := J.type.andThen (PySem.W.looks_mroIn I.kIn hm)
  have ran : wpAny (model X.prog X.w) X.A (call (.builtin "object.__ne__") [.ref a, u]) (fun r s2 => ∃ b : Bool, r = .bool b ∧ EP X pins σ Q (.bool b) s2) X.xe s := by
    refine wpAny_call (codeAny_call_builtin PySem.F.slot_object_ne.plain PySem.F.entry_object_ne (PySem.W.check_slot (i := "object.__ne__") (owner := "object") (n := "__ne__") (by decide +kernel) (by decide +kernel) sub (PySem.F.args_object_ne_2 _ _) ?_))
    refine wpAny_mono body (fun fin s2 hv => ?_) fun _ _ z => z
    obtain ⟨b, rfl, e⟩ := hv
    exact ⟨b, rfl, e⟩
  have ask : wpAny (model X.prog X.w) X.A (callSpecialIfBound? (.ref a) "__ne__" [u]) (fun r s2 => ∃ b : Bool, r = some (.bool b) ∧ EP X pins σ Q (.bool b) s2) X.xe s := by
    simp only [callSpecialIfBound?, bindSpecialIfBound?]
    refine wpAny_holding (wpAny_bind (wpAny_bind (wpAny_bind (J.type.here ((PySem.W.looks_findIn I.kIn hn).here ?_)))))
    refine wpAny_bind (wpAny_askSetting (wpAny_ite ?_))
    have fin : wpAny (model X.prog X.w) X.A (call (.builtin "object.__ne__") ([.ref a] ++ [u]) >>= fun v => pure (some v)) (fun r s2 => ∃ b : Bool, r = some (.bool b) ∧ EP X pins σ Q (.bool b) s2) X.xe s :=
      wpAny_bind (wpAny_mono ran (fun v s2 hv => by
        obtain ⟨b, rfl, e⟩ := hv
        exact wpAny_pure ⟨b, rfl, e⟩) fun _ _ z => z)
    split
    · exact wpAny_bind ((PySem.W.Looks.of_pure (PySem.F.slot_object_ne.bind _)).here (wpAny_pure (by exact fin)))
    · exact wpAny_tryCatch (wpAny_bind ((PySem.W.Looks.of_pure (PySem.F.slot_object_ne.bind _)).here (wpAny_pure (by exact fin))))
  have one : wpAny (model X.prog X.w) X.A (tryCompare (.ref a) (cmpInfo .NotEq).2.1 u) (fun r s2 => ∃ v, r = some v ∧ EP X pins σ Q v s2) X.xe s := by
    unfold tryCompare
    refine wpAny_bind (wpAny_mono ask (fun r s2 hv => ?_) fun _ _ z => z)
    obtain ⟨b, rfl, e⟩ := hv
    exact wpAny_pure ⟨_, rfl, e⟩
  refine PySem.W.cmp_ofNotEq ?_
  unfold richCompare
  simp only [oneThing_ref]
  refine wpAny_holding (wpAny_bind (wpAny_cRoomFor (Nat.lt_of_lt_of_le hr.in1.units0 (Nat.le_refl _) |> fun z => Nat.lt_of_le_of_lt (Nat.le_succ _) z) ?_))
  refine wpAny_bind (J.type.here (wpAny_bind ((Z.ty _ _ I.kIn hp).here ?_)))
  have last : wpAny (model X.prog X.w) X.A (tryCompare (.ref a) (cmpInfo .NotEq).2.1 u) (fun r s2 => ∃ v, r = some v ∧ EP X pins σ Q v s2) X.xe s := one
  split
  · rename_i qn
    have e : PySem.W.subIn X.K t (.ref C) = some false := by
      rcases Bool.or_eq_true_iff.mp nf with e | e
      · rw [beq_iff_eq.mp e] at qn
        simp at qn
      · exact beq_iff_eq.mp e
    refine wpAny_bind ((PySem.W.looks_subIn I.kIn e).here ?_)
    simp only [Bool.false_eq_true, if_false]
    refine wpAny_bind (wpAny_mono last (fun r s2 z => ?_) fun _ _ e => e)
    obtain ⟨v, rfl, hq⟩ := z
    exact wpAny_pure hq
  · refine wpAny_bind (wpAny_pure ?_)
    simp only [Bool.false_eq_true, if_false]
    refine wpAny_bind (wpAny_mono last (fun r s2 z => ?_) fun _ _ e => e)
    obtain ⟨v, rfl, hq⟩ := z
    exact wpAny_pure hq
/-- what the class says of +, - with an int on the right -/
structure Arith (K : PySem.W.Frag) (C : Addr) (op : Operator) (f : Addr) : Prop where
  first : PySem.W.selfFirst K C = true
  own : PySem.W.findIn K (.ref C) (PySem.dunder op.info.2) = some (some (.ref f))
  fn : PySem.W.isFn K (.ref f) = true
  back : ∃ rc, PySem.W.findIn K (.ref C) (dunderR op.info.2) = some rc ∧ (rc = none ∨ ∃ g : Addr, rc = some (.ref g))
  io : ∃ fo, PySem.W.findIn K (.type "int") (PySem.dunder op.info.2) = some fo
  ir : ∃ ro, PySem.W.findIn K (.type "int") (dunderR op.info.2) = some ro
  sub : PySem.W.subIn K (.type "int") (.ref C) = some false
theorem op_binO {op : Operator} (F : FnOk X.prog X.w X.K X.mg X.base CX0 k f fd ps sp) (hr : Room k X.A) (hb : Binds X.K fd ps []) (T : Arith X.K C op f) :
    OpR X (binaryOp op) (fun x y H Q => ∃ a dx fs i, x = .ref a ∧ y = .int i ∧ H a = some (.ins C dx fs) ∧ sp [.ref a, y] H (fun v H2 => (∃ p, v = .ref p) ∧ Q v H2) E0) := by
  intro pins s σ H x y v u Q I rx ry h
  obtain ⟨a, dx, fs, i, rfl, rfl, ha, q⟩ := h
  obtain rfl : v = Value.ref a := rx
  obtain ⟨t, rfl⟩ := ry
  obtain ⟨mA, O, _⟩ := ins_get I.hok ha
  obtain ⟨od, J, _⟩ := O.look
  obtain ⟨m, hF⟩ := I.fr
  obtain ⟨rc, b1, b2⟩ := T.back
  obtain ⟨fo, c1⟩ := T.io
  obtain ⟨ro, c2⟩ := T.ir
  refine PySem.W.ksp_binT (T := "int") hF I.ok.mod.kin J rfl T.first T.own T.fn b1 b2 c1 c2 T.sub (wpAny_mono (run_at (E := E0) (vs := [.ref a, .int i]) (us := [.ref a, .int i t]) F hr I.env0 hb (fun _ _ z => z.elim) I (.cons rfl (.cons ⟨t, rfl⟩ .nil)) q) (fun r s2 hv => ?_) fun _ _ z => z)
  obtain ⟨v, H2, I2, rv, ⟨p, rfl⟩, q2⟩ := hv
  obtain rfl : r = Value.ref p := rv
  exact ⟨.ref p, H2, I2, rfl, q2⟩
end
end Mz
set_option Elab.async false
set_option linter.all false
set_option maxRecDepth 100000
set_option maxHeartbeats 4000000
/-! a small int in a field of an f-string with its sign written -/
namespace Mz
open PySem PySem.Spec PyProof.Rows L2 PySem.W
def signS (i : Int) : Str := if i = 1 then "+1" else if i = 2 then "+2" else if i = 3 then "+3" else if i = -1 then "-1" else if i = -2 then "-2" else "-3"
theorem small_six {i : Int} (h0 : -3 ≤ i) (h1 : i ≤ 3) (h : i ≠ 0) : i = 1 ∨ i = 2 ∨ i = 3 ∨ i = -1 ∨ i = -2 ∨ i = -3 := by omega
theorem fmt_plus {prog : Program} {w : World} {A : Around} {E : Value → Shared → Prop} {s : Shared} {i : Int} {t : Tok} {Q : Value → Shared → Prop} (h0 : -3 ≤ i) (h1 : i ≤ 3) (hz : i ≠ 0) (h : ∀ u k, Q (.str (signS i) u) { s with toks := k }) :
    wpAny (model prog w) A (formatField (.int i t) ("+d" : Str)) Q E s := by
  rcases small_six h0 h1 hz with rfl | rfl | rfl | rfl | rfl | rfl
  · exact KXf.field_int (y := "+1") rfl (by decide +kernel) (by decide +kernel) (by kxf_run_i) h
  · exact KXf.field_int (y := "+2") rfl (by decide +kernel) (by decide +kernel) (by kxf_run_i) h
  · exact KXf.field_int (y := "+3") rfl (by decide +kernel) (by decide +kernel) (by kxf_run_i) h
  · exact KXf.field_int (y := "-1") rfl (by decide +kernel) (by decide +kernel) (by kxf_run_i) h
  · exact KXf.field_int (y := "-2") rfl (by decide +kernel) (by decide +kernel) (by kxf_run_i) h
  · exact KXf.field_int (y := "-3") rfl (by decide +kernel) (by decide +kernel) (by kxf_run_i) h
section
variable {X : Cx}
theorem pe_fmtP {e : Expr} {te : TE} {j : Nat} {p1 p2 pos : Pos} (he : PE X e te) : PE X (.FormattedValue e (-1) (some (.JoinedStr [.Constant (.str "+d") j p1] p2)) pos)
    (fun σ H Q => te σ H fun x H1 => ∃ i : Int, x = .int i ∧ -3 ≤ i ∧ i ≤ 3 ∧ i ≠ 0 ∧ Q (.str (signS i)) H1) := by
  refine ⟨fun pins s σ H Q I h => ?_⟩
  refine wpAny_FormattedValue_spec (thn (he.run pins s σ H _ I h) fun v s1 hv => ?_)
  obtain ⟨x, H1, I1, r1, i, rfl, h0, h1, hz, q⟩ := hv
  obtain ⟨t, rfl⟩ := r1
  have sp : PE X (.JoinedStr [.Constant (.str "+d") j p1] p2) (tC (.str "+d")) := pe_joined1 pe_str
  refine wpAny_mono (sp.run pins s1 σ H1 (fun y H2 => y = .str "+d" ∧ Q (.str (signS i)) H2) I1 ⟨rfl, q⟩) (fun u s2 hv => ?_) fun _ _ z => z
  obtain ⟨y, H2, I2, r2, rfl, q2⟩ := hv
  obtain ⟨u2, rfl⟩ := r2
  exact ⟨_, u2, rfl, fmt_plus h0 h1 hz fun u k => ⟨.str (signS i), H2, I2.tok _, ⟨u, rfl⟩, q2⟩⟩
end
end Mz
set_option Elab.async false
set_option linter.all false
set_option maxRecDepth 100000
set_option maxHeartbeats 4000000
/-! a class held by a parameter, called; a classmethod called by keywords alone -/
namespace Mz
open PySem PySem.Spec PyProof.Rows L2
section
variable {X : Cx} {CX : CXT} {k n i : Nat} {f C : Addr} {fd : FuncData} {ps ks : List Str} {sp : Sp} {E : XK} {x : Str} {p pos : Pos} {e : Expr} {es : List Expr} {kws : List Keyword} {t tk : TA} {g : List Value → List Value → List Value} {gV : List V → List V → List V}
/-- cls(k = v, ..), cls a local name that holds the class at C -/
theorem pe_makeL0 (hN : X.N[i]? = some x) (hv : Vis X.env.scope x) (M : Mk X.K C f) (F : FnOk X.prog X.w X.K X.mg X.base CX k f fd ps sp) (hr : Room (k + 1) X.A) (hb : KBn X.K fd ps 1 ks g gV) (hx : Passes CX X E) (hkw : PK X kws tk)
    (hall : (backToKw pos (keywordEach kws X.env)).all (·.1.isSome) = true := by rfl) (hks : (backToKw pos (keywordEach kws X.env)).filterMap (·.1) = ks := by rfl) (hdb : (x == ("__debug__" : Str)) = false := by decide) (hcd : (x == ("__classdict__" : Str)) = false := by decide)
    (hpl : ((backTo pos (starEach [] X.env)).any (·.1) || (backToKw pos (keywordEach kws X.env)).any (·.1.isNone)) = false := by rfl) :
    PE X (.Call (.Name x p) [] kws pos) (fun σ H Q => σ[i]? = some (some (.ref C)) ∧ tMakeK C 0 ks.length sp gV E tNil tk σ H Q) := by
  refine ⟨fun pins s σ H Q I h => ?_⟩
  obtain ⟨hσ, h⟩ := h
  have ld : PE X (.Name x p) (tVar i) := pe_var hN hv hdb hcd
  refine wpAny_Call_Name_kw (wpAny_mono (ld.run pins s σ H (fun v H2 => v = .ref C ∧ tMakeK C 0 ks.length sp gV E tNil tk σ H2 Q) I ⟨_, hσ, rfl, h⟩) (fun u s1 hv => ?_) fun _ _ z => z)
  obtain ⟨v, H1, I1, rv, rfl, q⟩ := hv
  obtain rfl : u = Value.ref C := rv
  refine PySem.W.callWith_KW0 (h₀ := X.base) I.ok.mod.kin M.kp hall (thn (hkw.run pos pins s1 σ H1 _ I1 q) fun ws s2 hw => ?_) hpl
  obtain ⟨zs, H2, I2, rz, l1, l2, q2⟩ := hw
  rw [hks]
  exact ⟨I2.kIn, run_makeK (us := []) (vs := []) M F hr hb hx I2 .nil rz rfl l2 q2⟩
/-- cls(e, .., k = v, ..) -/
theorem pe_makeL (hN : X.N[i]? = some x) (hv : Vis X.env.scope x) (M : Mk X.K C f) (F : FnOk X.prog X.w X.K X.mg X.base CX k f fd ps sp) (hr : Room (k + 1) X.A) (hb : KBn X.K fd ps (n + 1) ks g gV) (hx : Passes CX X E) (ha : PA X (e :: es) t) (hkw : PK X kws tk)
    (hall : (backToKw pos (keywordEach kws X.env)).all (·.1.isSome) = true := by rfl) (hks : (backToKw pos (keywordEach kws X.env)).filterMap (·.1) = ks := by rfl) (hdb : (x == ("__debug__" : Str)) = false := by decide) (hcd : (x == ("__classdict__" : Str)) = false := by decide)
    (he : starEach (e :: es) X.env = (false, eval e X.env) :: starEach es X.env := by rfl) (hpl : ((backTo pos (starEach (e :: es) X.env)).any (·.1) || (backToKw pos (keywordEach kws X.env)).any (·.1.isNone)) = false := by rfl) :
    PE X (.Call (.Name x p) (e :: es) kws pos) (fun σ H Q => σ[i]? = some (some (.ref C)) ∧ tMakeK C n ks.length sp gV E t tk σ H Q) := by
  refine ⟨fun pins s σ H Q I h => ?_⟩
  obtain ⟨hσ, h⟩ := h
  have ld : PE X (.Name x p) (tVar i) := pe_var hN hv hdb hcd
  refine wpAny_Call_Name_kw (wpAny_mono (ld.run pins s σ H (fun v H2 => v = .ref C ∧ tMakeK C n ks.length sp gV E t tk σ H2 Q) I ⟨_, hσ, rfl, h⟩) (fun u s1 hv => ?_) fun _ _ z => z)
  obtain ⟨v, H1, I1, rv, rfl, q⟩ := hv
  obtain rfl : u = Value.ref C := rv
  refine PySem.W.callWith_KW (h₀ := X.base) I.ok.mod.kin M.kp hall (thn (ha.run pos pins s1 σ H1 _ I1 q) fun us s2 hw => ?_) hpl he
  obtain ⟨vs, H2, I2, r2, q2⟩ := hw
  refine thn (hkw.run pos pins s2 σ H2 _ I2 q2) fun ws s3 hw => ?_
  obtain ⟨zs, H3, I3, rz, l1, l2, q3⟩ := hw
  rw [hks]
  exact ⟨I3.kIn, run_makeK M F hr hb hx I3 r2 rz l1 l2 q3⟩
/-- C.m(k = v, ..), m a classmethod, keywords alone -/
theorem pe_cmethK0 {o : Expr} {ta : TE} {m : Str} {q g0 : Addr} {mc : Value} {apos : Pos} {pl : Sem Bool} {ES : L2.St → XK} (ho : PE X o ta) (r : ClX.CRead X.K C mc) (c : ClX.CMet X.K C mc m q g0) (F : FnOk X.prog X.w X.K X.mg X.base CX k g0 fd ps sp) (hr : Room k X.A) (hb : KBn X.K fd ps 1 ks g gV) (hx : ∀ σ, PassesAt CX X σ (ES σ)) (hkw : PK X kws tk)
    (hall : (backToKw pos (keywordEach kws X.env)).all (·.1.isSome) = true := by rfl) (hks : (backToKw pos (keywordEach kws X.env)).filterMap (·.1) = ks := by rfl)
    (hpl : ((backTo pos (starEach [] X.env)).any (·.1) || (backToKw pos (keywordEach kws X.env)).any (·.1.isNone)) = false := by rfl)
    (ht : eval (.Call (.Attribute o m apos) [] kws pos) X.env = (do
      let ov ← eval o X.env
      standAt apos.atName
      let (f, first) ← holding [ov] (getMethod ov m pl)
      callWith pos f first (backTo pos (starEach [] X.env)) (backToKw pos (keywordEach kws X.env))) := by rfl) :
    PE X (.Call (.Attribute o m apos) [] kws pos) (fun σ H Q => ta σ H fun x H1 => x = .ref C ∧ tk σ H1 fun zs H2 => zs.length = ks.length ∧ sp (gV [.ref C] zs) H2 Q (ES σ)) := by
  refine ⟨fun pins s σ H Q I h => PySem.W.methodCall_KW (pl := pl) (thn (ho.run pins s σ H _ I h) fun u s1 hv => ?_) ht⟩
  obtain ⟨x, H1, I1, rx, rfl, q1⟩ := hv
  obtain rfl : u = Value.ref C := rx
  refine ClX.getmethcm_ok I1 r c fun s2 I2 => ?_
  refine PySem.W.callWith_of (P := PySem.W.MethP X.K s1.heap.objs.size g0 (.ref C)) hpl (PySem.W.keeps_M c.fi) (evalArgs_kw2_nil hall (thn (hkw.run pos _ s2 σ H1 _ I2 q1) fun ws s3 hw => ?_))
  obtain ⟨zs, H2, I3, rz, l2, q2⟩ := hw
  refine ⟨⟨ClX.pin_at I3, I3.kIn⟩, ?_⟩
  rw [hks]
  have r1 : Vals [V.ref C] [Value.ref C] := .cons rfl .nil
  have z : wpAny (model X.prog X.w) X.A (call (.ref s1.heap.objs.size) [] (ks.zip ws)) (EP X ((s1.heap.objs.size, PySem.W.methodObj (.ref g0) (.ref C)) :: pins) σ Q) X.xe s3 := by
    refine wpAny_call (PySem.W.method_call (ClX.pin_at I3) (codeAny_mono (F.run X.A X.stack s3 H2 ⟨[.ref C], ks.zip ws⟩ (g [.ref C] ws) (gV [.ref C] zs) Q (ES σ) hr I3.env0 (hb.to s3 [.ref C] ws I3.kIn rfl (rz.length.symm.trans l2)) (hb.rel r1 rz) q2) fun r s4 hq => ?_))
    cases r with
    | error e => exact hx σ _ H2 s3 e s4 I3 hq
    | ok fl =>
      cases fl with
      | ret u => exact I3.after hq
      | next => exact hq.elim
      | brk => exact hq.elim
      | cont => exact hq.elim
  exact thn z fun _ _ y => ClX.unpinE y
/-- C.m(e, ..), m a classmethod; what is raised is wished for at the caller's slots -/
theorem pe_cmethS {o : Expr} {ta : TE} {m : Str} {q g0 : Addr} {mc : Value} {apos : Pos} {pl : Sem Bool} {ES : L2.St → XK} (ho : PE X o ta) (r : ClX.CRead X.K C mc) (c : ClX.CMet X.K C mc m q g0) (F : FnOk X.prog X.w X.K X.mg X.base CX k g0 fd ps sp) (hr : Room k X.A) (hb : Binds X.K fd ps [])
    (hx : ∀ σ, PassesAt CX X σ (ES σ)) (ha : PA X (e :: es) t) (hst : starEach (e :: es) X.env = (false, eval e X.env) :: starEach es X.env := by rfl) (hpl : (backTo pos (starEach es X.env)).any (·.1) = false := by rfl)
    (ht : eval (.Call (.Attribute o m apos) (e :: es) [] pos) X.env = (do
      let ov ← eval o X.env
      standAt apos.atName
      let (f, first) ← holding [ov] (getMethod ov m pl)
      callWith pos f first (backTo pos (starEach (e :: es) X.env)) (backToKw pos (keywordEach [] X.env))) := by rfl) :
    PE X (.Call (.Attribute o m apos) (e :: es) [] pos) (fun σ H Q => ta σ H fun x H1 => x = .ref C ∧ t σ H1 fun vs H2 => sp (.ref C :: vs) H2 Q (ES σ)) := by
  refine ⟨fun pins s σ H Q I h => PySem.W.methodCall_KW (pl := pl) (thn (ho.run pins s σ H _ I h) fun u s1 hv => ?_) ht⟩
  obtain ⟨x, H1, I1, rx, rfl, q1⟩ := hv
  obtain rfl : u = Value.ref C := rx
  refine ClX.getmethcm_ok I1 r c fun s2 I2 => ?_
  refine ClX.callwith_cm I2 (ClX.base_none I1 (Nat.le_refl _)) c.fi (thn (ha.run pos _ s2 σ H1 _ I2 q1) fun us s3 hw => ?_) hst hpl
  obtain ⟨vs, H2, I3, rv, q2⟩ := hw
  refine ⟨⟨ClX.pin_at I3, I3.kIn⟩, ?_⟩
  have r1 : Vals (V.ref C :: vs) (Value.ref C :: us) := .cons rfl rv
  have hl : (Value.ref C :: us ++ []).length = ps.length := by
    rw [List.append_nil]
    exact r1.length.symm.trans (F.len _ _ _ _ q2)
  have hbi := hb s3 (Value.ref C :: us) I3.kIn hl
  rw [List.append_nil] at hbi
  have z : wpAny (model X.prog X.w) X.A (call (.ref s1.heap.objs.size) us) (EP X ((s1.heap.objs.size, PySem.W.methodObj (.ref g0) (.ref C)) :: pins) σ Q) X.xe s3 := by
    refine wpAny_call (PySem.W.method_call (ClX.pin_at I3) (codeAny_mono (F.run X.A X.stack s3 H2 ⟨Value.ref C :: us, []⟩ (Value.ref C :: us) (V.ref C :: vs) Q (ES σ) hr I3.env0 hbi r1 q2) fun r s4 hq => ?_))
    cases r with
    | error e => exact hx σ _ H2 s3 e s4 I3 hq
    | ok fl =>
      cases fl with
      | ret u => exact I3.after hq
      | next => exact hq.elim
      | brk => exact hq.elim
      | cont => exact hq.elim
  exact thn z fun _ _ y => ClX.unpinE y
end
end Mz
set_option Elab.async false
set_option linter.all false
set_option maxRecDepth 100000
set_option maxHeartbeats 4000000
/-! repr of lists that hold instances with an own __repr__ -/
namespace Mz
open PySem PySem.Spec PyProof.Rows L2
/-- v is shown as t, under the containers as -/
def ShV (X : Cx) (k : Nat) (as : List Addr) (Pre : Hp → Prop) (v : V) (t : Str) : Prop :=
  ∀ (base : Nat), base + t.length ≤ sizeLine → ∀ (A : Around) (g : List Code) (pins : List (Addr × Obj)) (σ : L2.St) (H : Hp) (s : Shared) (u : Value) (Q : Str → Shared → Prop), A.frames = some X.stack → A.guards = some g → (∀ b ∈ as, Clear g b) → Room k A →
    Inv X pins σ H s → Pre H → RelV v u → (∀ H' s', Inv X pins σ H' s' → Same H H' → Q t s') → wpAny (model X.prog X.w) A (pyReprUnder base u) Q X.xe s
section
variable {X : Cx} {k : Nat} {as : List Addr} {Pre : Hp → Prop}
theorem shv_is {v : V} {t : Str} (h : ∀ u, RelV v u → ReprIs X.prog X.w u t) : ShV X k as Pre v t :=
  fun base hb A g pins σ H s u Q _ _ _ _ I _ r q => (h u r) base hb A X.xe s Q fun tk => q H _ (I.tok _) (Same.refl H)
theorem shv_str {z : Str} (h : (reprText z).length ≤ sizeLine) : ShV X k as Pre (.str z) (reprText z) := shv_is fun u r => by
  obtain ⟨t, rfl⟩ := r
  exact ReprIs.str z t h
theorem shv_int {i : Int} (h : i.natAbs.log2 < 1920) : ShV X k as Pre (.int i) (Str.ofString (toString i)) := shv_is fun u r => by
  obtain ⟨t, rfl⟩ := r
  exact ReprIs.int t h
theorem ifBoundBy_K {M : Model} {A : Around} {E : Value → Shared → Prop} {s : Shared} {K : PySem.W.Frag} {x C f : Addr} {ox : Obj} {od : Option Obj} {name : Str} {last : Value → List Value → Sem Value} {Q : Option Value → Shared → Prop} (KX : K.In s.heap) (I : PySem.W.InstAt s.heap x ox C od)
    (hs : PySem.W.findIn K (.ref C) name = some (some (.ref f))) (hf : PySem.W.isFn K (.ref f) = true)
    (h : wpAny M A (last (.ref f) [.ref x]) (fun v => Q (some v)) E s) : wpAny M A (callSpecialIfBoundBy? last (.ref x) name) Q E s := by
  simp only [callSpecialIfBoundBy?, bindSpecialIfBound?]
  refine wpAny_holding (wpAny_bind (wpAny_bind (wpAny_bind (I.type.here ((PySem.W.looks_findIn KX hs).here ?_)))))
  refine wpAny_bind (wpAny_askSetting (wpAny_ite ?_))
  have fin : wpAny M A (last (.ref f) [.ref x] >>= fun v => pure (some v)) Q E s := wpAny_bind (wpAny_mono h (fun v s' h' => wpAny_pure h') fun _ _ h' => h')
  split
  · exact wpAny_bind ((PySem.W.bind_fn KX _ (beq_iff_eq.mp hf)).here (wpAny_pure (by exact fin)))
  · exact wpAny_tryCatch (wpAny_bind ((PySem.W.bind_fn KX _ (beq_iff_eq.mp hf)).here (wpAny_pure (by exact fin))))
theorem env_at {pins : List (Addr × Obj)} {σ : L2.St} {H : Hp} {s : Shared} {A : Around} (I : Inv X pins σ H s) (h : A.frames = some X.stack) : Env0 X.prog X.w X.K X.mg X.base A X.stack s H := by
  have e := I.env0
  exact ⟨h, e.mod, e.bs, e.bsz, e.funs, e.frf, e.hok, e.bare⟩
theorem shv_own {j : Nat} {f C p : Addr} {fd : FuncData} {sp : Sp} {t : Str} (F : FnOk X.prog X.w X.K X.mg X.base CX0 k f fd ["self"] sp) (hb : Binds X.K fd ["self"] []) (hs : PySem.W.findIn X.K (.ref C) "__repr__" = some (some (.ref f))) (hf : PySem.W.isFn X.K (.ref f) = true)
    (hp : ∀ H, Pre H → ∃ dx fs, H p = some (.ins C dx fs) ∧ sp [.ref p] H (fun v H2 => v = .str t ∧ Same H H2) E0) : ShV X k as Pre (.ref p) t := by
  intro base hbs A g pins σ H s u Q hfr hg hcl hr I pre r q
  obtain rfl : u = Value.ref p := r
  obtain ⟨dx, fs, ha, hsp⟩ := hp H pre
  obtain ⟨mA, O, _⟩ := ins_get I.hok ha
  obtain ⟨od, J, _⟩ := O.look
  refine wpAny_pyReprUnder_ref (by omega) ?_
  unfold pyReprObjUnder pyReprObjBy
  refine wpAny_bind (wpAny_cRoomFor hr.units0 ?_)
  refine wpAny_bind (wpAny_bind (J.type.here ((PySem.W.looks_findIn I.kIn hs).here ?_)))
  refine wpAny_bind (ifBoundBy_K I.kIn J hs hf ?_)
  have run := run_at (Q := fun v H2 => v = .str t ∧ Same H H2) (E := E0) (E2 := X.xe) (vs := [.ref p]) (us := [.ref p]) F hr (env_at I hfr) hb (fun _ _ z => z.elim) I (.cons rfl .nil) hsp
  refine wpAny_mono run (fun v s2 hv => ?_) fun _ _ z => z
  obtain ⟨w, H2, I2, rv, rfl, sm⟩ := hv
  obtain ⟨tk, rfl⟩ := rv
  exact wpAny_bind (wpAny_isInstance (T := "str") (b := true) rfl isSubtype_str_str (wpAny_pure ⟨_, _, rfl, q _ _ I2 sm⟩))
/-- texts, as a tracked list has them -/
theorem strs_done : ∀ {l : List Str} {us : List Value}, Vals (l.map V.str) us → ∃ done : List (Str × Tok), us = strValues done ∧ done.map (·.1) = l
  | [], _, .nil => ⟨[], rfl, rfl⟩
  | z :: l, _, .cons ⟨t, e⟩ r => by
    obtain ⟨done, rfl, e2⟩ := strs_done r
    exact ⟨(z, t) :: done, by rw [e]; rfl, by rw [List.map_cons, e2]⟩
theorem frames_list_loop {A : Around} {l : List Env} {args : Args} (h : A.frames = some l) : (A.under (.builtin "list.__repr__.loop" args)).frames = some l := by
  first | exact h | (simpa [Around.under, Code.envs, Code.isFrame, pushEnvs] using h)
theorem loop_depth {A : Around} {args : Args} : (A.under (.builtin "list.__repr__.loop" args)).depth ≤ A.depth + 1 := by
  first | exact Nat.le_refl _ | (simp [Around.under, Code.weight, Code.isCreation, Code.isGuard, Code.isCaller, Code.frames, Code.isFrame, guardIds])
theorem _root_.L2.Room.list_loop {A : Around} {k : Nat} (r : Room (k + 1) A) (args : Args) : Room k (A.under (.builtin "list.__repr__.loop" args)) :=
  ⟨r.hd, by have := r.dp; have := loop_depth (A := A) (args := args); omega, by have := r.un; rw [units_under_list_loop]; omega⟩
/-- the loop of list.__repr__ -/
theorem loop_own {A : Around} {g : List Code} {pins : List (Addr × Obj)} {σ : L2.St} {a P : Addr} {vs : List V} {ts : List Str} {base : Nat} {R : Result → Shared → Prop} (hfr : A.frames = some X.stack) (hg : A.guards = some g) (hcl : ∀ b ∈ as, Clear g b) (hr : Room (k + 1) A) (hna : a ∉ as)
    (mono : ∀ H H', Same H H' → Pre H → Pre H') (hne : a ≠ P) (hlen : ts.length = vs.length) (hT : ∀ (i : Nat) (v : V), vs[i]? = some v → ∃ t, ts[i]? = some t ∧ ShV X k as Pre v t) (hsz : base + (listText ts).length ≤ sizeLine) (hE : ∀ e s', X.xe e s' → R (.error e) s') :
    ∀ (n i : Nat) (H : Hp) (s : Shared), vs.length - i = n → i ≤ vs.length → Inv X pins σ H s → (∀ H', (∀ p o, p ≠ P → H p = some o → H' p = some o) → Pre H') → H a = some (.lst vs) → H P = some (.lst ((ts.take i).map V.str)) →
    (∀ H' s' u, Inv X pins σ H' s' → (∀ p o, p ≠ P → H p = some o → H' p = some o) → R (.ok (.ret (.str (listText ts) u))) s') →
    codeAny (model X.prog X.w) A (.builtin "list.__repr__.loop" ⟨[.ref a, rawInt i, .ref P, rawInt ((base + piled (ts.take i) : Nat) : Int)], []⟩) R s := by
  have hL := textFrom_len ts 0 "["
  have hX : (listText ts).length = (textFrom 0 "[" ts).length + 1 := by
    show (textFrom 0 "[" ts ++ "]").length = _
    rw [strLen_append]; rfl
  have hsz1 : vs.length ≤ sizeLine := by
    have h1 := hL.1
    rw [if_neg (Nat.lt_irrefl 0)] at h1
    omega
  have hsz2 : ∀ t ∈ ts, t.length ≤ sizeLine := fun t ht => by
    have h2 := hL.2.1 t ht
    omega
  have hsz3 : (listText ts).length ≤ sizeLine := by omega
  have hp3 := piled_le_listText ts
  intro n
  induction n with
  | zero =>
    intro i H s hk hi I pre hA hP q
    obtain ⟨_, its, na, rv, l1, ha⟩ := I.lstM hA
    obtain ⟨_, its2, nc, rv2, l2, hP2⟩ := I.lstM hP
    obtain ⟨done, rfl, hdone⟩ := strs_done rv2
    have hin : i = vs.length := by omega
    refine codeAny_builtin PySem.F.entry_list_repr_loop ?_
    show wpAny _ _ (Builtin.«list.__repr__.loop» ⟨[.ref a, .int i 0, .ref P, .int ((base + piled (ts.take i) : Nat) : Int) 0], []⟩) _ _ s
    rw [repr_loop_tree]
    refine wpAny_bind (wpAny_listItems ha rfl ?_)
    have hnone : its.toArray[(i : Int).toNat]? = none := by simp [hin, l1]
    simp only [hnone]
    unfold reprEnd
    refine wpAny_bind (wpAny_listItems hP2 rfl ?_)
    rw [show (strValues done).toArray.toList = strValues done from rfl, repr_fold]
    refine wpAny_bind (wpAny_pure ?_)
    have hall : done.map (·.1) = ts := by rw [hdone, hin, ← hlen, List.take_length]
    rw [hall]
    refine wpAny_bind (wpAny_mkStr (wpAny_pure ?_) hsz3)
    exact q H _ _ (I.tok _) fun _ _ _ e => e
  | succ n ih =>
    intro i H s hk hi I pre hA hP q
    obtain ⟨_, its, na, rv, l1, ha⟩ := I.lstM hA
    have hlt : i < vs.length := by omega
    obtain ⟨t, ht, hrep⟩ := hT i vs[i] (List.getElem?_eq_getElem hlt)
    obtain ⟨u, hu, rel⟩ := rv.get (List.getElem?_eq_getElem hlt)
    have hp1 := piled_take_succ ht
    have hp2 := piled_take_le ts (i + 1)
    refine codeAny_builtin PySem.F.entry_list_repr_loop ?_
    show wpAny _ _ (Builtin.«list.__repr__.loop» ⟨[.ref a, .int i 0, .ref P, .int ((base + piled (ts.take i) : Nat) : Int) 0], []⟩) _ _ s
    rw [repr_loop_tree]
    refine wpAny_bind (wpAny_listItems ha rfl ?_)
    have hsome : its.toArray[(i : Int).toNat]? = some u := by simpa using hu
    simp only [hsome]
    rw [Int.toNat_natCast]
    have hpre : Pre H := pre H fun _ _ _ e => e
    refine wpAny_bind (wpAny_holding (wpAny_mono (hrep (base + piled (ts.take i) + 1) (by omega) _ _ pins σ H s u (fun t' s' => t' = t ∧ ∃ H', Inv X pins σ H' s' ∧ Same H H') (frames_list_loop hfr) (guards_under_guard (isGuard_list_loop _) hg) (fun b hb => (hcl b hb).cons (a := a) fun e => hna (e ▸ hb)) (hr.list_loop _) I hpre rel fun H' s' I' sm => ⟨rfl, H', I', sm⟩) (fun t' s' hh => ?_) fun e s' z => hE e s' z))
    obtain ⟨rfl, H', I', sm⟩ := hh
    refine wpAny_bind (wpAny_mkStr ?_ (hsz2 t' (List.mem_of_getElem? ht)))
    refine wpAny_bind ?_
    show wpAny _ _ (updateSeq P _) _ _ _
    have hP' := sm _ _ hP
    obtain ⟨_, its2, nc, rv2, l2, hP2⟩ := I'.lstM hP'
    have take_len : (ts.take i).length ≤ i := by rw [List.length_take]; omega
    have asz : its2.toArray.size ≤ sizeLine := by
      rw [List.size_toArray, ← l2, List.length_map]
      omega
    refine wpAny_updateSeq hP2 rfl (wpAny_pure ⟨PySem.F.quiet_list_repr_loop _, ?_⟩) asz
    have e1 : ((i : Int) + 1) = ((i + 1 : Nat) : Int) := by omega
    have e2 : base + piled (ts.take i) + (t'.length + 2) = base + piled (ts.take (i + 1)) := by omega
    rw [e1, e2]
    have e3 : (ts.take i).map V.str ++ [V.str t'] = (ts.take (i + 1)).map V.str := by
      rw [List.take_add_one, ht, List.map_append]
      rfl
    have I2 : Inv X pins σ (upd H' P (.lst ((ts.take (i + 1)).map V.str))) _ := I'.lset (its' := its2 ++ [.str t' s'.toks]) (f := fun xs => xs.push (.str t' s'.toks)) (t' := s'.toks + 1) hP' hP2 (by simp) (by rw [← e3]; exact rv2.append (.cons ⟨_, rfl⟩ .nil)) (by rw [List.length_map, List.length_take]; omega)
    have keepP : ∀ p o, p ≠ P → H p = some o → (upd H' P (.lst ((ts.take (i + 1)).map V.str))) p = some o := fun p o np e => by
      rw [upd_ne np]
      exact sm p o e
    refine ih (i + 1) _ _ (by omega) hlt I2 (fun H2 k2 => pre H2 fun p o np e => k2 p o np (keepP p o np e)) (keepP a _ hne hA) upd_same fun H2 s2 u2 I3 k3 => ?_
    exact q H2 s2 u2 I3 fun p o np e => k3 p o np (keepP p o np e)
/-- repr of a list some of whose items are instances -/
def rReprO (X : Cx) (k : Nat) : List V → Hp → VK → Prop := fun xs H Q => ∃ (a : Addr) (v0 : V) (vr : List V) (ts : List Str) (Pre : Hp → Prop), xs = [.ref a] ∧ H a = some (.lst (v0 :: vr)) ∧ (∀ H H', Same H H' → Pre H → Pre H') ∧ Pre H ∧ ts.length = (v0 :: vr).length ∧
  (∀ (i : Nat) (v : V), (v0 :: vr)[i]? = some v → ∃ t, ts[i]? = some t ∧ ShV X k [] Pre v t) ∧ (listText ts).length ≤ sizeLine ∧ ∀ H', Same H H' → Q (.str (listText ts)) H'
theorem call_reprO (g0 : X.A.guards = some []) (hr : Room (k + 2) X.A) : CallR X (.builtin "repr") (rReprO X k) := by
  intro pins s σ H xs us Q I r h
  obtain ⟨a, v0, vr, ts, Pre, rfl, hA, mono, pre, hlen, hT, hsz, q⟩ := h
  obtain ⟨u, rfl, rx⟩ := vals1 r
  obtain rfl : u = Value.ref a := rx
  obtain ⟨z, its, n, rv, l1, ha⟩ := I.lstM hA
  match its, rv with
  | x :: l, rv =>
  refine call_repr_slot (T := "list") (by have := hr.units; omega) ⟨_, ha, rfl⟩ PySem.F.slot_list_repr.toG ?_
  refine wpAny_call (codeAny_call_builtin PySem.F.slot_list_repr.plain PySem.F.entry_list_repr (PySem.F.slot_list_repr.check _ _ _ _ _ _ _ _ ⟨_, ha, rfl⟩ (PySem.F.args_list_repr_1 _) ?_))
  refine wpAny_list_repr_head (A := X.A.in1.in1) (g := []) (b := 0) g0 (fun v rest kw hm => nomatch hm) ha rfl ?_
  refine wpAny_bind (m := newList []) (wpAny_newObj_type ?_)
  refine wpAny_pure ⟨PySem.F.quiet_list_repr_loop _, ?_⟩
  have I1 := I.lnew (ys := []) (its := []) (t' := s.toks) .nil (Nat.zero_le _)
  have nP : H s.heap.objs.size = none := I.hok.fresh (Nat.le_refl _)
  have neP : a ≠ s.heap.objs.size := ne_of_none hA nP
  have same : ∀ {H' : Hp}, (∀ p o, p ≠ s.heap.objs.size → (upd H s.heap.objs.size (.lst [])) p = some o → H' p = some o) → Same H H' := fun k2 p o e => k2 p o (ne_of_none e nP) (by rw [upd_ne (ne_of_none e nP)]; exact e)
  have pz : piled (ts.take 0) = 0 := rfl
  refine loop_own (X := X) (k := k) (as := []) (Pre := Pre) (A := X.A.in1) (g := []) (pins := pins) (σ := σ) (a := a) (P := s.heap.objs.size) (vs := v0 :: vr) (ts := ts) (base := 0) I.env0.frames g0 (fun b hb => nomatch hb) hr.in1 (fun hb => nomatch hb) mono neP hlen hT (by omega) (fun e s' z => z) _ 0 (upd H s.heap.objs.size (.lst [])) _ rfl (Nat.zero_le _) I1
    (fun H' k2 => mono H H' (same k2) pre) (by rw [upd_ne neP]; exact hA) upd_same fun H' s' u2 I2 k2 => ?_
  exact ⟨_, _, rfl, .str _, H', I2, ⟨u2, rfl⟩, q H' (same k2)⟩
end
end Mz
set_option Elab.async false
set_option linter.all false
set_option maxRecDepth 100000
set_option maxHeartbeats 4000000
/-! repr of a list of a text and a dict of one pair -/
namespace Mz
open PySem PySem.Spec PyProof.Rows L2
def pairText (z : Str) (i : Int) : Str := dictText (List.zipWith (fun k v : Str => k ++ ": " ++ v) [reprText z] [Str.ofString (toString i)])
def twoText (r z : Str) (i : Int) : Str := listText [reprText r, pairText z i]
def rRepr2 : List V → Hp → VK → Prop := fun xs H Q => ∃ (p : Addr) (r : Str) (a : Addr) (z : Str) (i : Int), xs = [.ref p] ∧ H p = some (.lst [.str r, .ref a]) ∧ H a = some (.dK [(.inr z, .int i)]) ∧
  i.natAbs.log2 < 1920 ∧ (reprText r).length ≤ 1000 ∧ (reprText z).length ≤ 1000 ∧ (twoText r z i).length ≤ sizeLine ∧ Q (.str (twoText r z i)) H
theorem call_repr2 {X : Cx} (g0 : X.A.guards = some []) (hu : X.A.units + 64 < cLine) : CallR X (.builtin "repr") rRepr2 := by
  intro pins s σ H xs us Q I rv h
  obtain ⟨p, r, a, z, i, rfl, hp, ha, hi, hr, hz, hsz, q⟩ := h
  obtain ⟨u, rfl, rx⟩ := vals1 rv
  obtain rfl : u = Value.ref p := rx
  have ends : ∀ h' t tk, (∀ b o, s.heap.get? b = some o → h'.get? b = some o) → EP X pins σ Q (.str (twoText r z i) t) { s with heap := h', toks := tk } := fun h' t tk hk => ⟨.str _, H, I.kept hk, ⟨_, rfl⟩, q⟩
  obtain ⟨_, its, n, vl, hl⟩ := (show ObjOk X.prog X.w H s.heap p (.lst [.str r, .ref a]) from I.hok p _ hp)
  obtain ⟨_, hsys, vs, kv, o, es, ep, ho, hx, hd, _, hpair, _⟩ := dk_of I.hok ha
  -- the two items
  match its, vl with
  | [u1, u2], .cons r1 (.cons r2 .nil) =>
  obtain ⟨t1, rfl⟩ := r1
  obtain rfl : u2 = Value.ref a := r2
  -- the one entry
  match vs, kv with
  | [(k2, v2)], .cons ⟨ek, rv2⟩ .nil =>
  obtain ⟨t2, rfl⟩ := rv2
  have ek2 : k2 = Sum.inr z := ek.symm
  subst ek2
  have entry : ∃ e, es.toList = [e] ∧ (∃ t, e.key = .str z t) ∧ e.val = .int i t2 := by
    generalize es.toList = l at hpair ⊢
    cases hpair with
    | cons hk hv hn =>
      cases hn
      obtain ⟨t, et⟩ := Value.isStrOf_shape (x := z) hk
      exact ⟨_, rfl, ⟨t, et⟩, hv⟩
  obtain ⟨e, he, ⟨t3, hkey⟩, hval⟩ := entry
  have kz : ReprK X.prog X.w [] s.heap 0 e.key (reprText z) := by
    rw [hkey]
    exact .of_is (ReprIs.str z t3 (Nat.le_trans hz (by decide))) _ _ _
  have vz : ReprK X.prog X.w [] s.heap 0 e.val (Str.ofString (toString i)) := by
    rw [hval]
    exact .of_is (ReprIs.int t2 hi) _ _ _
  have hE : ReprEntriesK X.prog X.w [] s.heap 0 es.toList (List.zipWith (fun k v : Str => k ++ ": " ++ v) [reprText z] [Str.ofString (toString i)]) := by
    rw [he]
    exact ReprEntriesK.of_two [e] _ _ (.cons kz .nil) (.cons vz .nil)
  have dk : ReprK X.prog X.w [a] s.heap 1 (.ref a) (pairText z i) := ReprK.dict ho hx.1 hd hsys (by simp) hE
  have sk : ReprK X.prog X.w [a] s.heap 1 (.str r t1) (reprText r) := .of_is (ReprIs.str r t1 (Nat.le_trans hr (by decide))) _ _ _
  have npa : p ∉ [a] := by
    intro hm
    rw [List.mem_singleton.mp hm, ha] at hp
    cases hp
  refine call_repr_slot (T := "list") (by omega) ⟨_, hl, rfl⟩ F.slot_list_repr.toG ?_
  refine call_list_reprK (as := [a]) (d := 1) (ts := [reprText r, pairText z i]) hl rfl rfl npa rfl (fun j y hy => ?_) (A := X.A.in1) g0 (fun b _ => Clear.nil b) (by show X.A.units + 1 + 2 < cLine; omega) (fun _ _ z => z) (fun h' t tk hk => ⟨_, _, rfl, ends h' t tk hk⟩) hsz
  match j, hy with
  | 0, hy =>
    cases hy
    exact ⟨_, rfl, sk⟩
  | 1, hy =>
    cases hy
    exact ⟨_, rfl, dk⟩
  | j + 2, hy =>
    exact absurd hy (by simp)
end Mz
set_option Elab.async false
set_option linter.all false
set_option maxRecDepth 100000
set_option maxHeartbeats 4000000
/-! repr of a list of a text and a dict whose values are flat, or lists of a 1 -/
namespace Mz
open PySem PySem.Spec PyProof.Rows L2
def keyT : Key → Str
  | .inl i => Str.ofString (toString i)
  | .inr z => reprText z
def itemT : V → Str
  | .non => PyData.shown .none
  | .bl b => PyData.shown (.bool b)
  | .int i => Str.ofString (toString i)
  | .str z => reprText z
  | _ => listText [Str.ofString (toString (1 : Int))]
/-- a value of such a dict -/
def VOk (qs : List Addr) (H : Hp) (v : V) : Prop := v = .non ∨ (∃ b, v = .bl b) ∨ (∃ i, v = .int i ∧ (i.natAbs.log2 < 1920 ∧ (Str.ofString (toString i)).length ≤ 300)) ∨ (∃ z, v = .str z ∧ (reprText z).length ≤ 300) ∨ ∃ q, v = .ref q ∧ q ∈ qs ∧ H q = some (.lst [.int 1])
def KOk : Key → Prop
  | .inl i => i.natAbs.log2 < 1920 ∧ (Str.ofString (toString i)).length ≤ 300
  | .inr z => (reprText z).length ≤ 300
def entT (kv : Key × V) : Str := keyT kv.1 ++ ": " ++ itemT kv.2
def dkText (r : Str) (kvs : List (Key × V)) : Str := listText [reprText r, dictText (kvs.map entT)]
def rReprDk : List V → Hp → VK → Prop := fun xs H Q => ∃ (p : Addr) (r : Str) (a : Addr) (qs : List Addr) (kvs : List (Key × V)), xs = [.ref p] ∧ H p = some (.lst [.str r, .ref a]) ∧ H a = some (.dK kvs) ∧ p ∉ qs ∧ a ∉ qs ∧ (reprText r).length ≤ 1000 ∧
  (∀ kv ∈ kvs, KOk kv.1 ∧ VOk qs H kv.2) ∧ (dkText r kvs).length ≤ sizeLine ∧ Q (.str (dkText r kvs)) H
section
variable {X : Cx} {pins : List (Addr × Obj)} {σ : L2.St} {H : Hp} {s : Shared} {qs : List Addr}
theorem item_repr (I : Inv X pins σ H s) {v : V} {u : Value} (r : RelV v u) (h : VOk qs H v) : ReprK X.prog X.w qs s.heap 1 u (itemT v) := by
  rcases h with rfl | ⟨b, rfl⟩ | ⟨i, rfl, hi, _⟩ | ⟨z, rfl, hz⟩ | ⟨q, rfl, hq, hH⟩
  · obtain rfl : u = Value.none := r
    exact .of_is (by simpa only [itemT, PyData.shown] using ReprIs.none) _ _ _
  · obtain rfl : u = Value.bool b := r
    exact .of_is (by simpa only [itemT, PyData.shown] using ReprIs.bool b) _ _ _
  · obtain ⟨t, rfl⟩ := r
    exact .of_is (ReprIs.int t hi) _ _ _
  · obtain ⟨t, rfl⟩ := r
    exact .of_is (ReprIs.str z t (Nat.le_trans hz (by decide))) _ _ _
  · obtain rfl : u = Value.ref q := r
    obtain ⟨_, its, n, vl, hl⟩ := (show ObjOk X.prog X.w H s.heap q (.lst [.int 1]) from I.hok q _ hH)
    match its, vl with
    | [u1], .cons r1 .nil =>
    obtain ⟨t1, rfl⟩ := r1
    refine (ReprK.list (as := []) (d := 0) hl rfl rfl (by simp) rfl fun i y hy => ?_).more fun b hb => by
      rw [List.mem_singleton.mp hb]
      exact hq
    match i, hy with
    | 0, hy =>
      cases hy
      exact ⟨_, rfl, .of_is (ReprIs.int t1 (by decide +kernel)) _ _ _⟩
    | i + 1, hy => exact absurd hy (by simp)
theorem key_repr {k : Key} {u : Value} (e : keyIs k u = true) (h : KOk k) : ReprK X.prog X.w qs s.heap 1 u (keyT k) := by
  rcases keyIs_shape e with ⟨i, t, rfl, rfl⟩ | ⟨z, t, rfl, rfl⟩
  · exact .of_is (ReprIs.int t h.1) _ _ _
  · exact .of_is (ReprIs.str z t (Nat.le_trans h (by decide))) _ _ _
end
theorem item_len {qs : List Addr} {H : Hp} {v : V} (h : VOk qs H v) : (itemT v).length ≤ 300 := by
  rcases h with rfl | ⟨b, rfl⟩ | ⟨i, rfl, _, hi⟩ | ⟨z, rfl, hz⟩ | ⟨q, rfl, hq, hH⟩
  · simp only [itemT, PyData.shown]
    decide +kernel
  · cases b <;> simp only [itemT, PyData.shown] <;> decide +kernel
  · exact hi
  · exact hz
  · show (listText [Str.ofString (toString (1 : Int))]).length ≤ 300
    decide +kernel
theorem key_len {k : Key} (h : KOk k) : (keyT k).length ≤ 300 := by
  cases k with
  | inl i => exact h.2
  | inr z => exact h
theorem ent_sum {qs : List Addr} {H : Hp} : ∀ kvs : List (Key × V), (∀ kv ∈ kvs, KOk kv.1 ∧ VOk qs H kv.2) → ((kvs.map entT).map (·.length)).sum ≤ 602 * kvs.length
  | [], _ => Nat.le_refl _
  | kv :: r, h => by
    obtain ⟨h1, h2⟩ := h kv List.mem_cons_self
    have ih := ent_sum r fun x hx => h x (List.mem_cons_of_mem _ hx)
    have e : (entT kv).length = (keyT kv.1).length + 2 + (itemT kv.2).length := by
      show ((keyT kv.1 ++ ": ") ++ itemT kv.2 : Str).length = _
      rw [strLen_append, strLen_append]
      rfl
    have k1 := key_len h1
    have k2 := item_len h2
    rw [List.map_cons, List.map_cons, List.sum_cons, List.length_cons, e]
    omega
theorem dkText_len {qs : List Addr} {H : Hp} {r : Str} {kvs : List (Key × V)} (h : ∀ kv ∈ kvs, KOk kv.1 ∧ VOk qs H kv.2) (hl : kvs.length ≤ 6) (hr : (reprText r).length ≤ 1000) : (dkText r kvs).length ≤ sizeLine := by
  have e1 := ent_sum kvs h
  have e2 := StrLaws.join_length_le ", " (kvs.map entT)
  have e3 : (dictText (kvs.map entT)).length = 1 + (Str.join ", " (kvs.map entT)).length + 1 := by
    unfold dictText
    rw [strLen_append, strLen_append]
    rfl
  have e4 : (dkText r kvs).length = (reprText r).length + (dictText (kvs.map entT)).length + 4 := by
    show ((("[" ++ ((if 0 > 0 then ", " else "" : String) : Str) ++ reprText r) ++ ((if 1 > 0 then ", " else "" : String) : Str) ++ dictText (kvs.map entT)) ++ "]" : Str).length = _
    rw [if_neg (by decide), if_pos (by decide)]
    simp only [strLen_append]
    have f1 : (("[" : String) : Str).length = 1 := by decide +kernel
    have f2 : (("" : String) : Str).length = 0 := by decide +kernel
    have f3 : ((", " : String) : Str).length = 2 := by decide +kernel
    have f4 : (("]" : String) : Str).length = 1 := by decide +kernel
    rw [f1, f2, f3, f4]
    omega
  have e5 : (", " : Str).length = 2 := by decide +kernel
  rw [e5, List.length_map] at e2
  have e6 : 100000 ≤ sizeLine := by decide
  rw [e4, e3]
  omega
theorem call_reprDk {X : Cx} (g0 : X.A.guards = some []) (hu : X.A.units + 64 < cLine) : CallR X (.builtin "repr") rReprDk := by
  intro pins s σ H xs us Q I rv h
  obtain ⟨p, r, a, qs, kvs, rfl, hp, ha, npq, naq, hr, hall, hsz, q⟩ := h
  obtain ⟨u, rfl, rx⟩ := vals1 rv
  obtain rfl : u = Value.ref p := rx
  have ends : ∀ h' t tk, (∀ b o, s.heap.get? b = some o → h'.get? b = some o) → EP X pins σ Q (.str (dkText r kvs) t) { s with heap := h', toks := tk } := fun h' t tk hk => ⟨.str _, H, I.kept hk, ⟨_, rfl⟩, q⟩
  obtain ⟨_, its, n, vl, hl⟩ := (show ObjOk X.prog X.w H s.heap p (.lst [.str r, .ref a]) from I.hok p _ hp)
  obtain ⟨_, hsys, vs, kv, o, es, ep, ho, hx, hd, _, hpair, _⟩ := dk_of I.hok ha
  match its, vl with
  | [u1, u2], .cons r1 (.cons r2 .nil) =>
  obtain ⟨t1, rfl⟩ := r1
  obtain rfl : u2 = Value.ref a := r2
  have ents : ∀ (kvs : List (Key × V)) (vs : List (Key × Value)) (l : List DictEntry), KV kvs vs → Pairs (mixKind X.prog X.w) l vs → (∀ kv ∈ kvs, KOk kv.1 ∧ VOk qs H kv.2) → ReprEntriesK X.prog X.w qs s.heap 1 l (kvs.map entT) := by
    intro kvs
    induction kvs with
    | nil =>
      intro vs l kv pr _
      match vs, kv, l, pr with
      | [], .nil, _, pr =>
        cases pr
        exact .nil
    | cons x kvs ih =>
      intro vs l kv pr hall
      match vs, kv, pr with
      | (k2, v2) :: vs, .cons ⟨ek, rv2⟩ kr, pr =>
        cases pr with
        | @cons en _ es2 _ hk hv hn =>
          obtain ⟨h1, h2⟩ := hall x List.mem_cons_self
          have ek2 : x.1 = k2 := ek
          have hk2 : keyIs x.1 en.key = true := by
            rw [ek2]
            exact hk
          refine .cons (k := keyT x.1) (v := itemT x.2) (key_repr hk2 h1) ?_ (ih vs es2 kr hn fun y hy => hall y (List.mem_cons_of_mem _ hy))
          rw [hv]
          exact item_repr I rv2 h2
  have dk : ReprK X.prog X.w (a :: qs) s.heap 2 (.ref a) (dictText (kvs.map entT)) := ReprK.dict ho hx.1 hd hsys naq (ents kvs vs es.toList kv hpair hall)
  have sk : ReprK X.prog X.w (a :: qs) s.heap 2 (.str r t1) (reprText r) := .of_is (ReprIs.str r t1 (Nat.le_trans hr (by decide))) _ _ _
  have npa : p ∉ a :: qs := by
    intro hm
    rcases List.mem_cons.mp hm with e | e
    · rw [e, ha] at hp
      cases hp
    · exact npq e
  refine call_repr_slot (T := "list") (by omega) ⟨_, hl, rfl⟩ F.slot_list_repr.toG ?_
  refine call_list_reprK (as := a :: qs) (d := 2) (ts := [reprText r, dictText (kvs.map entT)]) hl rfl rfl npa rfl (fun j y hy => ?_) (A := X.A.in1) g0 (fun b _ => Clear.nil b) (by show X.A.units + 1 + 3 < cLine; omega) (fun _ _ z => z) (fun h' t tk hk => ⟨_, _, rfl, ends h' t tk hk⟩) hsz
  match j, hy with
  | 0, hy =>
    cases hy
    exact ⟨_, rfl, sk⟩
  | 1, hy =>
    cases hy
    exact ⟨_, rfl, dk⟩
  | j + 2, hy => exact absurd hy (by simp)
end Mz
set_option Elab.async false
set_option linter.all false
set_option maxRecDepth 100000
set_option maxHeartbeats 4000000
/-! o[i], o an instance with an own __getitem__ that may raise -/
namespace Mz
open PySem PySem.Spec PyProof.Rows L2
def rSubO (C : Addr) (sp : Sp) (E : XK) : R2 := fun x y H Q => ∃ a dx fs, x = .ref a ∧ H a = some (.ins C dx fs) ∧ sp [.ref a, y] H Q E
theorem pe_subS {X : Cx} {CX : CXT} {k : Nat} {f C : Addr} {fd : FuncData} {ps : List Str} {sp : Sp} {E : L2.St → XK} {ea eb : Expr} {ta tb : TE} {pos : Pos} (F : FnOk X.prog X.w X.K X.mg X.base CX k f fd ps sp) (hr : Room (k + 1) X.A) (hb : Binds X.K fd ps [])
    (iG : PySem.W.findIn X.K (.ref C) "__getitem__" = some (some (.ref f))) (fG : PySem.W.fnIn X.K f = true) (jG : PySem.W.isFn X.K (.ref f) = true) (hx : ∀ σ, PassesAt CX X σ (E σ)) (ha : PE X ea ta) (hb2 : PE X eb tb)
    (hs : ∀ (x : Addr) (i : Value), subscripted eb true (.ref x) i = runValue (.builtin "lifetime.subscript" ⟨[.ref x, i], []⟩) := by intro _ _; rfl) :
    PE X (.Subscript ea eb pos) (fun σ H Q => ta σ H fun x H1 => tb σ H1 fun y H2 => rSubO C sp (E σ) x y H2 Q) := by
  refine ⟨fun pins s σ H Q I h => Subscript_ (binT (f := fun v u => subscriptTail ea eb v u) ha hb2 I h fun v u s2 x y H2 I2 rx ry q => ?_)⟩
  obtain ⟨a, dx, fs, rfl, hH, q⟩ := q
  obtain rfl : v = Value.ref a := rx
  obtain ⟨mA, O, _⟩ := ins_get I2.hok hH
  obtain ⟨od, J, _⟩ := O.look
  obtain ⟨m, hF⟩ := I2.fr
  exact PySem.W.sub_K hF I2.ok.mod.kin J iG fG jG (run_at (vs := [.ref a, y]) (us := [.ref a, u]) F hr.in1 I2.env0.in1 hb (fun e s3 z => hx σ pins H2 s2 e s3 I2 z) I2 (.cons rfl (.cons ry .nil)) q) (hs a u)
/-- o.m(e, ..), an own method that may raise; what it raises is wished for at the caller's slots -/
theorem pe_methSS {X : Cx} {CX : CXT} {k : Nat} {f C : Addr} {fd : FuncData} {ps : List Str} {sp : Sp} {E : L2.St → XK} {o e : Expr} {es : List Expr} {ta : TE} {t : TA} {m : Str} {apos pos : Pos} {pl : Sem Bool} (he : PE X o ta) (c : Cls X.K C) (hm : Meth X.K C m f) (F : FnOk X.prog X.w X.K X.mg X.base CX k f fd ps sp) (hr : Room k X.A)
    (hb : Binds X.K fd ps []) (hx : ∀ σ, PassesAt CX X σ (E σ)) (ha : PA X (e :: es) t) (hst : starEach (e :: es) X.env = (false, eval e X.env) :: starEach es X.env := by rfl) (hpl : (backTo pos (starEach es X.env)).any (·.1) = false := by rfl)
    (ht : eval (.Call (.Attribute o m apos) (e :: es) [] pos) X.env = (do
      let ov ← eval o X.env
      standAt apos.atName
      let (f, first) ← holding [ov] (getMethod ov m pl)
      callWith pos f first (backTo pos (starEach (e :: es) X.env)) (backToKw pos (keywordEach [] X.env))) := by rfl) :
    PE X (.Call (.Attribute o m apos) (e :: es) [] pos) (fun σ H Q => ta σ H fun x H1 => ∃ a dx fs, x = .ref a ∧ H1 a = some (.ins C dx fs) ∧ fs.lookup m = none ∧ t σ H1 fun vs H2 => sp (x :: vs) H2 Q (E σ)) := by
  refine ⟨fun pins s σ H Q I h => PySem.W.methodCall_KW (pl := pl) (thn (he.run pins s σ H _ I h) fun u s1 hv => ?_) ht⟩
  obtain ⟨x, H1, I1, rx, a, dx, fs, rfl, ea, l, q⟩ := hv
  obtain rfl : u = Value.ref a := rx
  refine getmeth_ok I1 ea c hm l (PySem.W.callWith_K (first := [.ref a]) (h₀ := X.base) I.ok.mod.kin hm.kp (thn (ha.run pos pins s1 σ H1 _ I1 q) fun us s2 hw => ?_) hst hpl)
  obtain ⟨vs, H2, I2, r, q2⟩ := hw
  exact ⟨I2.kIn, run_fnS (us := .ref a :: us) (vs := .ref a :: vs) F hr hb (hx σ) I2 (.cons rfl r) q2⟩
end Mz
set_option Elab.async false
set_option linter.all false
set_option maxRecDepth 100000
set_option maxHeartbeats 4000000
/-! + and - with an instance of an own class on one side, where the own def may raise -/
namespace Mz
open PySem PySem.Spec PyProof.Rows L2
section
variable {prog : Program} {w : World} {A : Around} {E : Value → Shared → Prop} {s : Shared} {K : PySem.W.Frag} {x C f : Addr} {ox : Obj} {od : Option Obj} {T : String} {op : Operator}
open PySem.W in
/-- the instance is on the left, on the right is a value of a built-in type -/
theorem bin1_type {b : Value} {fo ro rc : Option Value} {Q : Value → Shared → Prop} (X : K.In s.heap) (J : InstAt s.heap x ox C od) (hb : ∀ h : Heap, s.heap = h → Looks (model prog w) h (typeOf b) (.type T)) (first : selfFirst K C = true)
    (own : findIn K (.ref C) (PySem.dunder op.info.2) = some (some (.ref f))) (fn : isFn K (.ref f) = true) (back : findIn K (.ref C) (dunderR op.info.2) = some rc) (how : rc = none ∨ ∃ g : Addr, rc = some (.ref g))
    (t1 : findIn K (.type T) (PySem.dunder op.info.2) = some fo) (t2 : findIn K (.type T) (dunderR op.info.2) = some ro) (low : subIn K (.type T) (.ref C) = some false)
    (run : wpAny (model prog w) A (call (.ref f) [.ref x, b]) (PySem.W.CmpBack Q) E s) : wpAny (model prog w) A (binaryOp1 op.info.2 (.ref x) b) (fun r s2 => ∃ v, r = some v ∧ Q v s2) E s := by
  obtain ⟨cd, rest, hcd, hm⟩ := ksp_first first
  rcases hi : op.info with ⟨sym, nm⟩
  rw [hi] at own back t1 t2
  have tried := ksp_try X J own fn run
  obtain ⟨hp, gn, dp, tk, os⟩ := s
  have K1 : Looks (model prog w) hp (typeOf (.ref x)) (.ref C) := J.type
  have K2 : Looks (model prog w) hp (typeOf b) (.type T) := hb _ rfl
  have K3 : Looks (model prog w) hp (fillsNumberSlot (.ref C) nm) true := fills_K X hcd hm own
  have K4 := ksp_fillsT (M := model prog w) X t1 t2
  have K5 : Looks (model prog w) hp (isSubtype (.type T) (.ref C)) false := looks_subIn X low
  have K6 : Looks (model prog w) hp (numberSlotInPython (.ref C) nm) true := ksp_inPy X own back how
  have K7 : Looks (model prog w) hp (numberSlotInPython (.type T) nm) false := Looks.of_pure rfl
  have K8 : Looks (model prog w) hp (typeLookup (.type T) (dunderR nm)) ro := looks_findIn X t2
  have unlike : (Value.ref C == Value.type T) = false := by
    cases e : (Value.ref C == Value.type T) with
    | false => rfl
    | true => cases beq_iff_eq.mp e
  revert K4
  generalize ((fo.isSome && !isSeqSlot fo) || (ro.isSome && !isSeqSlot ro)) = fills
  intro K4
  have fin : ∀ r s2, (∃ v, r = some v ∧ Q v s2) → wpAny (model prog w) A (pure r) (fun r s3 => ∃ v, r = some v ∧ Q v s3) E s2 := fun r s2 h => wpAny_pure h
  show wpAny (model prog w) A (binaryOp1 nm (.ref x) b) _ E _
  unfold binaryOp1
  refine wpAny_bind (K1.at (wpAny_bind (K2.at (wpAny_bind (K3.at ?_)))))
  simp only [unlike, Bool.false_eq_true, if_false]
  cases fills
  all_goals
    ksp_lk
    refine wpAny_mono tried (fun r s2 hr => ?_) fun _ _ z => z
    obtain ⟨v, rfl, hq⟩ := hr
    ksp_lk
    exact ⟨v, rfl, hq⟩
open PySem.W in
theorem bin_of1 {a b : Value} {Q : Value → Shared → Prop} (h : wpAny (model prog w) A (binaryOp1 op.info.2 a b) (fun r s2 => ∃ v, r = some v ∧ Q v s2) E s) : wpAny (model prog w) A (binaryOp op a b) Q E s := by
  rcases hi : op.info with ⟨sym, nm⟩
  rw [hi] at h
  simp only [binaryOp, hi]
  refine wpAny_holding (wpAny_bind (wpAny_mono h (fun r s2 hr => ?_) fun _ _ z => z))
  obtain ⟨v, rfl, hq⟩ := hr
  exact wpAny_pure hq
/-- a class whose types ahead of object know no += : it goes as + -/
theorem inp_of1 {b : Value} {Q : Value → Shared → Prop} (X : K.In s.heap) (J : PySem.W.InstAt s.heap x ox C od) (hc : (PySem.W.clsIn K C).map (·.mro) = some [.ref C, .type "object"]) (n1 : PySem.W.findIn K (.ref C) (dunderI op.info.2) = some none) (n2 : PySem.W.findIn K (.type "object") (dunderI op.info.2) = some none)
    (h : wpAny (model prog w) A (binaryOp1 op.info.2 (.ref x) b) (fun r s2 => ∃ v, r = some v ∧ Q v s2) E s) : wpAny (model prog w) A (inplaceOp op (.ref x) b) Q E s := by
  obtain ⟨cd, hcd, hm⟩ := Option.map_eq_some_iff.mp hc
  have no : PySem.W.Looks (model prog w) s.heap (fillsInplaceSlot (.ref C) op.info.2 (op == .Add)) false := by
    intro A2 Q2 E2 s2 k q2
    have Lm : PySem.W.Looks (model prog w) s.heap (mroOf (.ref C)) cd.mro := (PySem.W.looks_clsIn X hcd).andThen (f := fun cd => pure cd.mro) .now
    have L1 : PySem.W.Looks (model prog w) s.heap (typeLookup (.ref C) (dunderI op.info.2)) none := PySem.W.looks_findIn X n1
    have L2' : PySem.W.Looks (model prog w) s.heap (typeLookup (.type "object") (dunderI op.info.2)) none := PySem.W.looks_findIn X n2
    have M1 := Lm.keeps k
    have M2 := L1.keeps k
    have M3 := L2'.keeps k
    obtain ⟨hp, gn, dp, tk, os⟩ := s2
    unfold fillsInplaceSlot
    refine wpAny_bind (M1.at ?_)
    rw [hm, List.anyM_cons]
    refine wpAny_bind (wpAny_bind (M2.at (wpAny_pure ?_)))
    rw [if_neg Bool.false_ne_true, List.anyM_cons]
    refine wpAny_bind (wpAny_bind (M3.at (wpAny_pure ?_)))
    exact wpAny_pure q2
  unfold inplaceOp
  refine wpAny_holding (wpAny_bind (J.type.here (wpAny_bind (no.here ?_))))
  simp only [Bool.false_eq_true, if_false]
  refine wpAny_bind (wpAny_mono h (fun r s2 hr => ?_) fun _ _ z => z)
  obtain ⟨v, rfl, hq⟩ := hr
  exact wpAny_pure hq
open PySem.W in
/-- both sides are of the class -/
theorem bin_own {b : Value} {Q : Value → Shared → Prop} (X : K.In s.heap) (J : InstAt s.heap x ox C od) (hb : ∀ h : Heap, s.heap = h → Looks (model prog w) h (typeOf b) (.ref C)) (first : selfFirst K C = true)
    (own : findIn K (.ref C) (PySem.dunder op.info.2) = some (some (.ref f))) (fn : isFn K (.ref f) = true)
    (run : wpAny (model prog w) A (call (.ref f) [.ref x, b]) (PySem.W.CmpBack Q) E s) : wpAny (model prog w) A (binaryOp op (.ref x) b) Q E s := by
  obtain ⟨cd, rest, hcd, hm⟩ := ksp_first first
  rcases hi : op.info with ⟨sym, nm⟩
  rw [hi] at own
  have tried := ksp_try X J own fn run
  obtain ⟨hp, gn, dp, tk, os⟩ := s
  have K1 : Looks (model prog w) hp (typeOf (.ref x)) (.ref C) := J.type
  have K2 : Looks (model prog w) hp (typeOf b) (.ref C) := hb _ rfl
  have K3 : Looks (model prog w) hp (fillsNumberSlot (.ref C) nm) true := fills_K X hcd hm own
  have like : (Value.ref C == Value.ref C) = true := beq_self_eq_true _
  simp only [binaryOp, hi]
  refine wpAny_holding (wpAny_bind ?_)
  unfold binaryOp1
  refine wpAny_bind (K1.at (wpAny_bind (K2.at (wpAny_bind (K3.at ?_)))))
  simp only [like, if_true]
  ksp_lk
  refine wpAny_mono tried (fun r s2 hr => ?_) fun _ _ z => z
  obtain ⟨v, rfl, hq⟩ := hr
  ksp_lk
  exact hq
/-- int.__add__ declines what is an instance -/
theorem add_declines {b : Value} {dx : Addr} {Q : Value → Shared → Prop} (hx : s.heap.get? x = some (PySem.W.instObj C dx)) (hb : (∃ i t, b = .int i t) ∨ ∃ y, b = .bool y) (q : Q .notImplemented s) :
    wpAny (model prog w) A (call (.builtin "int.__add__") [b, .ref x]) Q E s := by
  have body : ∀ (A2 : Around) (E2 : Value → Shared → Prop) (Q2 : Fin → Shared → Prop), Q2 (.done (.ret .notImplemented)) s → wpAny (model prog w) A2 (Builtin.«int.__add__» ⟨[b, .ref x], []⟩) Q2 E2 s := by
    intro A2 E2 Q2 q2
    obtain ⟨hp, gn, dp, tk, os⟩ := s
    rcases hb with ⟨i, t, rfl⟩ | ⟨y, rfl⟩
    all_goals
      unfold Builtin.«int.__add__» Builtin.Int.intBinary
      refine wpAny_bind (m := slotArgs "__add__" 1 _) (wpAny_pure ?_)
      refine wpAny_bind (wpAny_pure ?_)
      refine wpAny_bind ?_
      show wpAny _ _ (asInt? (.ref x)) _ _ _
      unfold asInt?
      refine wpAny_bind (wpAny_load hx ?_)
      refine wpAny_pure ?_
      exact wpAny_bind (wpAny_rule (wpAny_pure q2))
  rcases hb with ⟨i, t, rfl⟩ | ⟨y, rfl⟩
  · exact wpAny_call (codeAny_call_builtin F.slot_int_add.plain F.entry_int_add (F.slot_int_add.check _ _ _ _ _ _ _ _ (typeIs_int s i t) (F.args_int_add_2 _ _) (body _ _ _ q)))
  · exact wpAny_call (codeAny_call_builtin F.slot_bool_add.plain F.entry_int_add (F.slot_bool_add.check _ _ _ _ _ _ _ _ rfl (F.args_int_add_2 _ _) (body _ _ _ q)))
open PySem.W in
/-- an int or a bool on the left, which declines, the instance on the right -/
theorem add_back {b : Value} {dx : Addr} {Q : Value → Shared → Prop} (X : K.In s.heap) (J : InstAt s.heap x ox C od) (hx : s.heap.get? x = some (PySem.W.instObj C dx)) (first : selfFirst K C = true) (own : findIn K (.ref C) (PySem.dunder "add") = some (some (.ref f))) {g : Addr} (back : findIn K (.ref C) (dunderR "add") = some (some (.ref g)))
    (fn : isFn K (.ref g) = true) (lo1 : subIn K (.ref C) (.type "int") = some false) (lo2 : subIn K (.ref C) (.type "bool") = some false) (hb : (∃ i t, b = .int i t) ∨ ∃ y, b = .bool y)
    (run : wpAny (model prog w) A (call (.ref g) [.ref x, b]) (PySem.W.CmpBack Q) E s) : wpAny (model prog w) A (binaryOp .Add b (.ref x)) Q E s := by
  obtain ⟨cd, rest, hcd, hm⟩ := ksp_first first
  have tried := ksp_try X J back fn run
  have no : ∀ {Q2 : Option Value → Shared → Prop}, Q2 none s → wpAny (model prog w) A (tryMethod b (PySem.dunder "add") (.ref x)) Q2 E s := by
    intro Q2 q
    have dec : wpAny (model prog w) A (call (.builtin "int.__add__") [b, .ref x]) (fun v s2 => v = .notImplemented ∧ Q2 none s2) E s := add_declines hx hb ⟨rfl, q⟩
    rcases id hb with ⟨i, t, e⟩ | ⟨y, e⟩
    · have ty : s.TypeIs b "int" := by
        rw [e]
        exact typeIs_int s i t
      exact wpAny_tryMethod_declines ty F.slot_int_add dec
    · have ty : s.TypeIs b "bool" := by
        rw [e]
        exact rfl
      exact wpAny_tryMethod_declines ty F.slot_bool_add dec
  have main : ∀ T : String, typeOf b = pure (.type T) → fillsNumberSlot (.type T) "add" = pure true → subIn K (.ref C) (.type T) = some false → wpAny (model prog w) A (binaryOp .Add b (.ref x)) Q E s := by
    intro T hty hf hlow
    have no2 := @no
    revert tried no2
    obtain ⟨hp, gn, dp, tk, os⟩ := s
    intro tried no2
    have K1 : Looks (model prog w) hp (typeOf b) (.type T) := Looks.of_pure hty
    have K2 : Looks (model prog w) hp (typeOf (.ref x)) (.ref C) := J.type
    have K3 : Looks (model prog w) hp (fillsNumberSlot (.type T) "add") true := Looks.of_pure hf
    have K4 : Looks (model prog w) hp (fillsNumberSlot (.ref C) "add") true := fills_K X hcd hm own
    have K5 : Looks (model prog w) hp (isSubtype (.ref C) (.type T)) false := looks_subIn X hlow
    have K6 : Looks (model prog w) hp (numberSlotInPython (.type T) "add") false := Looks.of_pure rfl
    have unlike : (Value.type T == Value.ref C) = false := by
      cases e : (Value.type T == Value.ref C) with
      | false => rfl
      | true => cases beq_iff_eq.mp e
    simp only [binaryOp, Operator.info]
    refine wpAny_holding (wpAny_bind ?_)
    unfold binaryOp1
    refine wpAny_bind (K1.at (wpAny_bind (K2.at (wpAny_bind (K3.at ?_)))))
    simp only [unlike, Bool.false_eq_true, if_false]
    ksp_lk
    refine no2 ?_
    ksp_lk
    refine wpAny_mono tried (fun r s2 hr => ?_) fun _ _ z => z
    obtain ⟨v, rfl, hq⟩ := hr
    ksp_lk
    exact hq
  rcases id hb with ⟨i, t, rfl⟩ | ⟨y, rfl⟩
  · exact main "int" rfl F.fills_int_add lo1
  · exact main "bool" rfl F.fills_bool_add lo2
end
/-! the rules -/
theorem back_of {X : Cx} {pins : List (Addr × Obj)} {σ : L2.St} {Q : VK} {u : Value} {s : Shared} (h : EP X pins σ Q u s) : PySem.W.CmpBack (EP X pins σ Q) u s := by
  cases u
  case notImplemented =>
    obtain ⟨v, H, I, r, q⟩ := h
    exfalso
    cases v <;> first | exact nomatch r | (obtain ⟨_, e⟩ := r; cases e)
  all_goals exact h
/-- what the class says of a operator's def on its left -/
structure Lty (K : PySem.W.Frag) (C : Addr) (op : Operator) (f : Addr) : Prop where
  first : PySem.W.selfFirst K C = true
  own : PySem.W.findIn K (.ref C) (PySem.dunder op.info.2) = some (some (.ref f))
  fn : PySem.W.isFn K (.ref f) = true
  back : ∃ rc, PySem.W.findIn K (.ref C) (dunderR op.info.2) = some rc ∧ (rc = none ∨ ∃ g : Addr, rc = some (.ref g))
/-- what a built-in type on the right says -/
structure Rty (K : PySem.W.Frag) (C : Addr) (op : Operator) (T : String) : Prop where
  io : ∃ fo, PySem.W.findIn K (.type T) (PySem.dunder op.info.2) = some fo
  ir : ∃ ro, PySem.W.findIn K (.type T) (dunderR op.info.2) = some ro
  sub : PySem.W.subIn K (.type T) (.ref C) = some false
def rLeft (K : PySem.W.Frag) (C : Addr) (op : Operator) (sp : Sp) (E : XK) : R2 := fun x y H Q => ∃ a dx fs, x = .ref a ∧ H a = some (.ins C dx fs) ∧ ((∃ T, TyX K H y (.type T) ∧ Rty K C op T) ∨ TyX K H y (.ref C)) ∧ sp [.ref a, y] H Q E
section
variable {X : Cx} {CX : CXT} {k : Nat} {f C : Addr} {fd : FuncData} {ps : List Str} {sp : Sp} {op : Operator} {E : L2.St → XK} {ea eb : Expr} {ta tb : TE} {pos : Pos}
theorem op_leftS (F : FnOk X.prog X.w X.K X.mg X.base CX k f fd ps sp) (hr : Room k X.A) (hb : Binds X.K fd ps []) (T : Lty X.K C op f) (hx : ∀ σ, PassesAt CX X σ (E σ)) (pins : List (Addr × Obj)) (s : Shared) (σ : L2.St) (H : Hp) (x y : V) (v u : Value) (Q : VK) (I : Inv X pins σ H s) (rx : RelV x v) (ry : RelV y u)
    (h : rLeft X.K C op sp (E σ) x y H Q) : wpAny (model X.prog X.w) X.A (binaryOp op v u) (EP X pins σ Q) X.xe s := by
  obtain ⟨a, dx, fs, rfl, ha, hy, q⟩ := h
  obtain rfl : v = Value.ref a := rx
  obtain ⟨mA, O, _⟩ := ins_get I.hok ha
  obtain ⟨od, J, _⟩ := O.look
  have run : wpAny (model X.prog X.w) X.A (call (.ref f) [.ref a, u]) (PySem.W.CmpBack (EP X pins σ Q)) X.xe s := wpAny_mono (run_fnS (vs := [.ref a, y]) (us := [.ref a, u]) F hr hb (hx σ) I (.cons rfl (.cons ry .nil)) q) (fun _ _ z => back_of z) fun _ _ z => z
  rcases hy with ⟨T2, ty, R⟩ | ty
  · obtain ⟨P, Z, hp, _⟩ := kit_of I ry ty
    obtain ⟨rc, b1, b2⟩ := T.back
    obtain ⟨fo, c1⟩ := R.io
    obtain ⟨ro, c2⟩ := R.ir
    exact bin_of1 (bin1_type I.kIn J (fun h e => by rw [← e]; exact Z.ty _ _ I.kIn hp) T.first T.own T.fn b1 b2 c1 c2 R.sub run)
  · obtain ⟨P, Z, hp, _⟩ := kit_of I ry ty
    exact bin_own I.kIn J (fun h e => by rw [← e]; exact Z.ty _ _ I.kIn hp) T.first T.own T.fn run
theorem pe_leftS {K : PySem.W.Frag} (F : FnOk X.prog X.w X.K X.mg X.base CX k f fd ps sp) (hr : Room k X.A) (hb : Binds X.K fd ps []) (T : Lty K C op f) (hx : ∀ σ, PassesAt CX X σ (E σ)) (ha : PE X ea ta) (hb2 : PE X eb tb) (hK : X.K = K := by rfl) :
    PE X (.BinOp ea op eb pos) (fun σ H Q => ta σ H fun x H1 => tb σ H1 fun y H2 => rLeft K C op sp (E σ) x y H2 Q) := by
  subst hK
  exact ⟨fun pins s σ H Q I h => wpAny_BinOp (binT ha hb2 I h fun v u s2 x y H2 I2 rx ry q => op_leftS F hr hb T hx pins s2 σ H2 x y v u Q I2 rx ry q)⟩
/-- += at a name that holds an instance -/
theorem pip_left (F : FnOk X.prog X.w X.K X.mg X.base CX k f fd ps sp) (hr : Room k X.A) (hb : Binds X.K fd ps []) (T : Lty X.K C op f) (R : Rty X.K C op "int") (hc : (PySem.W.clsIn X.K C).map (·.mro) = some [.ref C, .type "object"]) (n1 : PySem.W.findIn X.K (.ref C) (dunderI op.info.2) = some none) (n2 : PySem.W.findIn X.K (.type "object") (dunderI op.info.2) = some none)
    (hx : ∀ σ, PassesAt CX X σ E0) : InOp X op (fun x y H Q => ∃ a dx fs i, x = .ref a ∧ y = .int i ∧ H a = some (.ins C dx fs) ∧ sp [.ref a, y] H Q E0) := by
  intro pins s σ H x y v u Q I rx ry h
  obtain ⟨a, dx, fs, i, rfl, rfl, ha, q⟩ := h
  obtain rfl : v = Value.ref a := rx
  obtain ⟨mA, O, _⟩ := ins_get I.hok ha
  obtain ⟨od, J, _⟩ := O.look
  have run : wpAny (model X.prog X.w) X.A (call (.ref f) [.ref a, u]) (PySem.W.CmpBack (EP X pins σ Q)) X.xe s := wpAny_mono (run_fnS (E := fun _ => E0) (vs := [.ref a, .int i]) (us := [.ref a, u]) F hr hb (hx σ) I (.cons rfl (.cons ry .nil)) q) (fun _ _ z => back_of z) fun _ _ z => z
  obtain ⟨P, Z, hp, _⟩ := kit_of I ry (.base (.int i))
  obtain ⟨rc, b1, b2⟩ := T.back
  obtain ⟨fo, c1⟩ := R.io
  obtain ⟨ro, c2⟩ := R.ir
  exact inp_of1 I.kIn J hc n1 n2 (bin1_type I.kIn J (fun h e => by rw [← e]; exact Z.ty _ _ I.kIn hp) T.first T.own T.fn b1 b2 c1 c2 R.sub run)
def rBack (C : Addr) (sp : Sp) (E : XK) : R2 := fun x y H Q => ∃ a dx fs, y = .ref a ∧ H a = some (.ins C dx fs) ∧ ((∃ i, x = .int i) ∨ ∃ b, x = .bl b) ∧ sp [.ref a, x] H Q E
/-- int + instance -/
theorem pe_backS {fA : Addr} (F : FnOk X.prog X.w X.K X.mg X.base CX k f fd ps sp) (hr : Room k X.A) (hb : Binds X.K fd ps []) (first : PySem.W.selfFirst X.K C = true) (own : PySem.W.findIn X.K (.ref C) (PySem.dunder "add") = some (some (.ref fA))) (back : PySem.W.findIn X.K (.ref C) (dunderR "add") = some (some (.ref f))) (fn : PySem.W.isFn X.K (.ref f) = true)
    (lo1 : PySem.W.subIn X.K (.ref C) (.type "int") = some false) (lo2 : PySem.W.subIn X.K (.ref C) (.type "bool") = some false) (hx : ∀ σ, PassesAt CX X σ (E σ)) (ha : PE X ea ta) (hb2 : PE X eb tb) :
    PE X (.BinOp ea .Add eb pos) (fun σ H Q => ta σ H fun x H1 => tb σ H1 fun y H2 => rBack C sp (E σ) x y H2 Q) := by
  refine ⟨fun pins s σ H Q I h => wpAny_BinOp (binT ha hb2 I h fun v u s2 x y H2 I2 rx ry q => ?_)⟩
  obtain ⟨a, dx, fs, rfl, hH, hx2, q⟩ := q
  obtain rfl : u = Value.ref a := ry
  obtain ⟨mA, O, _⟩ := ins_get I2.hok hH
  obtain ⟨od, J, _⟩ := O.look
  have run : wpAny (model X.prog X.w) X.A (call (.ref f) [.ref a, v]) (PySem.W.CmpBack (EP X pins σ Q)) X.xe s2 := wpAny_mono (run_fnS (vs := [.ref a, x]) (us := [.ref a, v]) F hr hb (hx σ) I2 (.cons rfl (.cons rx .nil)) q) (fun _ _ z => back_of z) fun _ _ z => z
  refine add_back I2.kIn J O.1 first own back fn lo1 lo2 ?_ run
  rcases hx2 with ⟨i, rfl⟩ | ⟨b, rfl⟩
  · obtain ⟨t, rfl⟩ := rx
    exact .inl ⟨i, t, rfl⟩
  · exact .inr ⟨b, rx⟩
/-- a call that raises nothing here -/
theorem pass_no {σ : L2.St} : PassesAt (L2.CX X.prog X.w) X σ E0 := by
  intro pins H s e s2 I c
  obtain ⟨_, _, _, _, _, _, _, _, _, _, _, _, z⟩ := c
  exact z.elim
end
end Mz
set_option Elab.async false
set_option linter.all false
set_option maxRecDepth 100000
set_option maxHeartbeats 4000000
/-! what an own class says of in -/
namespace Mz
open PySem PySem.Spec PyProof.Rows L2
section
variable {X : Cx} {k : Nat} {f C : Addr} {fd : FuncData} {ps : List Str} {sp : Sp}
theorem op_inO (F : FnOk X.prog X.w X.K X.mg X.base CX0 k f fd ps sp) (hr : Room k X.A) (hb : Binds X.K fd ps []) (hs : PySem.W.findIn X.K (.ref C) "__contains__" = some (some (.ref f))) (hf : PySem.W.isFn X.K (.ref f) = true) :
    OpR X (compareOp .In) (fun x y H Q => ∃ a dx fs, y = .ref a ∧ H a = some (.ins C dx fs) ∧ sp [.ref a, x] H (fun v H2 => ∃ b : Bool, v = .bl b ∧ Q (.bl b) H2) E0) := by
  intro pins s σ H x y v u Q I rx ry h
  obtain ⟨a, dx, fs, rfl, ha, q⟩ := h
  obtain rfl : u = Value.ref a := ry
  obtain ⟨mA, O, _⟩ := ins_get I.hok ha
  obtain ⟨od, J, _⟩ := O.look
  obtain ⟨m, hF⟩ := I.fr
  refine PySem.W.in_K hF I.ok.mod.kin J hs hf (wpAny_mono (run_at (E := E0) (vs := [.ref a, x]) (us := [.ref a, v]) F hr I.env0 hb (fun _ _ z => z.elim) I (.cons rfl (.cons rx .nil)) q) (fun r s2 hv => ?_) fun _ _ z => z)
  obtain ⟨v, H2, I2, rv, b, rfl, q2⟩ := hv
  obtain rfl : r = Value.bool b := rv
  exact wpAny_truthy_bool ⟨.bl b, H2, I2, rfl, q2⟩
end
end Mz
set_option Elab.async false
set_option linter.all false
set_option maxRecDepth 100000
set_option maxHeartbeats 4000000
/-! == and != of two tuples (dict, int), == of two dicts of ints: whichever way it goes -/
namespace Mz
open PySem PySem.Spec PyProof.Rows L2
open PySem.SeqAt (EqIn)
open PySem.AutoSeq1 (wpAny_loadPart')
section
variable {prog : Program} {w : World}
theorem tup2_ne (l b : Addr) (u1 u2 w1 w2 : Value) (n n2 : Nat) (dd dd2 : Option Addr) (sl sl2 : Array (Option Value)) (e1 e2 : Bool) :
    MeetsIn prog w (Builtin.«tuple.__ne__» ⟨[.ref l, .ref b], []⟩)
      (fun A R s => s.heap.get? l = some { cls := .type "tuple", dict := dd, data := .seq #[u1, u2] n, slots := sl } ∧ s.heap.get? b = some { cls := .type "tuple", dict := dd2, data := .seq #[w1, w2] n2, slots := sl2 } ∧
        EqIn prog w A.in1 s u1 w1 e1 ∧ EqIn prog w A.in1 s u2 w2 e2 ∧ R (.ok (.ret (.bool (!(e1 && e2))))) s) :=
  .of_wp fun A R s h => by
    obtain ⟨hp, g, d, tk, os⟩ := s
    obtain ⟨hl, hb, h1, h2, h⟩ := h
    have f2 := AutoSeq1.sub_tuple_tuple
    have k1 : ∀ (E : Value → Shared → Prop) (Q : Bool → Shared → Prop), Q e1 ⟨hp, g, d, tk, os⟩ → wpAny (model prog w) A.in1 (eqBool u1 w1) Q E ⟨hp, g, d, tk, os⟩ := h1
    have k2 : ∀ (E : Value → Shared → Prop) (Q : Bool → Shared → Prop), Q e2 ⟨hp, g, d, tk, os⟩ → wpAny (model prog w) A.in1 (eqBool u2 w2) Q E ⟨hp, g, d, tk, os⟩ := h2
    cases e1 with
    | false =>
      wp_walk using wpAny_loadPart' hl, wpAny_loadPart' hb, k1 _ _
      exact ⟨_, rfl, h⟩
    | true =>
      cases e2 with
      | false =>
        wp_walk using wpAny_loadPart' hl, wpAny_loadPart' hb, k1 _ _, k2 _ _
        exact ⟨_, rfl, h⟩
      | true =>
        wp_walk using wpAny_loadPart' hl, wpAny_loadPart' hb, k1 _ _, k2 _ _
        exact ⟨_, rfl, h⟩
end
/-- the dicts hold the same -/
def eqDV (ks ls : List (Key × V)) : Bool := (ks.length == ls.length) && ks.all fun p => decide (valV ls p.1 = some p.2)
def AllI (ks : List (Key × V)) : Prop := ∀ p ∈ ks, ∃ n, p.2 = V.int n
theorem valV_mem {ks : List (Key × V)} {k : Key} {v : V} (h : valV ks k = some v) : ∃ p ∈ ks, p.1 = k ∧ p.2 = v := by
  unfold valV at h
  cases e : ks.find? fun kv => decide (kv.1 = k) with
  | none =>
    rw [e] at h
    cases h
  | some p =>
    rw [e] at h
    exact ⟨p, List.mem_of_find?_eq_some e, of_decide_eq_true (by simpa using List.find?_some e), Option.some.inj h⟩
theorem valV_self : ∀ {ks : List (Key × V)}, (ks.map (·.1)).Nodup → ∀ p ∈ ks, valV ks p.1 = some p.2
  | q :: r, nd, p, hp => by
    rw [List.map_cons, List.nodup_cons] at nd
    rcases List.mem_cons.mp hp with rfl | hp
    · exact valV_pos rfl
    · rw [valV_neg fun e => nd.1 (by rw [e]; exact List.mem_map_of_mem hp)]
      exact valV_self nd.2 p hp
theorem eqDV_self {ks : List (Key × V)} (nd : (ks.map (·.1)).Nodup) : eqDV ks ks = true := by
  unfold eqDV
  rw [beq_self_eq_true, Bool.true_and, List.all_eq_true]
  exact fun p hp => decide_eq_true (valV_self nd p hp)
section
variable {X : Cx} {pins : List (Addr × Obj)} {σ : L2.St} {H : Hp} {s : Shared}
theorem hits_ints {prog : Program} {w : World} {A : Around} {ls : List (Key × V)} {vb : List (Key × Value)} (rb : KV ls vb) (il : AllI ls) {ks : List (Key × V)} {va : List (Key × Value)} (ra : KV ks va) :
    AllI ks → PySem.W.KeqHitsIn prog w A s vb va (ks.all fun p => decide (valV ls p.1 = some p.2)) := by
  unfold KV at ra
  induction ra with
  | nil => exact fun _ => .nil
  | @cons p q ps qs h t ih =>
    intro hi
    obtain ⟨h1, h2⟩ := h
    obtain ⟨key, v⟩ := q
    have hk : p.1 = key := h1
    obtain ⟨n, en⟩ := hi p List.mem_cons_self
    have h2 : RelV p.2 v := h2
    rw [en] at h2
    obtain ⟨t1, rfl⟩ := h2
    have rr := rb.val p.1
    rw [List.all_cons]
    cases e : valV ls p.1 with
    | none =>
      rw [e] at rr
      rw [decide_eq_false (fun x => nomatch x), Bool.false_and]
      refine .miss ?_
      rw [← hk]
      cases x : valueAt vb p.1 with
      | none => rfl
      | some y =>
        rw [x] at rr
        exact absurd rr (fun z => nomatch z)
    | some u =>
      rw [e] at rr
      obtain ⟨y, hy, ry⟩ := RelO.some_of rr
      obtain ⟨m, em⟩ : ∃ m, u = .int m := by
        obtain ⟨q, hq, _, e2⟩ := valV_mem e
        obtain ⟨m, em⟩ := il q hq
        exact ⟨m, by rw [← e2, em]⟩
      subst em
      obtain ⟨t2, rfl⟩ := ry
      have hd : decide (some (V.int m) = some p.2) = (n == m) := by
        rw [en]
        by_cases x : m = n
        · rw [x]
          simp
        · rw [decide_eq_false (fun z => x (V.int.inj (Option.some.inj z)))]
          exact (beq_false_of_ne fun z => x z.symm).symm
      rw [hd]
      exact .hit (by rw [← hk]; exact hy) ((SeqAt.EqAt.int_int _ _ _ _).inModel prog w) (ih fun z hz => hi z (List.mem_cons_of_mem _ hz))
theorem dict_eqIn (I : Inv X pins σ H s) {A : Around} (hu : A.units + 1 < cLine) {a b : Addr} {ks ls : List (Key × V)} (ea : H a = some (.dK ks)) (eb : H b = some (.dK ls)) (ia : AllI ks) (ib : AllI ls) (nd : (ks.map (·.1)).Nodup) :
    EqIn X.prog X.w A s (.ref a) (.ref b) (eqDV ks ls) := by
  by_cases x : a = b
  · subst x
    rw [ea] at eb
    cases eb
    rw [eqDV_self nd]
    exact (SeqAt.EqAt.same _).inModel _ _
  · obtain ⟨_, ya, va, ra, da⟩ := (show ObjOk X.prog X.w H s.heap a (.dK ks) from I.hok a _ ea)
    obtain ⟨_, yb, vb, rb, db⟩ := (show ObjOk X.prog X.w H s.heap b (.dK ls) from I.hok b _ eb)
    refine SeqAt.EqIn.of_refs x fun E Q hq => PySem.W.keq_eqIn (knd := mixKind X.prog X.w) ya yb da db (by omega) (fun _ => hits_ints rb ib ra ia) ?_
    unfold eqDV at hq
    rw [ra.length, rb.length] at hq
    exact hq
def rEqDI : R2 := fun x y H Q => ∃ a b ks ls, x = .ref a ∧ y = .ref b ∧ H a = some (.dK ks) ∧ H b = some (.dK ls) ∧ AllI ks ∧ AllI ls ∧ Q (.bl (eqDV ks ls)) H
theorem op_eqDI (hu : X.A.units + 1 < cLine) : OpR X (compareOp .Eq) rEqDI := by
  intro pins s σ H x y v u Q I rx ry h
  obtain ⟨a, b, ks, ls, rfl, rfl, ea, eb, ia, ib, q⟩ := h
  obtain rfl : v = Value.ref a := rx
  obtain rfl : u = Value.ref b := ry
  obtain ⟨_, ya, va, ra, da⟩ := (show ObjOk X.prog X.w H s.heap a (.dK ks) from I.hok a _ ea)
  obtain ⟨_, yb, vb, rb, db⟩ := (show ObjOk X.prog X.w H s.heap b (.dK ls) from I.hok b _ eb)
  refine PySem.W.keq_eqIn (knd := mixKind X.prog X.w) ya yb da db (by omega) (fun _ => hits_ints rb ib ra ia) ⟨.bl (eqDV ks ls), H, I, ?_, q⟩
  show Value.bool _ = Value.bool _
  unfold eqDV
  rw [ra.length, rb.length]
def rTD (f : Bool → Bool) : R2 := fun x y H Q => ∃ a b d e ks ls i j, x = .ref a ∧ y = .ref b ∧ H a = some (.tup [.ref d, .int i]) ∧ H b = some (.tup [.ref e, .int j]) ∧ H d = some (.dK ks) ∧ H e = some (.dK ls) ∧ AllI ks ∧ AllI ls ∧ (ks.map (·.1)).Nodup ∧ Q (.bl (f (eqDV ks ls && decide (i = j)))) H
theorem int_deq {i j : Int} : (i == j) = decide (i = j) := rfl
theorem op_eqTD (hu : X.A.units + 64 < cLine) : OpR X (compareOp .Eq) (rTD fun b => b) := by
  intro pins s σ H x y v u Q I rx ry h
  obtain ⟨a, b, d, e, ks, ls, i, j, rfl, rfl, ha, hb, hd, he, ia, ib, nd, q⟩ := h
  obtain rfl : v = Value.ref a := rx
  obtain rfl : u = Value.ref b := ry
  obtain ⟨us, r1, p1, _⟩ := I.tuple (SqT.of ha)
  obtain ⟨ws, r2, p2, _⟩ := I.tuple (SqT.of hb)
  obtain ⟨x1, x2, rfl, e1, ⟨t1, rfl⟩⟩ := vals2 r1
  obtain ⟨y1, y2, rfl, e2, ⟨t2, rfl⟩⟩ := vals2 r2
  obtain rfl : x1 = Value.ref d := e1
  obtain rfl : y1 = Value.ref e := e2
  refine SeqAt.rcIn_tuples (e := fun n => if n = 0 then eqDV ks ls else (i == j)) p1 p2 (by omega) (fun n h1 h2 => ?_) ⟨.bl (eqDV ks ls && decide (i = j)), H, I, ?_, q⟩
  · match n, h1, h2 with
    | 0, _, _ => exact dict_eqIn I (by show X.A.units + 1 + 1 < cLine; omega) hd he ia ib nd
    | 1, _, _ => exact (SeqAt.EqAt.int_int _ _ _ _).inModel _ _
    | n + 2, h1, _ => exact absurd h1 (by simp)
  · show Value.bool _ = Value.bool _
    simp [List.range_succ]
    rfl
theorem op_neTD (hu : X.A.units + 64 < cLine) : OpR X (compareOp .NotEq) (rTD fun b => !b) := by
  intro pins s σ H x y v u Q I rx ry h
  obtain ⟨a, b, d, e, ks, ls, i, j, rfl, rfl, ha, hb, hd, he, ia, ib, nd, q⟩ := h
  obtain rfl : v = Value.ref a := rx
  obtain rfl : u = Value.ref b := ry
  obtain ⟨us, r1, p1, _⟩ := I.tuple (SqT.of ha)
  obtain ⟨ws, r2, p2, _⟩ := I.tuple (SqT.of hb)
  obtain ⟨x1, x2, rfl, e1, ⟨t1, rfl⟩⟩ := vals2 r1
  obtain ⟨y1, y2, rfl, e2, ⟨t2, rfl⟩⟩ := vals2 r2
  obtain rfl : x1 = Value.ref d := e1
  obtain rfl : y1 = Value.ref e := e2
  obtain ⟨⟨cls, dd, data, sl⟩, ho, hc, n, hdt⟩ := id p1
  obtain ⟨⟨cls2, dd2, data2, sl2⟩, ho2, hc2, n2, hdt2⟩ := id p2
  simp only at hc hdt hc2 hdt2
  subst hc hdt hc2 hdt2
  refine PySem.W.cmp_ofNotEq (wpAny_richCompare_same_room (T := "tuple") (op := .NotEq) ⟨_, ho, rfl⟩ ⟨_, ho2, rfl⟩ F.slot_tuple_ne (call_meetsIn F.slot_tuple_ne ⟨_, ho, rfl⟩ F.entry_tuple_ne (F.args_tuple_ne_2 _ _) (tup2_ne a b _ _ _ _ n n2 dd dd2 sl sl2 (eqDV ks ls) (i == j))
    ⟨ho, ho2, dict_eqIn I (by show X.A.units + 1 + 1 < cLine; omega) hd he ia ib nd, (SeqAt.EqAt.int_int _ _ _ _).inModel _ _, (show Value.bool _ ≠ Value.notImplemented ∧ _ from ⟨(fun x => nomatch x), .bl (!(eqDV ks ls && decide (i = j))), H, I, rfl, q⟩)⟩) (by omega))
end
end Mz
set_option Elab.async false
set_option linter.all false
set_option maxRecDepth 100000
set_option maxHeartbeats 4000000
namespace Mz
open PySem L2
/-! the text by places -/
def top (i : Nat) : Stmt := PySem.Challenge.pw_mapsizes_k06_settings_told.main.body.getD i (.Pass ⟨0, 0, 0, 0⟩)
abbrev sMapError : Stmt := top 1
abbrev sInvInt : Stmt := top 2
abbrev sInvPlace : Stmt := top 4
abbrev sInvSet : Stmt := top 5
abbrev sWhole : Stmt := top 13
abbrev sIsInt : Stmt := top 14
abbrev sIsFrom : Stmt := top 15
abbrev sIsName : Stmt := top 16
abbrev sLeast : Stmt := top 17
abbrev sParts : Stmt := top 18
abbrev sPlace : Stmt := top 19
abbrev sAreSizes : Stmt := top 23
abbrev sSetting : Stmt := top 24
abbrev sCell : Stmt := top 26
abbrev sBox : Stmt := top 27
abbrev sTake : Stmt := top 28
abbrev sPair6 : Stmt := top 29
abbrev sTold6 : Stmt := top 30
abbrev sRoots6 : Stmt := top 31
abbrev sSize6 : Stmt := top 32
abbrev sWorth6 : Stmt := top 33
abbrev sInRight : Stmt := top 34
abbrev sEqRight : Stmt := top 35
abbrev sLaw : Stmt := top 36
end Mz
set_option Elab.async false
set_option linter.all false
set_option maxRecDepth 100000
set_option maxHeartbeats 4000000
/-! the draws: a cell of the script, its box, a digit out of the box -/
namespace Mz
open PySem PySem.Spec PyProof.Rows L2
/-- all that was tracked, but what stands at b, stands as it stood -/
def Kp (b : Addr) (H H' : Hp) : Prop := ∀ p o, p ≠ b → H p = some o → H' p = some o
theorem Kp.refl {b : Addr} {H : Hp} : Kp b H H := fun _ _ _ e => e
theorem Kp.trans {b : Addr} {H H1 H2 : Hp} (x : Kp b H H1) (y : Kp b H1 H2) : Kp b H H2 := fun p o n e => y p o n (x p o n e)
theorem Kp.fresh {b p : Addr} {H : Hp} {o : HO} (h : H p = none) : Kp b H (upd H p o) := fun q u _ e => by
  rw [upd_ne (ne_of_none e h)]
  exact e
theorem Kp.here {b : Addr} {H : Hp} {o : HO} : Kp b H (upd H b o) := fun q u n e => by
  rw [upd_ne n]
  exact e
/-- a box: what is left of the cell, its seed, how many digits were mixed (at most n) -/
def Bx (H : Hp) (b : Addr) (n : Nat) : Prop := ∃ x y z : Int, H b = some (.lst [.int x, .int y, .int z]) ∧ 0 ≤ x ∧ 0 ≤ y ∧ y < 2147483563 ∧ 0 ≤ z ∧ z ≤ (n : Int)
theorem Bx.upd {H : Hp} {b p : Addr} {n : Nat} {o : HO} (h : Bx H b n) (hp : H p = none) : Bx (upd H p o) b n := by
  obtain ⟨x, y, z, e, r⟩ := h
  exact ⟨x, y, z, by rw [upd_ne (ne_of_none e hp)]; exact e, r⟩
theorem Bx.more {H : Hp} {b : Addr} {n m : Nat} (h : Bx H b n) (le : n ≤ m) : Bx H b m := by
  obtain ⟨x, y, z, e, h1, h2, h3, h4, h5⟩ := h
  exact ⟨x, y, z, e, h1, h2, h3, h4, by omega⟩
def spCell (K : PySem.W.Frag) : Sp := fun vs H Q _ => ∃ (a : Addr) (ns : List Int) (k : Nat), vs = [.ref a, .int k] ∧ SqL K H a (ns.map V.int) ∧ k < 1000 ∧ ∀ i : Int, Q (.int i) H
def spBox : Sp := fun vs H Q _ => ∃ i : Int, vs = [.int i] ∧ ∀ (b : Addr) (H' : Hp), H b = none → Bx H' b 0 → Kp b H H' → Q (.ref b) H'
def spTake : Sp := fun vs H Q _ => ∃ (b : Addr) (n : Nat) (m : Int), vs = [.ref b, .int m] ∧ Bx H b n ∧ n ≤ 1000000 ∧ 0 < m ∧ m < 2 ^ 64 ∧
  ∀ (r : Int) (H' : Hp), 0 ≤ r → r < m → Bx H' b (n + 1) → Kp b H H' → Q (.int r) H'
/-- the built-ins that the draws call -/
structure Blt (mg : Str → Option Value) : Prop where
  len : mg "len" = none
  max : mg "max" = none
  min : mg "min" = none
  int : mg "int" = none
  range : mg "range" = none
section
variable {P : Program} {w : World} {K : PySem.W.Frag} {mg : Str → Option Value} {base : Heap}
theorem scCell : FnScope ["_law_script", "_law_k"] ["_law_script", "_law_k"] (defScope sCell) := ⟨rfl, rfl, rfl, by decide +kernel, rfl, by decide +kernel, by decide +kernel⟩
theorem ok_cell {f : Addr} {fd : FuncData} (F : Fun K "_law_cell" "_law_cell" sCell f fd) (B : Blt mg) : FnOk P w K mg base CX0 1 f fd ["_law_script", "_law_k"] (spCell K) := by
  refine F.ok scCell (fun vs H Q E h => ?_) (fun cdv A outer s H vs Q E hr h => ?_)
  · obtain ⟨a, ns, k, rfl, _⟩ := h
    rfl
  · obtain ⟨a, ns, k, rfl, hS, hk, q⟩ := h
    refine ⟨_, pss_one (ps_ret (pe_ifExp (pt_cmpR op_lt (pv 1) (pe_callB call_len_seq (by rfl) B.len PySem.boot_len (pa_cons (pv 0) pa_nil)) (nomark _))
      (pe_ix ix_list (pv 0) (pv 1) (fun _ _ => rfl)) (pe_op op_add (pe_op op_mul pe_int (pv 1)) pe_int))), ?_⟩
    refine ⟨_, rfl, _, rfl, a, _, rfl, .inl hS, _, _, rfl, rfl, _, rfl, ?_⟩
    refine ite2 (fun hc => ?_) (fun _ => ?_)
    · have hlt : k < ns.length := by
        have z := of_decide_eq_true hc
        rw [List.length_map] at z
        omega
      exact ⟨_, rfl, _, rfl, a, _, _, _, rfl, rfl, hS, atI_nat (v := V.int (ns[k])) (by rw [List.getElem?_map, List.getElem?_eq_getElem hlt]; rfl), q _⟩
    · exact ⟨_, rfl, _, _, rfl, rfl, .inl ⟨by decide, by decide⟩, _, _, rfl, rfl, q _⟩
theorem scBox : FnScope ["_law_cell_here"] ["_law_cell_here"] (defScope sBox) := ⟨rfl, rfl, rfl, by decide +kernel, rfl, by decide +kernel, by decide +kernel⟩
theorem ok_box {f : Addr} {fd : FuncData} (F : Fun K "_law_box" "_law_box" sBox f fd) (B : Blt mg) : FnOk P w K mg base CX0 1 f fd ["_law_cell_here"] spBox := by
  refine F.ok scBox (fun vs H Q E h => ?_) (fun cdv A outer s H vs Q E hr h => ?_)
  · obtain ⟨i, rfl, _⟩ := h
    rfl
  · obtain ⟨i, rfl, q⟩ := h
    refine ⟨_, pss_one (ps_ret (pe_lst (pa_cons (pe_callB (call_max2 rfl) (by rfl) B.max (by decide +kernel) (pa_cons pe_int (pa_cons (pe_op op_sub (pv 0) (pe_op op_pow pe_int pe_int)) pa_nil)))
      (pa_cons (pe_op op_mod (pe_callTy call_int1 (by rfl) B.int (by decide +kernel) (pa_cons (pv 0) pa_nil)) pe_int) (pa_cons pe_int pa_nil))))), ?_⟩
    refine ⟨_, rfl, _, _, rfl, rfl, ⟨by decide, by decide, by decide⟩, _, _, rfl, rfl, _, _, rfl, ?_⟩
    refine ⟨_, rfl, .inl ⟨_, rfl, _, _, rfl, rfl, (by show (0 : Int) < 2147483563; decide), ?_⟩⟩
    refine ⟨(by show 3 ≤ sizeLine; decide), fun p np => q p _ np ⟨_, _, _, upd_same, ?_, ?_, ?_, by decide, by decide⟩ (Kp.fresh np)⟩
    · split <;> omega
    · exact Int.emod_nonneg _ (by decide)
    · exact Int.emod_lt_of_pos _ (by decide)
theorem scTake : FnScope ["_law_box_here", "_law_many", "_law_digit", "_law_mixed"] ["_law_box_here", "_law_many"] (defScope sTake) := ⟨rfl, rfl, rfl, by decide +kernel, rfl, by decide +kernel, by decide +kernel⟩
theorem fmod_low {i j : Int} (h : 0 < j) : 0 ≤ i.fmod j := Int.fmod_nonneg_of_pos i h
theorem fmod_high {i j : Int} (h : 0 < j) : i.fmod j < j := Int.fmod_lt_of_pos i h
theorem small_log {m : Int} (h0 : 0 < m) (h : m < 2 ^ 64) : m.natAbs.log2 < 9000 := by
  have h1 : m.natAbs < 2 ^ 64 := by omega
  exact Nat.lt_of_lt_of_le (PySem.Flt.log2_lt_of (by decide) h1) (by decide)
theorem ok_take {f : Addr} {fd : FuncData} (F : Fun K "_law_take" "_law_take" sTake f fd) (B : Blt mg) : FnOk P w K mg base CX0 1 f fd ["_law_box_here", "_law_many"] spTake := by
  refine F.ok scTake (fun vs H Q E h => ?_) (fun cdv A outer s H vs Q E hr h => ?_)
  · obtain ⟨b, n, m, rfl, _⟩ := h
    rfl
  · obtain ⟨b, n, m, rfl, ⟨x, y, z, hb, x0, y0, y1, z0, z1⟩, hn, m0, m1, q⟩ := h
    have nd := scTake.nd
    refine ⟨_, pss_cons (ps_if (pt_cmpR op_gt (pe_ix ix_list (pv 0) pe_int (fun _ _ => rfl)) pe_int (nomark _))
        (pss_cons (ps_set (i := 2) nd rfl (Or.inl rfl) (pe_op op_modN (pe_callTy call_int1 (by rfl) B.int (by decide +kernel) (pa_cons (pe_ix ix_list (pv 0) pe_int (fun _ _ => rfl)) pa_nil)) (pv 1)))
        (pss_cons (ps_asg (pe_op op_fdivW (pe_ix ix_list (pv 0) pe_int (fun _ _ => rfl)) (pv 1)) (pg_sub (pv 0) pe_int set_list))
        (pss_one (ps_ret (pv 2))))) pss_nil)
      (pss_cons (ps_asg (pe_op op_add (pe_ix ix_list (pv 0) pe_int (fun _ _ => rfl)) pe_int) (pg_sub (pv 0) pe_int set_list))
      (pss_cons (ps_set (i := 3) nd rfl (Or.inl rfl) (pe_op op_mod (pe_op op_pow (pe_callTy call_int1 (by rfl) B.int (by decide +kernel) (pa_cons (pe_op op_add (pe_op op_add (pe_ix ix_list (pv 0) pe_int (fun _ _ => rfl)) (pe_op op_mul pe_int (pe_ix ix_list (pv 0) pe_int (fun _ _ => rfl)))) pe_int) pa_nil)) pe_int) pe_int))
      (pss_cons (ps_set (i := 3) nd rfl (Or.inl rfl) (pe_op op_mod (pe_op op_pow (pe_callTy call_int1 (by rfl) B.int (by decide +kernel) (pa_cons (pe_op op_add (pv 3) (pe_op op_mul pe_int (pe_ix ix_list (pv 0) pe_int (fun _ _ => rfl)))) pa_nil)) pe_int) pe_int))
      (pss_one (ps_ret (pe_op op_modN (pe_op op_fdiv (pv 3) pe_int) (pv 1))))))), ?_⟩
    have a0 : ∀ {u v t : V}, atI [u, v, t] (0 : Int) = some u := rfl
    refine ⟨_, rfl, b, _, _, _, rfl, rfl, SqL.of hb, a0, _, _, rfl, rfl, _, rfl, ?_⟩
    refine ite2 (fun hc => ?_) (fun _ => ?_)
    · refine ⟨_, rfl, b, _, _, _, rfl, rfl, SqL.of hb, a0, .inl ⟨_, rfl, _, rfl, _, _, rfl, rfl, by omega, ?_⟩⟩
      refine ⟨_, rfl, b, _, _, _, rfl, rfl, SqL.of hb, a0, _, rfl, _, _, rfl, rfl, ⟨m0, small_log m0 m1⟩, ?_⟩
      refine ⟨_, rfl, b, _, _, _, rfl, rfl, hb, rfl, ?_⟩
      refine ⟨_, rfl, q _ _ (fmod_low m0) (fmod_high m0) ⟨_, y, z, upd_same, Int.ediv_nonneg x0 (by omega), y0, y1, z0, by omega⟩ Kp.here⟩
    · refine ⟨_, rfl, b, _, _, _, rfl, rfl, SqL.of hb, rfl, _, _, rfl, rfl, _, rfl, b, _, _, _, rfl, rfl, hb, rfl, ?_⟩
      have hb1 : upd H b (.lst [.int x, .int y, .int (z + 1)]) b = some (.lst [.int x, .int y, .int (z + 1)]) := upd_same
      refine ⟨_, rfl, b, _, _, _, rfl, rfl, SqL.of hb1, rfl, ?_⟩
      refine ⟨_, rfl, b, _, _, _, rfl, rfl, SqL.of hb1, rfl, ?_⟩
      refine ⟨_, _, rfl, rfl, .inl ⟨by decide, by decide⟩, _, _, rfl, rfl, _, _, rfl, rfl, .inl ⟨_, rfl, _, _, rfl, rfl, ⟨by decide, by decide, by omega⟩, ?_⟩⟩
      refine ⟨_, _, rfl, rfl, (by show (0 : Int) < 2147483647; decide), ?_⟩
      refine ⟨_, rfl, _, rfl, b, _, _, _, rfl, rfl, SqL.of hb1, rfl, ?_⟩
      have l1 := Int.emod_nonneg ((y + 7393 * (z + 1) + 233) ^ (5 : Int).toNat) (b := 2147483647) (by decide)
      have h1 := Int.emod_lt_of_pos ((y + 7393 * (z + 1) + 233) ^ (5 : Int).toNat) (b := 2147483647) (by decide)
      refine ⟨_, _, rfl, rfl, .inl ⟨by decide, by decide⟩, _, _, rfl, rfl, .inl ⟨_, rfl, _, _, rfl, rfl, ⟨by decide, by decide, by omega⟩, ?_⟩⟩
      refine ⟨_, _, rfl, rfl, (by show (0 : Int) < 2147483587; decide), ?_⟩
      refine ⟨_, rfl, _, _, rfl, rfl, ⟨by decide, by decide⟩, _, rfl, _, _, rfl, rfl, by omega, ?_⟩
      exact q _ _ (fmod_low m0) (fmod_high m0) ⟨x, y, z + 1, upd_same, x0, y0, y1, by omega, by omega⟩ Kp.here
end
end Mz
set_option Elab.async false
set_option linter.all false
set_option maxRecDepth 100000
set_option maxHeartbeats 4000000
/-! the program's own defs: integers, names, marks -/
namespace Mz
open PySem PySem.Spec PyProof.Rows L2
/-- any value, by what isinstance says of it -/
inductive Kd (K : PySem.W.Frag) (H : Hp) : V → Prop
  | int (i : Int) : Kd K H (.int i)
  | bl (b : Bool) : Kd K H (.bl b)
  | str (z : Str) (h : z.length ≤ 1000) (ok : PyData.strOk z = true) : Kd K H (.str z)
  | non : Kd K H .non
  | oth (a : Addr) (t : Value) (ty : TyX K H (.ref a) t) (ki : PySem.W.kitOne K t (.type "int") = some false) (ks : PySem.W.kitOne K t (.type "str") = some false) : Kd K H (.ref a)
def wholeV : V → Bool
  | .int _ => true
  | _ => false
def inB (lo hi : Int) : V → Bool
  | .int i => decide (lo ≤ i) && decide (i ≤ hi)
  | _ => false
abbrev abc : Str := "abcdefghijklmnopqrstuvwxyz"
/-- a name, as the program says it -/
def nameS (z : Str) : Bool := (decide (1 ≤ (z.length : Int)) && decide ((z.length : Int) ≤ 6)) && z.cps.toList.all fun c => decide (c ∈ abc.cps.toList)
def nameV : V → Bool
  | .str z => nameS z
  | _ => false
def noMarks : List V := [.str "old", .str "zero", .str "end", .str "fails", .str "more", .str "done", .str "none"]
def markV : V → Bool
  | .str z => nameS z && !inV (.str z) noMarks
  | _ => false
def spWhole (K : PySem.W.Frag) : Sp := fun vs H Q _ => ∃ v, vs = [v] ∧ Kd K H v ∧ Q (.bl (wholeV v)) H
def spIsInt (K : PySem.W.Frag) : Sp := fun vs H Q _ => ∃ v lo hi, vs = [v, .int lo, .int hi] ∧ Kd K H v ∧ Q (.bl (inB lo hi v)) H
/-- the list of the letters' answers is left behind -/
def spIsName (K : PySem.W.Frag) : Sp := fun vs H Q _ => ∃ v, vs = [v] ∧ Kd K H v ∧ ∀ H', Same H H' → Q (.bl (nameV v)) H'
def spIsMark (K : PySem.W.Frag) : Sp := fun vs H Q _ => ∃ v, vs = [v] ∧ Kd K H v ∧ ∀ H', Same H H' → Q (.bl (markV v)) H'
structure Blp (mg : Str → Option Value) : Prop where
  isi : mg "isinstance" = none
  bool : mg "bool" = none
  str : mg "str" = none
  all : mg "all" = none
section
variable {P : Program} {w : World} {K : PySem.W.Frag} {mg : Str → Option Value} {base : Heap}
theorem scWhole : FnScope ["value"] ["value"] (defScope sWhole) := ⟨rfl, rfl, rfl, by decide +kernel, rfl, by decide +kernel, by decide +kernel⟩
theorem ok_whole {f : Addr} {fd : FuncData} (F : Fun K "_is_whole" "_is_whole" sWhole f fd) (B : Blt mg) (D : Blp mg) : FnOk P w K mg base CX0 1 f fd ["value"] (spWhole K) := by
  refine F.ok scWhole (fun vs H Q E h => ?_) (fun cdv A outer s H vs Q E hr h => ?_)
  · obtain ⟨v, rfl, _⟩ := h
    rfl
  · obtain ⟨v, rfl, hk, q⟩ := h
    refine ⟨_, pss_one (ps_ret (pe_and (pe_callB call_isi (by rfl) D.isi (by decide +kernel) (pa_cons (pv 0) (pa_cons (pe_bltn (v := .ty "int") (by rfl) B.int (by decide +kernel) rfl) pa_nil)))
      (pe_one (pe_not (pe_callB call_isi (by rfl) D.isi (by decide +kernel) (pa_cons (pv 0) (pa_cons (pe_bltn (v := .ty "bool") (by rfl) D.bool (by decide +kernel) rfl) pa_nil))))))), ?_⟩
    refine ⟨_, rfl, ?_⟩
    cases hk with
    | int i => exact ⟨_, _, _, _, true, rfl, .ty _, .base (.int i), kit_ty (by decide +kernel), true, rfl, iteT ⟨_, rfl, _, _, _, _, false, rfl, .ty _, .base (.int i), kit_ty (by decide +kernel), false, rfl, q⟩⟩
    | bl b => exact ⟨_, _, _, _, true, rfl, .ty _, .base (.bl b), kit_ty (by decide +kernel), true, rfl, iteT ⟨_, rfl, _, _, _, _, true, rfl, .ty _, .base (.bl b), kit_ty (by decide +kernel), true, rfl, q⟩⟩
    | str z _ _ => exact ⟨_, _, _, _, false, rfl, .ty _, .base (.str z), kit_ty (by decide +kernel), false, rfl, iteF q⟩
    | non => exact ⟨_, _, _, _, false, rfl, .ty _, .base .non, kit_ty (by decide +kernel), false, rfl, iteF q⟩
    | oth a t ty ki ks => exact ⟨_, _, _, _, false, rfl, .ty _, ty, ki, false, rfl, iteF q⟩
theorem scIsInt : FnScope ["value", "low", "high"] ["value", "low", "high"] (defScope sIsInt) := ⟨rfl, rfl, rfl, by decide +kernel, rfl, by decide +kernel, by decide +kernel⟩
theorem ok_isInt {f f1 : Addr} {fd fd1 : FuncData} (F : Fun K "is_integer" "is_integer" sIsInt f fd) (G : FnOk P w K mg base CX0 1 f1 fd1 ["value"] (spWhole K)) (m1 : mg "_is_whole" = some (.ref f1)) (k1 : PySem.W.keepIn K (.ref f1) = true) (b1 : Binds K fd1 ["value"] []) :
    FnOk P w K mg base CX0 2 f fd ["value", "low", "high"] (spIsInt K) := by
  refine F.ok scIsInt (fun vs H Q E h => ?_) (fun cdv A outer s H vs Q E hr h => ?_)
  · obtain ⟨v, lo, hi, rfl, _⟩ := h
    rfl
  · obtain ⟨v, lo, hi, rfl, hk, q⟩ := h
    refine ⟨_, pss_one (ps_ret (pe_and (pe_call G hr (by rfl) m1 k1 b1 .nil pass0 (pa_cons (pv 0) pa_nil)) (pe_one (pe_chain op_le op_le (pv 1) (pv 0) (pv 2))))), ?_⟩
    refine ⟨_, rfl, v, rfl, hk, _, rfl, ?_⟩
    cases hk with
    | int i =>
      refine iteT ⟨_, rfl, _, rfl, _, _, rfl, rfl, _, rfl, ite2 (fun hc => ?_) (fun hc => ?_)⟩
      · refine ⟨_, rfl, _, _, rfl, rfl, ?_⟩
        have e : inB lo hi (.int i) = decide (i ≤ hi) := by
          show (decide (lo ≤ i) && decide (i ≤ hi)) = _
          rw [hc, Bool.true_and]
        rw [e] at q
        exact q
      · have e : inB lo hi (.int i) = false := by
          show (decide (lo ≤ i) && decide (i ≤ hi)) = _
          rw [Bool.eq_false_iff.mpr hc, Bool.false_and]
        rw [e] at q
        exact q
    | bl b => exact iteF q
    | str z _ _ => exact iteF q
    | non => exact iteF q
    | oth a t ty ki ks => exact iteF q
theorem scIsName : FnScope ["value", "letter"] ["value"] (defScope sIsName) := ⟨rfl, rfl, rfl, by decide +kernel, rfl, by decide +kernel, by decide +kernel⟩
theorem ok_isName {f : Addr} {fd : FuncData} {t1 t2 : Tok} (F : Fun K "is_name" "is_name" sIsName f fd) (B : Blt mg) (D : Blp mg) (mL : mg "_LONGEST_NAME" = some (.int 6 t1)) (mA : mg "_LETTERS" = some (.str abc t2)) : FnOk P w K mg base CX0 1 f fd ["value"] (spIsName K) := by
  refine F.ok scIsName (fun vs H Q E h => ?_) (fun cdv A outer s H vs Q E hr h => ?_)
  · obtain ⟨v, rfl, _⟩ := h
    rfl
  · obtain ⟨v, rfl, hk, q⟩ := h
    have nd := scIsName.nd
    refine ⟨_, pss_cons (ps_if (PW.pt (pw_or (pt_not (pt_val (pe_callB call_isi (by rfl) D.isi (by decide +kernel) (pa_cons (pv 0) (pa_cons (pe_bltn (v := .ty "str") (by rfl) D.str (by decide +kernel) rfl) pa_nil)))))
        (pw_or1 (pt_not (pt_chain op_le op_le pe_int (pe_callB call_len_str (by rfl) B.len PySem.boot_len (pa_cons (pv 0) pa_nil)) (pe_glob (v := .int 6) rfl mL ⟨_, rfl⟩)))))) (pss_one (ps_ret pe_bl)) pss_nil)
      (pss_one (ps_ret (pe_callB (cr_all rfl) (by rfl) D.all (by decide +kernel) (pa_cons (pe_lc (own := [("letter", 1)]) (g := gName 1) (tt := tYes) rfl nd (pi_str (pv 0)) (blkOk_by (N := ["value", "letter"]) (sc := defScope sIsName) (by decide +kernel))
        (fun _ _ _ _ _ => pg_name (i := 1) nd rfl (Or.inl rfl)) (fun _ _ _ _ _ => pts_nil) (fun _ _ _ _ _ => pe_cmpR op_in_sign (pv 1) (pe_glob (v := .str abc) rfl mA ⟨_, rfl⟩) (by rfl))) pa_nil)))), ?_⟩
    refine ⟨_, rfl, ?_⟩
    have no : ∀ {v : V}, nameV v = false → (∀ H', Same H H' → Q (.bl (nameV v)) H') → Q (.bl false) H := fun e q => by
      rw [← e]
      exact q _ fun _ _ z => z
    cases hk with
    | int i => exact ⟨_, _, _, _, false, rfl, .ty _, .base (.int i), kit_ty (by decide +kernel), false, rfl, iteT (iteT (no rfl q))⟩
    | bl b => exact ⟨_, _, _, _, false, rfl, .ty _, .base (.bl b), kit_ty (by decide +kernel), false, rfl, iteT (iteT (no rfl q))⟩
    | non => exact ⟨_, _, _, _, false, rfl, .ty _, .base .non, kit_ty (by decide +kernel), false, rfl, iteT (iteT (no rfl q))⟩
    | oth a t ty ki ks => exact ⟨_, _, _, _, false, rfl, .ty _, ty, ks, false, rfl, iteT (iteT (no rfl q))⟩
    | str z hz ok =>
      refine ⟨_, _, _, _, true, rfl, .ty _, .base (.str z), kit_ty (by decide +kernel), true, rfl, iteF ?_⟩
      have zl : z.length ≤ sizeLine := Nat.le_trans hz (by decide)
      refine ⟨_, rfl, _, rfl, zl, _, _, rfl, rfl, _, rfl, ite2 (fun h1 => ?_) (fun h1 => ?_)⟩
      · refine ⟨_, _, rfl, rfl, _, rfl, ?_⟩
        cases h6 : decide ((z.length : Int) ≤ 6) with
        | false =>
          refine iteT ?_
          have e : nameV (.str z) = false := by
            show ((decide (1 ≤ (z.length : Int)) && decide ((z.length : Int) ≤ 6)) && z.cps.toList.all fun c => decide (c ∈ abc.cps.toList)) = false
            rw [h6, Bool.and_false, Bool.false_and]
          exact no e q
        | true =>
          refine iteF ?_
          refine ⟨_, rfl, z, rfl, fun p np => lc_it walk_str (fun i H' => H' = upd H p (.lst ((z.cps.toList.take i).map fun c => V.bl (decide (c ∈ abc.cps.toList))))) rfl (fun _ _ _ _ => trivial) ?_ ?_⟩
          · rintro i x H0 H' hi rfl ⟨rfl, c, hc, rfl⟩
            refine ⟨rfl, ?_⟩
            unfold tYes
            refine iteT ⟨_, rfl, c, abc, rfl, rfl, _, upd_same, ?_, ?_⟩
            · rw [List.length_map, List.length_take]
              exact Nat.lt_of_le_of_lt (Nat.min_le_left _ _) (Nat.lt_of_lt_of_le hi zl)
            · rw [upd_upd]
              have hc2 : z.cps.toList[i]? = some c := by
                rw [Array.getElem?_toList]
                exact hc
              rw [List.take_succ, hc2, List.map_append]
              rfl
          · rintro H' rfl
            have sz : z.cps.toList.take z.cps.size = z.cps.toList := by
              rw [← Array.length_toList, List.take_length]
            refine ⟨p, (z.cps.toList.take z.cps.size).map fun c => decide (c ∈ abc.cps.toList), rfl, SqL.of (by rw [List.map_map]; exact upd_same), ?_⟩
            have e : nameV (.str z) = ((z.cps.toList.take z.cps.size).map fun c => decide (c ∈ abc.cps.toList)).all id := by
              show ((decide (1 ≤ (z.length : Int)) && decide ((z.length : Int) ≤ 6)) && z.cps.toList.all fun c => decide (c ∈ abc.cps.toList)) = _
              rw [h1, h6, sz, List.all_map]
              rfl
            rw [← e]
            refine q _ fun b o z => ?_
            rw [upd_ne (ne_of_none z np)]
            exact z
      · have e : nameV (.str z) = false := by
          show ((decide (1 ≤ (z.length : Int)) && decide ((z.length : Int) ≤ 6)) && z.cps.toList.all fun c => decide (c ∈ abc.cps.toList)) = false
          rw [Bool.eq_false_iff.mpr h1, Bool.false_and, Bool.false_and]
        exact ⟨_, rfl, iteT (no e q)⟩
end
end Mz
set_option Elab.async false
set_option linter.all false
set_option maxRecDepth 100000
set_option maxHeartbeats 4000000
namespace Mz
open PySem PySem.Spec PyProof.Rows L2
def lowS (z : Str) : Int := if z = "" then 0 else -3
def spLeast : Sp := fun vs H Q _ => ∃ z : Str, vs = [.str z] ∧ Q (.int (lowS z)) H
/-- a place's fields -/
def plF (z : Str) (k : Int) : List (Str × V) := putF "_shift" (.int k) (putF "_base" (.str z) [])
/-- a place that can be made: no error -/
def spInit (C : Addr) : Sp := fun vs H Q _ => ∃ (p dx : Addr) (z : Str) (k : Int), vs = [.ref p, .str z, .int k] ∧ H p = some (.ins C dx []) ∧ z.length ≤ 1000 ∧ PyData.strOk z = true ∧ (z = "" ∨ nameS z = true) ∧ lowS z ≤ k ∧ k ≤ 3 ∧
  ∀ H', (∀ q o, q ≠ p → H q = some o → H' q = some o) → H' p = some (.ins C dx (plF z k)) → Q .non H'
structure Cpl (K : PySem.W.Frag) (mg : Str → Option Value) (C : Addr) : Prop where
  cl : Cls K C
  nB : NoAttr K C "_base"
  nS : NoAttr K C "_shift"
  mgC : mg "Place" = some (.ref C)
section
variable {P : Program} {w : World} {K : PySem.W.Frag} {mg : Str → Option Value} {base : Heap}
theorem scLeast : FnScope ["base"] ["base"] (defScope sLeast) := ⟨rfl, rfl, rfl, by decide +kernel, rfl, by decide +kernel, by decide +kernel⟩
theorem ok_least {f : Addr} {fd : FuncData} {t : Tok} (F : Fun K "_least_shift" "_least_shift" sLeast f fd) (mM : mg "_MOST" = some (.int 3 t)) : FnOk P w K mg base CX0 1 f fd ["base"] spLeast := by
  refine F.ok scLeast (fun vs H Q E h => ?_) (fun cdv A outer s H vs Q E hr h => ?_)
  · obtain ⟨z, rfl, _⟩ := h
    rfl
  · obtain ⟨z, rfl, q⟩ := h
    refine ⟨_, pss_one (ps_ret (pe_ifExp (pt_cmpR op_eq (pv 0) pe_str (nomark _)) pe_int (pe_un un_neg (pe_glob (v := .int 3) rfl mM ⟨_, rfl⟩)))), ?_⟩
    refine ⟨_, rfl, rfl, _, rfl, ite2 (fun hc => ?_) (fun hc => ?_)⟩
    · have e : lowS z = 0 := if_pos (V.str.inj (of_decide_eq_true hc))
      rw [e] at q
      exact q
    · have e : lowS z = -3 := if_neg fun x => hc (decide_eq_true (by rw [x]))
      rw [e] at q
      exact ⟨_, rfl, q⟩
theorem scInit : FnScope ["self", "base", "shift"] ["self", "base", "shift"] (defScope (inClass sPlace 0)) := ⟨rfl, rfl, rfl, by decide +kernel, rfl, by decide +kernel, by decide +kernel⟩
theorem ok_init {f f1 f2 f3 C : Addr} {fd fd1 fd2 fd3 : FuncData} {t : Tok} {dvs : List V} {kws : List (Str × V)} {pa : Arguments} (F : FunD K "__init__" "Place.__init__" pa (defBody (inClass sPlace 0)) (defScope (inClass sPlace 0)) dvs kws f fd) (T : Cpl K mg C)
    (G1 : FnOk P w K mg base CX0 1 f1 fd1 ["value"] (spIsName K)) (m1 : mg "is_name" = some (.ref f1)) (k1 : PySem.W.keepIn K (.ref f1) = true) (b1 : Binds K fd1 ["value"] [])
    (G2 : FnOk P w K mg base CX0 2 f2 fd2 ["value", "low", "high"] (spIsInt K)) (m2 : mg "is_integer" = some (.ref f2)) (k2 : PySem.W.keepIn K (.ref f2) = true) (b2 : Binds K fd2 ["value", "low", "high"] [])
    (G3 : FnOk P w K mg base CX0 1 f3 fd3 ["base"] spLeast) (m3 : mg "_least_shift" = some (.ref f3)) (k3 : PySem.W.keepIn K (.ref f3) = true) (b3 : Binds K fd3 ["base"] [])
    (mM : mg "_MOST" = some (.int 3 t)) : FnOk P w K mg base CX0 3 f fd ["self", "base", "shift"] (spInit C) := by
  refine F.ok scInit (fun vs H Q E h => ?_) (fun cdv A outer s H vs Q E hr h => ?_)
  · obtain ⟨p, dx, z, k, rfl, _⟩ := h
    rfl
  · obtain ⟨p, dx, z, k, rfl, hp, hz, ok, hn, h1, h2, q⟩ := h
    refine ⟨_, PSs.nox (pss_cons (ps_if (PW.pt (pw_and (pt_cmpR op_ne (pv 1) pe_str (nomark _)) (pw_and1 (pt_not (pt_val (pe_call G1 (hr.mono (by decide)) (by rfl) m1 k1 b1 .nil pass0 (pa_cons (pv 1) pa_nil))))))) (pss_one ps_never) pss_nil)
      (pss_cons (ps_if (pt_not (pt_val (pe_call G2 hr (by rfl) m2 k2 b2 .nil pass0 (pa_cons (pv 2) (pa_cons (pe_call G3 (hr.mono (by decide)) (by rfl) m3 k3 b3 .nil pass0 (pa_cons (pv 1) pa_nil)) (pa_cons (pe_glob (v := .int 3) rfl mM ⟨_, rfl⟩) pa_nil)))))) (pss_one ps_never) pss_nil)
      (pss_cons (ps_fld (pv 0) (pv 1) rfl) (pss_one (ps_fld (pv 0) (pv 2) rfl))))), ?_⟩
    generalize hT : tSeq (tIfS (tNot _) _ _) (tSeq (sFld _ _ _ _) (sFld _ _ _ _)) = T2
    have rest : ∀ H1, Same H H1 → T2 { nx := fun _ H' => Q .non H', rt := Q } (start ["self", "base", "shift"] [V.ref p, V.str z, V.int k]) H1 := by
      intro H1 sm
      rw [← hT]
      have hp1 := sm _ _ hp
      refine ⟨_, rfl, _, rfl, z, rfl, .int k, lowS z, 3, rfl, Kd.int k, _, rfl, ?_⟩
      have e : inB (lowS z) 3 (.int k) = true := by
        show (decide (lowS z ≤ k) && decide (k ≤ 3)) = true
        rw [decide_eq_true h1, decide_eq_true h2]
        rfl
      rw [e]
      refine iteF ⟨_, rfl, _, rfl, p, C, dx, [], rfl, hp1, T.cl, T.nB, (by show 0 < 1000; decide), _, rfl, _, rfl, p, C, dx, _, rfl, upd_same, T.cl, T.nS, (by show 1 < 1000; decide), ?_⟩
      refine q _ (fun r o n e => ?_) upd_same
      rw [upd_ne n, upd_ne n]
      exact sm _ _ e
    have kd : Kd K H (.str z) := .str z hz ok
    by_cases hz0 : z = ""
    · subst hz0
      exact ⟨_, rfl, rfl, _, rfl, iteF (iteF (rest H (Same.refl H)))⟩
    · have hnm : nameS z = true := hn.resolve_left hz0
      have e : decide (V.str z = V.str "") = false := decide_eq_false fun x => hz0 (V.str.inj x)
      refine ⟨_, rfl, rfl, _, rfl, ?_⟩
      rw [e]
      refine iteT ⟨_, rfl, .str z, rfl, kd, fun H1 sm => ⟨_, rfl, ?_⟩⟩
      have e2 : nameV (.str z) = true := hnm
      rw [e2]
      exact iteF (rest H1 sm)
end
end Mz
set_option Elab.async false
set_option linter.all false
set_option maxRecDepth 100000
set_option maxHeartbeats 4000000
namespace Mz
open PySem PySem.Spec PyProof.Rows L2
theorem plF_base {z : Str} {k : Int} : (plF z k).lookup ("_base" : Str) = some (.str z) := by
  unfold plF
  rw [lookup_putF, if_neg (by decide +kernel), lookup_putF, if_pos rfl]
theorem plF_shift {z : Str} {k : Int} : (plF z k).lookup ("_shift" : Str) = some (.int k) := by
  unfold plF
  rw [lookup_putF, if_pos rfl]
/-- a place stands at a -/
def Pl (C : Addr) (H : Hp) (a : Addr) (z : Str) (k : Int) : Prop := ∃ dx, H a = some (.ins C dx (plF z k))
/-- a base and a shift that go together -/
def Good (z : Str) (k : Int) : Prop := z.length ≤ 1000 ∧ PyData.strOk z = true ∧ (z = "" ∨ nameS z = true) ∧ lowS z ≤ k ∧ k ≤ 3
theorem Good.lo {z : Str} {k : Int} (g : Good z k) : -3 ≤ k := by
  have h := g.2.2.2.1
  unfold lowS at h
  split at h <;> omega
theorem Good.hi {z : Str} {k : Int} (g : Good z k) : k ≤ 3 := g.2.2.2.2
theorem int_small {k : Int} (h0 : -3 ≤ k) (h1 : k ≤ 3) : k.natAbs.log2 < 1920 := by
  have h : k.natAbs < 2 ^ 3 := by omega
  exact Nat.lt_trans (PySem.Flt.log2_lt_of (by decide) h) (by decide)
/-- str of a place -/
def strP (z : Str) (k : Int) : Str := if z = "" then Str.ofString (toString k) else if k = 0 then z else "" ++ z ++ signS k
def spBase (C : Addr) : Sp := fun vs H Q _ => ∃ a z k, vs = [.ref a] ∧ Pl C H a z k ∧ Q (.str z) H
def spShift (C : Addr) : Sp := fun vs H Q _ => ∃ a z k, vs = [.ref a] ∧ Pl C H a z k ∧ Q (.int k) H
def spStr (C : Addr) : Sp := fun vs H Q _ => ∃ a z k, vs = [.ref a] ∧ Pl C H a z k ∧ Good z k ∧ Q (.str (strP z k)) H
/-- a value that is no place -/
def Oty (K : PySem.W.Frag) (C : Addr) (H : Hp) (y : V) : Prop := ∃ t, TyX K H y t ∧ PySem.W.kitOne K t (.ref C) = some false
def spEq (K : PySem.W.Frag) (C : Addr) : Sp := fun vs H Q _ => ∃ a z k, Pl C H a z k ∧ ((∃ b y i, vs = [.ref a, .ref b] ∧ Pl C H b y i ∧ Q (.bl (decide (z = y) && decide (k = i))) H) ∨ (∃ y, vs = [.ref a, y] ∧ Oty K C H y ∧ Q (.bl false) H))
def spAdd (C : Addr) : Sp := fun vs H Q _ => ∃ a z k i, vs = [.ref a, .int i] ∧ Pl C H a z k ∧ Good z k ∧ Good z (k + i) ∧ ∀ p H', H p = none → Same H H' → Pl C H' p z (k + i) → Q (.ref p) H'
theorem strlen_sign {k : Int} : (signS k).length = 2 := by
  unfold signS
  repeat' split
  all_goals decide +kernel
section
variable {P : Program} {w : World} {K : PySem.W.Frag} {mg : Str → Option Value} {base : Heap}
theorem scBase : FnScope ["self"] ["self"] (defScope (inClass sPlace 2)) := ⟨rfl, rfl, rfl, by decide +kernel, rfl, by decide +kernel, by decide +kernel⟩
theorem ok_base {f C : Addr} {fd : FuncData} (F : Fun K "base" "Place.base" (inClass sPlace 2) f fd) (T : Cpl K mg C) : FnOk P w K mg base CX0 1 f fd ["self"] (spBase C) := by
  refine F.ok scBase (fun vs H Q E h => ?_) (fun cdv A outer s H vs Q E hr h => ?_)
  · obtain ⟨a, z, k, rfl, _⟩ := h
    rfl
  · obtain ⟨a, z, k, rfl, ⟨dx, ha⟩, q⟩ := h
    exact ⟨_, pss_one (ps_ret (pe_fld (pv 0) rfl)), _, rfl, a, C, dx, _, _, rfl, ha, T.cl, T.nB, plF_base, q⟩
theorem scShift : FnScope ["self"] ["self"] (defScope (inClass sPlace 3)) := ⟨rfl, rfl, rfl, by decide +kernel, rfl, by decide +kernel, by decide +kernel⟩
theorem ok_shift {f C : Addr} {fd : FuncData} (F : Fun K "shift" "Place.shift" (inClass sPlace 3) f fd) (T : Cpl K mg C) : FnOk P w K mg base CX0 1 f fd ["self"] (spShift C) := by
  refine F.ok scShift (fun vs H Q E h => ?_) (fun cdv A outer s H vs Q E hr h => ?_)
  · obtain ⟨a, z, k, rfl, _⟩ := h
    rfl
  · obtain ⟨a, z, k, rfl, ⟨dx, ha⟩, q⟩ := h
    exact ⟨_, pss_one (ps_ret (pe_fld (pv 0) rfl)), _, rfl, a, C, dx, _, _, rfl, ha, T.cl, T.nS, plF_shift, q⟩
theorem scStr : FnScope ["self"] ["self"] (defScope (inClass sPlace 4)) := ⟨rfl, rfl, rfl, by decide +kernel, rfl, by decide +kernel, by decide +kernel⟩
theorem ok_str {f C : Addr} {fd : FuncData} (F : Fun K "__str__" "Place.__str__" (inClass sPlace 4) f fd) (T : Cpl K mg C) (D : Blp mg) : FnOk P w K mg base CX0 1 f fd ["self"] (spStr C) := by
  refine F.ok scStr (fun vs H Q E h => ?_) (fun cdv A outer s H vs Q E hr h => ?_)
  · obtain ⟨a, z, k, rfl, _⟩ := h
    rfl
  · obtain ⟨a, z, k, rfl, ⟨dx, ha⟩, g, q⟩ := h
    refine ⟨_, pss_cons (ps_if (pt_cmpR op_eq (pe_fld (pv 0) rfl) pe_str (nomark _)) (pss_one (ps_ret (pe_callTy call_str_int (by rfl) D.str (by decide +kernel) (pa_cons (pe_fld (pv 0) rfl) pa_nil)))) pss_nil)
      (pss_cons (ps_if (pt_cmpR op_eq (pe_fld (pv 0) rfl) pe_int (nomark _)) (pss_one (ps_ret (pe_joined1 (pe_fmt (pe_fld (pv 0) rfl))))) pss_nil)
      (pss_one (ps_ret (pe_joined (.cons (pe_fmt (pe_fld (pv 0) rfl)) (.cons (pe_fmtP (pe_fld (pv 0) rfl)) .nil)))))), ?_⟩
    have zl : z.length ≤ 1000 := g.1
    refine ⟨_, rfl, a, C, dx, _, _, rfl, ha, T.cl, T.nB, plF_base, rfl, _, rfl, ite2 (fun h1 => ?_) (fun h1 => ?_)⟩
    · have e : strP z k = Str.ofString (toString k) := if_pos (V.str.inj (of_decide_eq_true h1))
      rw [e] at q
      exact ⟨_, rfl, a, C, dx, _, _, rfl, ha, T.cl, T.nS, plF_shift, _, rfl, int_small g.lo g.hi, q⟩
    · have n1 : ¬ z = "" := fun x => h1 (decide_eq_true (by rw [x]))
      refine ⟨_, rfl, a, C, dx, _, _, rfl, ha, T.cl, T.nS, plF_shift, rfl, _, rfl, ite2 (fun h2 => ?_) (fun h2 => ?_)⟩
      · have e : strP z k = z := by
          unfold strP
          rw [if_neg n1, if_pos (V.int.inj (of_decide_eq_true h2))]
        rw [e] at q
        exact ⟨_, rfl, a, C, dx, _, _, rfl, ha, T.cl, T.nB, plF_base, .inl ⟨z, rfl, Nat.le_trans zl (by decide), q⟩⟩
      · have n2 : ¬ k = 0 := fun x => h2 (decide_eq_true (by rw [x]))
        have e : strP z k = "" ++ z ++ signS k := by
          unfold strP
          rw [if_neg n1, if_neg n2]
        rw [e] at q
        refine ⟨_, rfl, a, C, dx, _, _, rfl, ha, T.cl, T.nB, plF_base, .inl ⟨z, rfl, Nat.le_trans zl (by decide), z, rfl, ?_, ?_⟩⟩
        · rw [strLen_append]
          exact Nat.le_trans (Nat.add_le_add (show ("" : Str).length ≤ 0 by decide +kernel) zl) (by decide)
        · refine ⟨_, rfl, a, C, dx, _, _, rfl, ha, T.cl, T.nS, plF_shift, k, rfl, g.lo, g.hi, n2, signS k, rfl, ?_, q⟩
          rw [strLen_append, strLen_append, strlen_sign]
          exact Nat.le_trans (Nat.add_le_add_right (Nat.add_le_add (show ("" : Str).length ≤ 0 by decide +kernel) zl) 2) (by decide)
end
end Mz
set_option Elab.async false
set_option linter.all false
set_option maxRecDepth 100000
set_option maxHeartbeats 4000000
namespace Mz
open PySem PySem.Spec PyProof.Rows L2
section
variable {P : Program} {w : World} {K : PySem.W.Frag} {mg : Str → Option Value} {base : Heap}
/-- isinstance of a place and of no place -/
structure Pty (K : PySem.W.Frag) (C : Addr) : Prop where
  cl : Cls K C
  ha : PySem.W.findIn K (.ref C) "__class__" = some (some (.builtin "object.__class__"))
  hn : PySem.W.specialIn K (.builtin "object.__class__") "__get__" = some (some (.builtin "getset_descriptor.__get__"))
  htk : PySem.W.takesIn K (.builtin "object.__class__") = some true
  hm : PySem.W.mroIn K C (.type "object") = some true
theorem Pl.ty {C : Addr} {H : Hp} {a : Addr} {z : Str} {k : Int} (T : Pty K C) (h : Pl C H a z k) : TyX K H (.ref a) (.ref C) := by
  obtain ⟨dx, ha⟩ := h
  exact .base (.ins ha T.cl T.ha T.hn T.htk T.hm)
theorem kit_self {C : Addr} : PySem.W.kitOne K (.ref C) (.ref C) = some true := by
  unfold PySem.W.kitOne
  rw [if_pos (by simp)]
theorem scEq : FnScope ["self", "other"] ["self", "other"] (defScope (inClass sPlace 6)) := ⟨rfl, rfl, rfl, by decide +kernel, rfl, by decide +kernel, by decide +kernel⟩
theorem ok_eq {f C : Addr} {fd : FuncData} (F : Fun K "__eq__" "Place.__eq__" (inClass sPlace 6) f fd) (T : Cpl K mg C) (Y : Pty K C) (D : Blp mg) : FnOk P w K mg base CX0 1 f fd ["self", "other"] (spEq K C) := by
  refine F.ok scEq (fun vs H Q E h => ?_) (fun cdv A outer s H vs Q E hr h => ?_)
  · obtain ⟨a, z, k, _, ⟨b, y, i, rfl, _⟩ | ⟨y, rfl, _⟩⟩ := h
    · rfl
    · rfl
  · obtain ⟨a, z, k, pa, h⟩ := h
    refine ⟨_, pss_one (ps_ret (pe_and (pe_callB call_isi (by rfl) D.isi (by decide +kernel) (pa_cons (pv 1) (pa_cons (pe_glob (v := .ref C) rfl T.mgC rfl) pa_nil)))
      (pe_and (pe_cmpR op_eq (pe_fld (pv 0) rfl) (pe_fld (pv 1) rfl) (nomark _)) (pe_one (pe_cmpR op_eq (pe_fld (pv 0) rfl) (pe_fld (pv 1) rfl) (nomark _)))))), ?_⟩
    obtain ⟨dx, ha⟩ := id pa
    rcases h with ⟨b, y, i, rfl, pb, q⟩ | ⟨y, rfl, ⟨t, ty, kt⟩, q⟩
    · obtain ⟨dy, hb⟩ := id pb
      refine ⟨_, rfl, .ref b, .ref C, .ref C, .ref C, true, rfl, .own C, pb.ty Y, kit_self, true, rfl, iteT ?_⟩
      refine ⟨_, rfl, a, C, dx, _, _, rfl, ha, T.cl, T.nB, plF_base, _, rfl, b, C, dy, _, _, rfl, hb, T.cl, T.nB, plF_base, rfl, _, rfl, ite2 (fun h1 => ?_) (fun h1 => ?_)⟩
      · refine ⟨_, rfl, a, C, dx, _, _, rfl, ha, T.cl, T.nS, plF_shift, _, rfl, b, C, dy, _, _, rfl, hb, T.cl, T.nS, plF_shift, rfl, ?_⟩
        have e1 : z = y := V.str.inj (of_decide_eq_true h1)
        have e2 : decide (V.int k = V.int i) = decide (k = i) := decide_eq_decide.mpr ⟨fun x => V.int.inj x, fun x => by rw [x]⟩
        rw [decide_eq_true e1, Bool.true_and] at q
        rw [e2]
        exact q
      · have e1 : ¬ z = y := fun x => h1 (decide_eq_true (by rw [x]))
        rw [decide_eq_false e1, Bool.false_and] at q
        exact q
    · exact ⟨_, rfl, y, .ref C, t, .ref C, false, rfl, .own C, ty, kt, false, rfl, iteF q⟩
theorem scAdd : FnScope ["self", "other"] ["self", "other"] (defScope (inClass sPlace 7)) := ⟨rfl, rfl, rfl, by decide +kernel, rfl, by decide +kernel, by decide +kernel⟩
theorem ok_add {f f2 f3 fI C : Addr} {fd fd2 fd3 fdI : FuncData} {t : Tok} {g : List Value → List Value → List Value} (F : Fun K "__add__" "Place.__add__" (inClass sPlace 7) f fd) (T : Cpl K mg C)
    (G2 : FnOk P w K mg base CX0 2 f2 fd2 ["value", "low", "high"] (spIsInt K)) (m2 : mg "is_integer" = some (.ref f2)) (k2 : PySem.W.keepIn K (.ref f2) = true) (b2 : Binds K fd2 ["value", "low", "high"] [])
    (G3 : FnOk P w K mg base CX0 1 f3 fd3 ["base"] spLeast) (m3 : mg "_least_shift" = some (.ref f3)) (k3 : PySem.W.keepIn K (.ref f3) = true) (b3 : Binds K fd3 ["base"] [])
    (mM : mg "_MOST" = some (.int 3 t)) (M : Mk K C fI) (GI : FnOk P w K mg base CX0 3 fI fdI ["self", "base", "shift"] (spInit C)) (kI : KBn K fdI ["self", "base", "shift"] 2 ["shift"] g (fun vs zs => vs ++ zs)) :
    FnOk P w K mg base CX0 5 f fd ["self", "other"] (spAdd C) := by
  refine F.ok scAdd (fun vs H Q E h => ?_) (fun cdv A outer s H vs Q E hr h => ?_)
  · obtain ⟨a, z, k, i, rfl, _⟩ := h
    rfl
  · obtain ⟨a, z, k, i, rfl, ⟨dx, ha⟩, g1, g2, q⟩ := h
    refine ⟨_, PSs.nox (pss_cons (ps_if (pt_not (pt_val (pe_call G2 (hr.mono (by decide)) (by rfl) m2 k2 b2 .nil pass0 (pa_cons (pv 1) (pa_cons (pe_op op_sub (pe_call G3 (hr.mono (by decide)) (by rfl) m3 k3 b3 .nil pass0 (pa_cons (pe_fld (pv 0) rfl) pa_nil)) (pe_fld (pv 0) rfl))
        (pa_cons (pe_op op_sub (pe_glob (v := .int 3) rfl mM ⟨_, rfl⟩) (pe_fld (pv 0) rfl)) pa_nil)))))) (pss_one ps_never) pss_nil)
      (pss_one (ps_ret (pe_makeK M GI hr (by rfl) T.mgC kI pass0 (pa_cons (pe_fld (pv 0) rfl) pa_nil) (pk_cons (pe_op op_add (pe_fld (pv 0) rfl) (pv 1)) pk_nil))))), ?_⟩
    refine ⟨_, rfl, _, rfl, a, C, dx, _, _, rfl, ha, T.cl, T.nB, plF_base, z, rfl, _, rfl, a, C, dx, _, _, rfl, ha, T.cl, T.nS, plF_shift, _, _, rfl, rfl, ?_⟩
    refine ⟨_, rfl, a, C, dx, _, _, rfl, ha, T.cl, T.nS, plF_shift, _, _, rfl, rfl, .int i, _, _, rfl, .int i, _, rfl, ?_⟩
    have e : inB (lowS z - k) (3 - k) (.int i) = true := by
      have h1 := g2.2.2.2.1
      have h2 := g2.2.2.2.2
      show (decide (lowS z - k ≤ i) && decide (i ≤ 3 - k)) = true
      rw [decide_eq_true (by omega), decide_eq_true (by omega)]
      rfl
    rw [e]
    refine iteF ⟨_, rfl, a, C, dx, _, _, rfl, ha, T.cl, T.nB, plF_base, _, rfl, a, C, dx, _, _, rfl, ha, T.cl, T.nS, plF_shift, _, rfl, _, _, rfl, rfl, rfl, rfl, fun p dp np ndp nn => ?_⟩
    refine ⟨p, dp, z, k + i, rfl, upd_same, g2.1, g2.2.1, g2.2.2.1, g2.2.2.2.1, g2.2.2.2.2, fun H' u t' => ⟨rfl, q p H' np (fun r o hro => u r o (ne_of_none hro np) ?_) ⟨dp, t'⟩⟩⟩
    rw [upd_ne (ne_of_none hro np), upd_ne (ne_of_none hro ndp)]
    exact hro
end
end Mz
set_option Elab.async false
set_option linter.all false
set_option maxRecDepth 100000
set_option maxHeartbeats 4000000
namespace Mz
open PySem PySem.Spec PyProof.Rows L2
theorem sign_ok {z : Str} {c : Nat} (ok : PyData.strOk z = true) (h : c ∈ z.cps.toList) : PyData.strOk ⟨#[c]⟩ = true := by
  have h1 : c < 0x110000 := by
    unfold PyData.strOk at ok
    rw [Array.all_eq_true_iff_forall_mem] at ok
    exact of_decide_eq_true (ok c (Array.mem_toList_iff.mp h))
  unfold PyData.strOk
  simp only [Array.all_eq_true_iff_forall_mem]
  intro x hx
  have e : x = c := by simpa using hx
  rw [e]
  exact decide_eq_true h1
/-! texts of a bounded length, of signs that are some -/
def Sm (n : Nat) (z : Str) : Prop := z.length ≤ n ∧ PyData.strOk z = true
theorem strOk_iff {z : Str} : PyData.strOk z = true ↔ ∀ c ∈ z.cps.toList, c < 0x110000 := by
  unfold PyData.strOk
  rw [Array.all_eq_true_iff_forall_mem]
  exact ⟨fun h c hc => of_decide_eq_true (h c (Array.mem_toList_iff.mp hc)), fun h c hc => decide_eq_true (h c (Array.mem_toList_iff.mpr hc))⟩
theorem Sm.mono {n m : Nat} {z : Str} (h : Sm n z) (le : n ≤ m) : Sm m z := ⟨Nat.le_trans h.1 le, h.2⟩
theorem Sm.app {n m : Nat} {y z : Str} (hy : Sm n y) (hz : Sm m z) : Sm (n + m) (y ++ z) := by
  refine ⟨by rw [strLen_append]; exact Nat.add_le_add hy.1 hz.1, strOk_iff.mpr fun c hc => ?_⟩
  have hc2 : c ∈ (y.cps ++ z.cps).toList := hc
  rw [Array.toList_append] at hc2
  rcases List.mem_append.mp hc2 with e | e
  · exact strOk_iff.mp hy.2 c e
  · exact strOk_iff.mp hz.2 c e
theorem Sm.cut {n : Nat} {z : Str} (h : Sm n z) (lo hi : Option Int) : Sm n (cutS z lo hi) := by
  unfold cutS
  refine ⟨?_, strOk_iff.mpr fun c hc => ?_⟩
  · show ((z.cps.toList.drop _).take _).toArray.size ≤ n
    rw [List.size_toArray, List.length_take, List.length_drop]
    have e : z.cps.toList.length = z.length := rfl
    have := h.1
    omega
  · exact strOk_iff.mp h.2 c (List.mem_of_mem_drop (List.mem_of_mem_take hc))
theorem sm_sign {z : Str} {c : Nat} (ok : PyData.strOk z = true) (h : c ∈ z.cps.toList) : Sm 1 ⟨#[c]⟩ := ⟨Nat.le_refl _, sign_ok ok h⟩
theorem join_ok : ∀ l : List Str, (∀ y ∈ l, PyData.strOk y = true) → PyData.strOk (Str.join "" l) = true
  | [], _ => by decide +kernel
  | [x], h => h x List.mem_cons_self
  | x :: y :: r, h => by
    have h1 := h x List.mem_cons_self
    have h2 := join_ok (y :: r) fun z hz => h z (List.mem_cons_of_mem _ hz)
    show PyData.strOk (x ++ "" ++ Str.join "" (y :: r)) = true
    exact (Sm.app (Sm.app ⟨Nat.le_refl _, h1⟩ ⟨Nat.le_refl _, by decide +kernel⟩) ⟨Nat.le_refl _, h2⟩).2
theorem sum_ones : ∀ l : List Str, (∀ y ∈ l, Sm 1 y) → (l.map (·.length)).sum ≤ l.length
  | [], _ => Nat.le_refl _
  | x :: r, h => by
    have h1 := (h x List.mem_cons_self).1
    have h2 := sum_ones r fun z hz => h z (List.mem_cons_of_mem _ hz)
    rw [List.map_cons, List.sum_cons, List.length_cons]
    omega
theorem sm_join {l : List Str} (h : ∀ y ∈ l, Sm 1 y) : Sm l.length (Txt.join "" l) := by
  unfold Txt.join
  rw [StrLaws.glued_eq_join]
  refine ⟨?_, join_ok l fun y hy => (h y hy).2⟩
  have e := StrLaws.join_length_le "" l
  have e2 := sum_ones l h
  have e3 : l.length * ("" : Str).length = 0 := by
    rw [show ("" : Str).length = 0 by decide +kernel, Nat.mul_zero]
  omega
theorem atI_in {a : Type} {l : List a} {i : Int} (h0 : 0 ≤ i) (h1 : i < (l.length : Int)) : ∃ c, atI l i = some c ∧ c ∈ l := by
  obtain ⟨k, rfl⟩ := Int.eq_ofNat_of_zero_le h0
  have hk : k < l.length := by omega
  exact ⟨l[k], atI_nat (List.getElem?_eq_getElem hk), List.getElem_mem hk⟩
theorem str_empty {z : Str} (h : z.length = 0) : z = "" := by
  obtain ⟨l⟩ := z
  have e : l = #[] := Array.eq_empty_of_size_eq_zero h
  rw [e]
  rfl
theorem same_nw {H : Hp} {p : Addr} {o : HO} (h : H p = none) : Same H (upd H p o) := fun q u e => by
  rw [upd_ne (ne_of_none e h)]
  exact e
end Mz
set_option Elab.async false
set_option linter.all false
set_option maxRecDepth 100000
set_option maxHeartbeats 4000000
namespace Mz
open PySem PySem.Spec PyProof.Rows L2
def numS (z : Str) : Option Int := if z = "0" then some 0 else if z = "1" then some 1 else if z = "2" then some 2 else if z = "3" then some 3 else none
def shS (z : Str) : Option Int := if z = "-3" then some (-3) else if z = "-2" then some (-2) else if z = "-1" then some (-1) else if z = "+1" then some 1 else if z = "+2" then some 2 else if z = "+3" then some 3 else none
def headS (z : Str) : Str := cutS z none (some (-2))
def tailS (z : Str) : Str := cutS z (some (-2)) none
/-- what the program reads out of a text -/
def partsS (z : Str) : Option (Str × Int) :=
  match numS z with
  | some n => some ("", n)
  | none => if nameS z = true then some (z, 0) else if nameS (headS z) = true then (match shS (tailS z) with | some k => some (headS z, k) | none => none) else none
/-- a written dict from texts to ints -/
def Tab (K : PySem.W.Frag) (w : World) (d : Addr) (f : Str → Option Int) : Prop := ∃ es n, KDict K w d es n ∧ ∀ z : Str, ∃ r, PySem.W.nsIn K d z = some r ∧ ((f z = none ∧ r = none) ∨ ∃ i t, f z = some i ∧ r = some (.int i t))
def spParts : Sp := fun vs H Q _ => ∃ z : Str, vs = [.str z] ∧ Sm 1000 z ∧ (partsS z = none → ∀ H', Same H H' → Q .non H') ∧ ∀ y k, partsS z = some (y, k) → ∀ p H', Same H H' → H p = none → H' p = some (.tup [.str y, .int k]) → Q (.ref p) H'
section
variable {P : Program} {w : World} {K : PySem.W.Frag} {mg : Str → Option Value} {base : Heap}
theorem scParts : FnScope ["text"] ["text"] (defScope sParts) := ⟨rfl, rfl, rfl, by decide +kernel, rfl, by decide +kernel, by decide +kernel⟩
theorem ok_parts {f f1 dN dS : Addr} {fd fd1 : FuncData} (F : Fun K "_parts_of_text" "_parts_of_text" sParts f fd) (G : FnOk P w K mg base CX0 1 f1 fd1 ["value"] (spIsName K)) (m1 : mg "is_name" = some (.ref f1)) (k1 : PySem.W.keepIn K (.ref f1) = true) (b1 : Binds K fd1 ["value"] [])
    (mN : mg "_NUMBERS" = some (.ref dN)) (mS : mg "_SHIFTS" = some (.ref dS)) (tN : Tab K w dN numS) (tS : Tab K w dS shS) : FnOk P w K mg base CX0 2 f fd ["text"] spParts := by
  refine F.ok scParts (fun vs H Q E h => ?_) (fun cdv A outer s H vs Q E hr h => ?_)
  · obtain ⟨z, rfl, _⟩ := h
    rfl
  · obtain ⟨z, rfl, hz, qn, qs⟩ := h
    obtain ⟨esN, nN, DN, lN⟩ := tN
    obtain ⟨esS, nS, DS, lS⟩ := tS
    have zl : z.length ≤ sizeLine := Nat.le_trans hz.1 (by decide)
    refine ⟨_, pss_cons (ps_if (pt_cmpR (op_in_kd DN) (pv 0) (pe_glob (v := .ref dN) rfl mN rfl) (by rfl)) (pss_one (ps_ret (pe_tup (pa_cons pe_str (pa_cons (pe_ix ix_kdict (pe_glob (v := .ref dN) rfl mN rfl) (pv 0) (fun _ _ => rfl)) pa_nil))))) pss_nil)
      (pss_cons (ps_if (pt_val (pe_call G hr (by rfl) m1 k1 b1 .nil pass0 (pa_cons (pv 0) pa_nil))) (pss_one (ps_ret (pe_tup (pa_cons (pv 0) (pa_cons pe_int pa_nil))))) pss_nil)
      (pss_cons (ps_if (PW.pt (pw_and (pt_val (pe_call G hr (by rfl) m1 k1 b1 .nil pass0 (pa_cons (pe_slice sl_str (pv 0) po_none (po_some (pe_un un_neg pe_int))) pa_nil))) (pw_and1 (pt_cmpR (op_in_kd DS) (pe_slice sl_str (pv 0) (po_some (pe_un un_neg pe_int)) po_none) (pe_glob (v := .ref dS) rfl mS rfl) (by rfl)))))
          (pss_one (ps_ret (pe_tup (pa_cons (pe_slice sl_str (pv 0) po_none (po_some (pe_un un_neg pe_int))) (pa_cons (pe_ix ix_kdict (pe_glob (v := .ref dS) rfl mS rfl) (pe_slice sl_str (pv 0) (po_some (pe_un un_neg pe_int)) po_none) (fun _ _ => rfl)) pa_nil))))) pss_nil)
      (pss_one (ps_ret pe_non)))), ?_⟩
    have kd : ∀ {H' : Hp} {y : Str}, Sm 1000 y → Kd K H' (.str y) := fun h => .str _ h.1 h.2
    obtain ⟨r, er, hr1⟩ := lN z
    refine ⟨_, rfl, z, r, rfl, rfl, er, _, rfl, ?_⟩
    rcases hr1 with ⟨e, rfl⟩ | ⟨i, t, e, rfl⟩
    · refine iteF ?_
      refine ⟨_, rfl, .str z, rfl, kd hz, fun H1 s1 => ⟨_, rfl, ite2 (fun hn => ?_) (fun hn => ?_)⟩⟩
      · have ep : partsS z = some (z, 0) := by
          unfold partsS
          rw [e]
          exact if_pos hn
        exact ⟨_, rfl, (by show 2 ≤ sizeLine; decide), fun p np => qs z 0 ep p _ (s1.trans (same_nw np)) (s1.free np) upd_same⟩
      · have nn : ¬ nameS z = true := hn
        have sh := hz.cut none (some (-2))
        have st := hz.cut (some (-2)) none
        refine ⟨_, rfl, _, rfl, _, rfl, z, rfl, zl, .str (headS z), rfl, kd sh, fun H2 s2 => ⟨_, rfl, ite2 (fun hh => ?_) (fun hh => ?_)⟩⟩
        · have nh : nameS (headS z) = true := hh
          obtain ⟨r, er, hr2⟩ := lS (tailS z)
          refine ⟨_, rfl, _, rfl, _, rfl, z, rfl, zl, tailS z, r, rfl, rfl, er, _, rfl, ?_⟩
          rcases hr2 with ⟨e2, rfl⟩ | ⟨i, t, e2, rfl⟩
          · refine iteF (qn ?_ H2 (s1.trans s2))
            unfold partsS
            rw [e]
            show (if nameS z = true then _ else _) = _
            rw [if_neg nn, if_pos nh, e2]
          · have ep : partsS z = some (headS z, i) := by
              unfold partsS
              rw [e]
              show (if nameS z = true then _ else _) = _
              rw [if_neg nn, if_pos nh, e2]
            refine iteT ⟨_, rfl, _, rfl, _, rfl, z, rfl, zl, ?_⟩
            refine ⟨_, rfl, _, rfl, _, rfl, z, rfl, zl, dS, tailS z, .int i, rfl, rfl, ⟨_, _, _, DS.at_, DS.lit, er, ⟨t, rfl⟩⟩, (by show 2 ≤ sizeLine; decide), fun p np => ?_⟩
            exact qs _ _ ep p _ ((s1.trans s2).trans (same_nw np)) ((s1.trans s2).free np) upd_same
        · refine qn ?_ H2 (s1.trans s2)
          unfold partsS
          rw [e]
          show (if nameS z = true then _ else _) = _
          rw [if_neg nn]
          exact if_neg hh
    · have ep : partsS z = some (("" : Str), i) := by
        unfold partsS
        rw [e]
      refine iteT ⟨_, rfl, dN, z, .int i, rfl, rfl, ⟨_, _, _, DN.at_, DN.lit, er, ⟨t, rfl⟩⟩, (by show 2 ≤ sizeLine; decide), fun p np => ?_⟩
      exact qs _ _ ep p _ (same_nw np) np upd_same
end
end Mz
set_option Elab.async false
set_option linter.all false
set_option maxRecDepth 100000
set_option maxHeartbeats 4000000
namespace Mz
open PySem PySem.Spec PyProof.Rows L2
/-- the types of int, bool, str, None are no places -/
structure Npl (K : PySem.W.Frag) (C : Addr) : Prop where
  int : PySem.W.kitOne K (.type "int") (.ref C) = some false
  bool : PySem.W.kitOne K (.type "bool") (.ref C) = some false
  str : PySem.W.kitOne K (.type "str") (.ref C) = some false
  non : PySem.W.kitOne K (.type "NoneType") (.ref C) = some false
/-- a value that is no place -/
def NoPl (K : PySem.W.Frag) (C : Addr) (H : Hp) (v : V) : Prop := Kd K H v ∧ Oty K C H v
/-- what a value that is no place reads as -/
def ofV : V → Option (Str × Int)
  | .int i => if 0 ≤ i ∧ i ≤ 3 then some ("", i) else none
  | .str z => partsS z
  | _ => none
/-- the exception's class, as the written part has it -/
structure Xcl (K : PySem.W.Frag) (mg : Str → Option Value) (x : Str) (C : Addr) (f : Str) : Prop where
  ox : OexC K C
  no : PySem.W.findIn K (.ref C) f = some none
  m : mg x = some (.ref C)
  xf : XfC K C
def spOf (K : PySem.W.Frag) (C cX : Addr) : Sp := fun vs H Q E => ∃ v, vs = [.ref C, v] ∧
  ((∃ a z k, v = .ref a ∧ Pl C H a z k ∧ Q v H) ∨
    (NoPl K C H v ∧ (∀ z k, ofV v = some (z, k) → ∀ p H', H p = none → Same H H' → Pl C H' p z k → Good z k → Q (.ref p) H') ∧
      (ofV v = none → ∀ d H', H d = none → Same H H' → H' d = some (.xd [("value", v)]) → E (.ref cX) (some d) H')))
theorem good_num {i : Int} (h0 : 0 ≤ i) (h1 : i ≤ 3) : Good "" i := ⟨by decide +kernel, by decide +kernel, .inl rfl, h0, h1⟩
theorem low_name {z : Str} (h : nameS z = true) : lowS z = -3 := if_neg fun e => by
  rw [e] at h
  exact absurd h (by decide +kernel)
theorem good_name {z : Str} {k : Int} (hz : Sm 1000 z) (h : nameS z = true) (h0 : -3 ≤ k) (h1 : k ≤ 3) : Good z k := ⟨hz.1, hz.2, .inr h, by rw [low_name h]; exact h0, h1⟩
theorem numS_rng {z : Str} {n : Int} (h : numS z = some n) : 0 ≤ n ∧ n ≤ 3 := by
  unfold numS at h
  repeat' split at h
  all_goals first | (cases h; omega) | cases h
theorem shS_rng {z : Str} {n : Int} (h : shS z = some n) : -3 ≤ n ∧ n ≤ 3 := by
  unfold shS at h
  repeat' split at h
  all_goals first | (cases h; omega) | cases h
theorem parts_good {z y : Str} {k : Int} (hz : Sm 1000 z) (h : partsS z = some (y, k)) : Good y k := by
  unfold partsS at h
  cases e : numS z with
  | some n =>
    rw [e] at h
    cases h
    exact good_num (numS_rng e).1 (numS_rng e).2
  | none =>
    rw [e] at h
    dsimp only at h
    by_cases hn : nameS z = true
    · rw [if_pos hn] at h
      cases h
      exact good_name hz hn (by decide) (by decide)
    · rw [if_neg hn] at h
      by_cases hh : nameS (headS z) = true
      · rw [if_pos hh] at h
        cases e2 : shS (tailS z) with
        | none =>
          rw [e2] at h
          cases h
        | some i =>
          rw [e2] at h
          cases h
          exact good_name (hz.cut _ _) hh (shS_rng e2).1 (shS_rng e2).2
      · rw [if_neg hh] at h
        cases h
section
variable {P : Program} {w : World} {K : PySem.W.Frag} {mg : Str → Option Value} {base : Heap}
theorem scXinit : FnScope ["self", "value"] ["self", "value"] (defScope (inClass sInvPlace 0)) := ⟨rfl, rfl, rfl, by decide +kernel, rfl, by decide +kernel, by decide +kernel⟩
theorem ok_xinit {f C cM : Addr} {fd : FuncData} (F : Fun K "__init__" "InvalidPlace.__init__" (inClass sInvPlace 0) f fd) (T : Xcl K mg "InvalidPlace" C "value") (mM : mg "MapError" = some (.ref cM)) (rd : ClX.CRead K cM (.type "type"))
    (fc : PySem.W.findCls K (.ref cM) (.type "type") "__init__" = some (.val (.builtin "ValueError.__init__"))) : FnOk P w K mg base CX0 1 f fd ["self", "value"] (spX1 K C "value") := by
  refine F.ok scXinit (fun vs H Q E h => ?_) (fun cdv A outer s H vs Q E hr h => ?_)
  · obtain ⟨a, v, rfl, _⟩ := h
    rfl
  · obtain ⟨a, v, rfl, ha, q⟩ := h
    refine ⟨_, pss_cons (ps_expr (pe_meinit (by rfl) mM rd fc (pa_cons (pv 0) (pa_cons pe_str pa_nil)))) (pss_one (ps_ost (pv 0) (pv 1))), ?_⟩
    refine ⟨_, rfl, a, C, _, rfl, (by show 1 ≤ 1000; decide), T.ox, ha, ?_⟩
    exact ⟨_, rfl, _, rfl, a, C, rfl, T.ox, T.no, .inl ⟨ha, fun dx n1 n2 => q dx n1 n2⟩⟩
theorem scOf : FnScope ["cls", "value", "parts", "base", "shift"] ["cls", "value"] (defScope (inClass sPlace 1)) := ⟨rfl, rfl, rfl, by decide +kernel, rfl, by decide +kernel, by decide +kernel⟩
theorem ok_of {f f2 fp fI C cX fX : Addr} {fd fd2 fdp fdI fdX : FuncData} {t : Tok} {g1 g2 : List Value → List Value → List Value} (F : Fun K "of" "Place.of" (inClass sPlace 1) f fd) (T : Cpl K mg C) (Y : Pty K C) (N : Npl K C) (B : Blt mg) (D : Blp mg)
    (G2 : FnOk P w K mg base CX0 2 f2 fd2 ["value", "low", "high"] (spIsInt K)) (m2 : mg "is_integer" = some (.ref f2)) (k2 : PySem.W.keepIn K (.ref f2) = true) (b2 : Binds K fd2 ["value", "low", "high"] [])
    (Gp : FnOk P w K mg base CX0 2 fp fdp ["text"] spParts) (mp : mg "_parts_of_text" = some (.ref fp)) (kp : PySem.W.keepIn K (.ref fp) = true) (bp : Binds K fdp ["text"] [])
    (mM : mg "_MOST" = some (.int 3 t)) (M : Mk K C fI) (GI : FnOk P w K mg base CX0 3 fI fdI ["self", "base", "shift"] (spInit C)) (kI1 : KBn K fdI ["self", "base", "shift"] 1 ["shift"] g1 (fun vs zs => vs ++ [.str ""] ++ zs)) (kI2 : KBn K fdI ["self", "base", "shift"] 2 ["shift"] g2 (fun vs zs => vs ++ zs))
    (TX : Xcl K mg "InvalidPlace" cX "value") (GX : FnOk P w K mg base CX0 1 fX fdX ["self", "value"] (spX1 K cX "value")) (iX : PySem.W.findIn K (.ref cX) "__init__" = some (some (.ref fX))) (tX : PySem.W.typeIn K (.ref fX) = some (.type "function")) (bX : Binds K fdX ["self", "value"] []) :
    FnOk P w K mg base (L2.CX P w) 5 f fd ["cls", "value"] (spOf K C cX) := by
  refine F.okX scOf (fun vs H Q E h => ?_) (fun cdv A outer s H vs Q E hr h => ?_)
  · obtain ⟨v, rfl, _⟩ := h
    rfl
  · obtain ⟨v, rfl, h⟩ := h
    have nd := scOf.nd
    have hr2 : Room 2 _ := hr.mono (by decide)
    refine ⟨_, pss_cons (ps_if (pt_val (pe_callB call_isi (by rfl) D.isi (by decide +kernel) (pa_cons (pv 1) (pa_cons (pe_glob (v := .ref C) rfl T.mgC rfl) pa_nil)))) (pss_one (ps_ret (pv 1))) pss_nil)
      (pss_cons (ps_if (pt_val (pe_call G2 hr2 (by rfl) m2 k2 b2 .nil pass0 (pa_cons (pv 1) (pa_cons pe_int (pa_cons (pe_glob (v := .int 3) rfl mM ⟨_, rfl⟩) pa_nil))))) (pss_one (ps_ret (pe_makeL0 (i := 0) rfl (.inl rfl) M GI hr kI1 pass0 (pk_cons (pv 1) pk_nil)))) pss_nil)
      (pss_cons (ps_set (i := 2) nd rfl (Or.inl rfl) (pe_ifExp (pt_val (pe_callB call_isi (by rfl) D.isi (by decide +kernel) (pa_cons (pv 1) (pa_cons (pe_bltn (v := .ty "str") (by rfl) D.str (by decide +kernel) rfl) pa_nil))))
        (pe_call Gp hr2 (by rfl) mp kp bp .nil pass0 (pa_cons (pv 1) pa_nil)) pe_non))
      (pss_cons (ps_if (pt_cmpR op_isN (pv 2) pe_non (nomark _)) (pss_one (ps_raise rfl (takes_of rfl rfl rfl rfl) (pmk_oex TX.ox iX tX GX (hr.mono (by decide)) bX .nil pass0 (by rfl) TX.m (pa_cons (pv 1) pa_nil)))) pss_nil)
      (pss_cons (ps_asg (pv 2) (pg_tup (by rfl) (pgs_cons (pg_name (i := 3) nd rfl (.inl rfl)) (pgs_cons (pg_name (i := 4) nd rfl (.inl rfl)) pgs_nil))))
      (pss_one (ps_ret (pe_makeL (i := 0) rfl (.inl rfl) M GI hr kI2 pass0 (pa_cons (pv 3) pa_nil) (pk_cons (pv 4) pk_nil)))))))), ?_⟩
    generalize hT4 : tSeq (tIfS (tTest _) (fun _ _ _ => _) _) _ = T4
    have made : ∀ (H1 : Hp), Same H H1 → ∀ y k, Good y k → (∀ p H', H p = none → Same H H' → Pl C H' p y k → Q (.ref p) H') → ∀ x dx, H1 x = none → H1 dx = none → dx ≠ x →
        spInit C [.ref x, .str y, .int k] (upd (upd H1 dx (.own x)) x (.ins C dx [])) (fun v H2 => v = .non ∧ Q (.ref x) H2) E0 := by
      intro H1 s1 y k g qq x dx nx ndx nn
      refine ⟨x, dx, y, k, rfl, upd_same, g.1, g.2.1, g.2.2.1, g.2.2.2.1, g.2.2.2.2, fun H' u t' => ⟨rfl, qq x H' (s1.free nx) (fun r o hro => u r o (ne_of_none (s1 _ _ hro) nx) ?_) ⟨dx, t'⟩⟩⟩
      rw [upd_ne (ne_of_none (s1 _ _ hro) nx), upd_ne (ne_of_none (s1 _ _ hro) ndx)]
      exact s1 _ _ hro
    have rest0 : ∀ H1, Same H H1 → (∀ d H', H d = none → Same H H' → H' d = some (.xd [("value", v)]) → E (.ref cX) (some d) H') → T4 { nx := fun _ H' => Q .non H', rt := Q } [some (.ref C), some v, some .non, none, none] H1 := by
      intro H1 s1 qE
      rw [← hT4]
      refine ⟨_, rfl, rfl, _, rfl, ite2 (fun _ => ?_) (fun x => (x (decide_eq_true rfl)).elim)⟩
      refine ⟨_, rfl, (by show 1 ≤ 1000; decide), fun a na => ⟨a, v, rfl, upd_same, fun dx n1 n2 => ⟨rfl, dx, [("value", v)], upd_same, ?_, ?_, ?_⟩⟩⟩
      · rw [upd_ne n2, upd_same]
      · rw [upd_ne n2] at n1
        exact n1
      · have n3 : H1 dx = none := by
          rw [upd_ne n2] at n1
          exact n1
        refine qE dx _ (s1.free n3) (fun b o hb => ?_) upd_same
        have x1 : b ≠ dx := ne_of_none (s1 _ _ hb) n3
        have x2 : b ≠ a := ne_of_none (s1 _ _ hb) na
        rw [upd_ne x1, del_ne x2, upd_ne x2, upd_ne x1, upd_ne x2]
        exact s1 _ _ hb
    have rest1 : ∀ H1 p y k, Same H H1 → H1 p = some (.tup [.str y, .int k]) → Good y k → (∀ p H', H p = none → Same H H' → Pl C H' p y k → Q (.ref p) H') → T4 { nx := fun _ H' => Q .non H', rt := Q } [some (.ref C), some v, some (.ref p), none, none] H1 := by
      intro H1 p y k s1 hp g qq
      rw [← hT4]
      refine ⟨_, rfl, rfl, _, rfl, ite2 (fun x => ?_) (fun _ => ?_)⟩
      · cases of_decide_eq_true x
      · refine ⟨_, rfl, p, _, rfl, SqT.of hp, rfl, ?_⟩
        exact ⟨_, _, rfl, _, _, rfl, rfl, rfl, _, rfl, _, rfl, rfl, rfl, made H1 s1 y k g qq⟩
    clear hT4
    refine ⟨_, rfl, ?_⟩
    rcases h with ⟨a, z, k, rfl, pa, q⟩ | ⟨⟨hk, t0, ty0, kt0⟩, qs, qE⟩
    · exact ⟨.ref a, .ref C, .ref C, .ref C, true, rfl, .own C, pa.ty Y, kit_self, true, rfl, iteT ⟨_, rfl, q⟩⟩
    · refine ⟨v, .ref C, t0, .ref C, false, rfl, .own C, ty0, kt0, false, rfl, iteF ?_⟩
      refine ⟨_, rfl, v, 0, 3, rfl, hk, _, rfl, ?_⟩
      cases hk with
      | int i =>
        refine ite2 (fun hc => ?_) (fun hc => ?_)
        · have hc2 : (decide (0 ≤ i) && decide (i ≤ 3)) = true := hc
          obtain ⟨h1, h2⟩ := Bool.and_eq_true_iff.mp hc2
          have h1 := of_decide_eq_true h1
          have h2 := of_decide_eq_true h2
          have e : ofV (.int i) = some (("" : Str), i) := if_pos ⟨h1, h2⟩
          exact ⟨rfl, _, rfl, rfl, rfl, made H (Same.refl H) "" i (good_num h1 h2) fun p H' n1 n2 n3 => qs "" i e p H' n1 n2 n3 (good_num h1 h2)⟩
        · have e : ofV (.int i) = none := if_neg fun x => hc (by
            show (decide (0 ≤ i) && decide (i ≤ 3)) = true
            rw [decide_eq_true x.1, decide_eq_true x.2]
            rfl)
          exact ⟨_, rfl, _, _, _, _, false, rfl, .ty _, .base (.int i), kit_ty (by decide +kernel), false, rfl, iteF (rest0 H (Same.refl H) (qE e))⟩
      | bl b => exact iteF ⟨_, rfl, _, _, _, _, false, rfl, .ty _, .base (.bl b), kit_ty (by decide +kernel), false, rfl, iteF (rest0 H (Same.refl H) (qE rfl))⟩
      | non => exact iteF ⟨_, rfl, _, _, _, _, false, rfl, .ty _, .base .non, kit_ty (by decide +kernel), false, rfl, iteF (rest0 H (Same.refl H) (qE rfl))⟩
      | oth a t ty ki ks => exact iteF ⟨_, rfl, _, _, _, _, false, rfl, .ty _, ty, ks, false, rfl, iteF (rest0 H (Same.refl H) (qE rfl))⟩
      | str z hz ok =>
        refine iteF ⟨_, rfl, _, _, _, _, true, rfl, .ty _, .base (.str z), kit_ty (by decide +kernel), true, rfl, iteT ⟨_, rfl, z, rfl, ⟨hz, ok⟩, fun e H1 s1 => rest0 H1 s1 (qE e), fun y k e p H1 s1 np hp => ?_⟩⟩
        have g := parts_good ⟨hz, ok⟩ e
        exact rest1 H1 p y k s1 hp g fun p H' n1 n2 n3 => qs y k e p H' n1 n2 n3 g
end
end Mz
set_option Elab.async false
set_option linter.all false
set_option maxRecDepth 100000
set_option maxHeartbeats 4000000
namespace Mz
open PySem PySem.Spec PyProof.Rows L2
/-! letters, by order and by the alphabet -/
def loC (c : Nat) : Bool := !decide ((⟨#[c]⟩ : Str).cps.toList < ("a" : Str).cps.toList)
def hiC (c : Nat) : Bool := !decide (("z" : Str).cps.toList < (⟨#[c]⟩ : Str).cps.toList)
theorem abc_range : abc.cps.toList = List.range' 97 26 := by decide +kernel
theorem one_lt (a b : Nat) : ([a] : List Nat) < [b] ↔ a < b := by
  rw [List.cons_lt_cons_iff]
  simp
theorem letter_eq (c : Nat) : (loC c && hiC c) = decide (c ∈ abc.cps.toList) := by
  have e1 : loC c = decide (97 ≤ c) := by
    unfold loC
    rw [show ("a" : Str).cps.toList = [97] by decide +kernel]
    show (!decide (([c] : List Nat) < [97])) = _
    rw [decide_eq_decide.mpr (one_lt c 97)]
    by_cases h : c < 97
    · rw [decide_eq_true h, decide_eq_false (by omega)]; rfl
    · rw [decide_eq_false h, decide_eq_true (by omega)]; rfl
  have e2 : hiC c = decide (c ≤ 122) := by
    unfold hiC
    rw [show ("z" : Str).cps.toList = [122] by decide +kernel]
    show (!decide (([122] : List Nat) < [c])) = _
    rw [decide_eq_decide.mpr (one_lt 122 c)]
    by_cases h : 122 < c
    · rw [decide_eq_true h, decide_eq_false (by omega)]; rfl
    · rw [decide_eq_false h, decide_eq_true (by omega)]; rfl
  rw [e1, e2, abc_range, ← Bool.decide_and]
  refine decide_eq_decide.mpr ?_
  rw [List.mem_range'_1]
  omega
theorem dp_strs {K : PySem.W.Frag} {H : Hp} : ∀ l : List Str, DpAll K H (l.map V.str) (l.map PyData.str)
  | [] => .nil
  | z :: l => .cons (.str z) (dp_strs l)
theorem strs_lay : ∀ l : List Str, (∀ z ∈ l, PyData.strOk z = true) → PyData.canLayAll0 (l.map PyData.str) = true ∧ PyData.depthAll (l.map PyData.str) = 0
  | [], _ => ⟨rfl, rfl⟩
  | z :: l, ok => by
    obtain ⟨h1, h2⟩ := strs_lay l fun y hy => ok y (List.mem_cons_of_mem _ hy)
    have h3 := ok z List.mem_cons_self
    rw [List.map_cons]
    refine ⟨?_, ?_⟩
    · simp [PyData.canLayAll0, PyData.canLay0, h1, h3]
    · simp [PyData.depthAll, PyData.depth, h2]
theorem shaped_strs (l : List Str) (ok : ∀ z ∈ l, PyData.strOk z = true) : SeqAt.shaped (.list (l.map PyData.str)) = true := by
  obtain ⟨h1, h2⟩ := strs_lay l ok
  unfold SeqAt.shaped
  simp [PyData.canLay0, PyData.depth, h1, h2]
theorem eqv_nil {xs : List PyData} : PyData.eqv (.list xs) (.list []) = xs.isEmpty := by
  cases xs <;> rfl
end Mz
set_option Elab.async false
set_option linter.all false
set_option maxRecDepth 100000
set_option maxHeartbeats 4000000
/-! a class called in a try: what is raised is wished for at the caller's slots -/
namespace Mz
open PySem PySem.Spec PyProof.Rows L2
section
variable {X : Cx} {CX : CXT} {k n : Nat} {f C : Addr} {fd : FuncData} {ps ks : List Str} {sp : Sp} {x : Str} {p pos : Pos} {e : Expr} {es : List Expr} {kws : List Keyword} {t tk : TA} {g : List Value → List Value → List Value} {gV : List V → List V → List V}
theorem run_makeKS {E : XK} {pins : List (Addr × Obj)} {σ : L2.St} {H : Hp} {s : Shared} {Q : VK} {us ws : List Value} {vs zs : List V} (M : Mk X.K C f) (F : FnOk X.prog X.w X.K X.mg X.base CX k f fd ps sp) (hr : Room (k + 1) X.A) (hb : KBn X.K fd ps (n + 1) ks g gV) (hx : PassesAt CX X σ E)
    (I : Inv X pins σ H s) (r : Vals vs us) (rz : Vals zs ws) (l1 : vs.length = n) (l2 : zs.length = ks.length)
    (h : ∀ x dx, H x = none → H dx = none → dx ≠ x → sp (gV (.ref x :: vs) zs) (upd (upd H dx (.own x)) x (.ins C dx [])) (fun v H2 => v = .non ∧ Q (.ref x) H2) E) :
    wpAny (model X.prog X.w) X.A (call (.ref C) us (ks.zip ws)) (EP X pins σ Q) X.xe s := by
  have hq := h (s.heap.objs.size + 1) s.heap.objs.size (I.hok.fresh (Nat.le_succ _)) (I.hok.fresh (Nat.le_refl _)) (Nat.ne_of_lt (Nat.lt_succ_self _))
  have I2 := Inv.made (C := C) I
  have r1 : Vals (V.ref (s.heap.objs.size + 1) :: vs) (Value.ref (s.heap.objs.size + 1) :: us) := .cons rfl r
  have r2 := hb.rel r1 rz
  have n1 : (Value.ref (s.heap.objs.size + 1) :: us).length = n + 1 := by
    rw [List.length_cons, ← r.length, l1]
  refine wpAny_call (make_map (f := f) I.kIn M.makes M.init (beq_iff_eq.mp M.fn) (codeAny_mono (F.run _ X.stack _ _ ⟨Value.ref (s.heap.objs.size + 1) :: us, ks.zip ws⟩ (g (Value.ref (s.heap.objs.size + 1) :: us) ws) _ _ E (hr.make C us (ks.zip ws))
    (I2.env0.make C us (ks.zip ws)) (hb.to _ (Value.ref (s.heap.objs.size + 1) :: us) ws I2.kIn n1 (rz.length.symm.trans l2)) r2 hq) fun r s' hq' => ?_))
  cases r with
  | error e => exact hx pins _ _ e s' I2 hq'
  | ok fl =>
    cases fl with
    | ret u =>
      obtain ⟨v, H', I3, rv, ev, q3⟩ := I2.after hq'
      subst ev
      exact ⟨rv, ⟨V.ref (s.heap.objs.size + 1), H', I3, rfl, q3⟩⟩
    | next => exact False.elim hq'
    | brk => exact False.elim hq'
    | cont => exact False.elim hq'
/-- C(e, .., k = v, ..) -/
theorem pe_makeKS {ES : L2.St → XK} (M : Mk X.K C f) (F : FnOk X.prog X.w X.K X.mg X.base CX k f fd ps sp) (hr : Room (k + 1) X.A) (hg : Gl X x) (hm : X.mg x = some (.ref C)) (hb : KBn X.K fd ps (n + 1) ks g gV) (hx : ∀ σ, PassesAt CX X σ (ES σ)) (ha : PA X (e :: es) t) (hkw : PK X kws tk)
    (hall : (backToKw pos (keywordEach kws X.env)).all (·.1.isSome) = true := by rfl) (hks : (backToKw pos (keywordEach kws X.env)).filterMap (·.1) = ks := by rfl) (hdb : (x == ("__debug__" : Str)) = false := by decide)
    (he : starEach (e :: es) X.env = (false, eval e X.env) :: starEach es X.env := by rfl) (hpl : ((backTo pos (starEach (e :: es) X.env)).any (·.1) || (backToKw pos (keywordEach kws X.env)).any (·.1.isNone)) = false := by rfl) :
    PE X (.Call (.Name x p) (e :: es) kws pos) (fun σ H Q => tMakeK C n ks.length sp gV (ES σ) t tk σ H Q) := by
  refine ⟨fun pins s σ H Q I h => ?_⟩
  refine wpAny_Call_Name_kw (ld_glob I hg hm ?_ hdb)
  refine PySem.W.callWith_KW (h₀ := X.base) I.ok.mod.kin M.kp hall (thn (ha.run pos pins s σ H _ I h) fun us s1 ⟨vs, H1, I1, r, q⟩ => ?_) hpl he
  refine thn (hkw.run pos pins s1 σ H1 _ I1 q) fun ws s2 ⟨zs, H2, I2, rz, l1, l2, q2⟩ => ⟨I2.kIn, ?_⟩
  rw [hks]
  exact run_makeKS M F hr hb (hx σ) I2 r rz l1 l2 q2
/-- f"{x}", x an instance with an own __str__ -/
theorem pe_fmtO {j : Nat} {te : TE} (he : PE X e te) (F : FnOk X.prog X.w X.K X.mg X.base CX0 j f fd ["self"] sp) (hr : Room (j + 2) X.A) (hb : Binds X.K fd ["self"] []) (hs : PySem.W.findIn X.K (.ref C) "__str__" = some (some (.ref f))) (hf : PySem.W.isFn X.K (.ref f) = true)
    (hfm : PySem.W.findIn X.K (.ref C) "__format__" = some (some (.builtin "object.__format__"))) (hm : PySem.W.mroIn X.K C (.type "object") = some true) :
    PE X (.FormattedValue e (-1) none pos) (fun σ H Q => te σ H fun x H1 => ∃ a dx fs, x = .ref a ∧ H1 a = some (.ins C dx fs) ∧ sp [.ref a] H1 (fun v H2 => ∃ z : Str, v = .str z ∧ z.length ≤ sizeLine ∧ Q (.str z) H2) E0) := by
  refine ⟨fun pins s σ H Q I h => ?_⟩
  refine wpAny_FormattedValue_plain (thn (he.run pins s σ H _ I h) fun v s1 hv => ?_)
  obtain ⟨x, H1, I1, r1, a, dx, fs, rfl, ha, q⟩ := hv
  obtain rfl : v = Value.ref a := r1
  obtain ⟨mA, O, _⟩ := ins_get I1.hok ha
  obtain ⟨od, J, _⟩ := O.look
  refine PySem.W.kfo_fieldS hr.in1.units0 I1.kIn J hfm hm hs hf ?_
  refine wpAny_mono (run_at (E := E0) (E2 := X.xe) (vs := [.ref a]) (us := [.ref a]) (F.mono (Nat.le_refl _)) (hr.in1.mono (Nat.le_succ _)) (I1.tok _).env0.in1 hb (fun _ _ z => z.elim) (I1.tok _) (.cons rfl .nil) q) (fun u s2 hv => ?_) fun _ _ z => z
  obtain ⟨w, H2, I2, rv, z, rfl, _, q2⟩ := hv
  obtain ⟨tk, rfl⟩ := rv
  exact ⟨.str z, H2, I2, ⟨tk, rfl⟩, q2⟩
end
end Mz
set_option Elab.async false
set_option linter.all false
set_option maxRecDepth 100000
set_option maxHeartbeats 4000000
namespace Mz
open PySem PySem.Spec PyProof.Rows L2
theorem pos_len {z : Str} (h : ¬ z = "") : 0 < z.length := Nat.pos_of_ne_zero fun x => h (str_empty x)
theorem int_fits {i : Int} (h0 : 0 ≤ i) (h1 : i < 12) : i.natAbs.log2 < 1920 := by
  have h : i.natAbs < 2 ^ 4 := by omega
  exact Nat.lt_trans (PySem.Flt.log2_lt_of (by decide) h) (by decide)
theorem sm_str12 {i : Int} (h0 : 0 ≤ i) (h1 : i < 12) : Sm 100 (Str.ofString (toString i)) := by
  obtain ⟨k, rfl⟩ := Int.eq_ofNat_of_zero_le h0
  have hk : k < 12 := by omega
  have all : ∀ k : Fin 12, Sm 100 (Str.ofString (toString ((k.val : Nat) : Int))) := by
    unfold Sm
    decide +kernel
  exact all ⟨k, hk⟩
/-- repr of data or of a text with a dict -/
def rReprU (K : PySem.W.Frag) : List V → Hp → VK → Prop := fun xs H Q => rReprD K xs H Q ∨ rRepr2 xs H Q
theorem call_reprU {X : Cx} (g0 : X.A.guards = some []) (hu : X.A.units + 64 < cLine) : CallR X (.builtin "repr") (rReprU X.K) := by
  intro pins s σ H xs us Q I r h
  rcases h with h | h
  · exact call_reprD g0 hu pins s σ H xs us Q I r h
  · exact call_repr2 g0 hu pins s σ H xs us Q I r h
theorem list2_len (a b : Str) : (listText [a, b]).length = a.length + b.length + 4 := by
  show ((("[" ++ ((if 0 > 0 then ", " else "" : String) : Str) ++ a) ++ ((if 1 > 0 then ", " else "" : String) : Str) ++ b) ++ "]" : Str).length = _
  rw [if_neg (by decide), if_pos (by decide)]
  simp only [strLen_append]
  have e1 : (("[" : String) : Str).length = 1 := by decide +kernel
  have e2 : (("" : String) : Str).length = 0 := by decide +kernel
  have e3 : ((", " : String) : Str).length = 2 := by decide +kernel
  have e4 : (("]" : String) : Str).length = 1 := by decide +kernel
  rw [e1, e2, e3, e4]
  omega
theorem list3_len (a b c : Str) : (listText [a, b, c]).length = a.length + b.length + c.length + 6 := by
  show (((("[" ++ ((if 0 > 0 then ", " else "" : String) : Str) ++ a) ++ ((if 1 > 0 then ", " else "" : String) : Str) ++ b) ++ ((if 2 > 0 then ", " else "" : String) : Str) ++ c) ++ "]" : Str).length = _
  rw [if_neg (by decide), if_pos (by decide), if_pos (by decide)]
  simp only [strLen_append]
  have e1 : (("[" : String) : Str).length = 1 := by decide +kernel
  have e2 : (("" : String) : Str).length = 0 := by decide +kernel
  have e3 : ((", " : String) : Str).length = 2 := by decide +kernel
  have e4 : (("]" : String) : Str).length = 1 := by decide +kernel
  rw [e1, e2, e3, e4]
  omega
theorem repr_len {z : Str} {n : Nat} (h : Sm n z) : (reprText z).length ≤ 10 * n + 2 := by
  have h1 := StrLaws.reprText_len z fun c hc => Nat.lt_trans (strOk_iff.mp h.2 c hc) (by decide)
  have h2 := h.1
  omega
theorem kshift_text {k : Int} (h0 : -3 ≤ k) (h1 : k ≤ 3) : (Str.ofString (toString k)).length ≤ 10 := by
  have all : ∀ i : Fin 7, (Str.ofString (toString (((i.val : Nat) : Int) - 3))).length ≤ 10 := by decide +kernel
  obtain ⟨i, hi⟩ := Int.eq_ofNat_of_zero_le (show 0 ≤ k + 3 by omega)
  have e : k = ((i : Nat) : Int) - 3 := by omega
  rw [e]
  exact all ⟨i, by omega⟩
section
variable {P : Program} {w : World} {K : PySem.W.Frag} {mg : Str → Option Value} {base : Heap}
/-- _law_take of the text -/
structure Tk (P : Program) (w : World) (K : PySem.W.Frag) (mg : Str → Option Value) (base : Heap) (f : Addr) (fd : FuncData) : Prop where
  ok : FnOk P w K mg base CX0 1 f fd ["_law_box_here", "_law_many"] spTake
  m : mg "_law_take" = some (.ref f)
  k : PySem.W.keepIn K (.ref f) = true
  b : Binds K fd ["_law_box_here", "_law_many"] []
end
theorem Bx.same {H H' : Hp} {b : Addr} {n : Nat} (s : Same H H') (h : Bx H b n) : Bx H' b n := by
  obtain ⟨x, y, z, e, r⟩ := h
  exact ⟨x, y, z, s _ _ e, r⟩
theorem Kp.same {H H' : Hp} {b : Addr} (s : Same H H') : Kp b H H' := fun p o _ e => s p o e
theorem ty_at {K : PySem.W.Frag} {H H' : Hp} {v : V} {t : Value} (s : ∀ a, v = .ref a → ∀ o, H a = some o → H' a = some o) (h : TyX K H v t) : TyX K H' v t := by
  cases h with
  | base b =>
    cases b with
    | non => exact .base .non
    | bl x => exact .base (.bl x)
    | int i => exact .base (.int i)
    | str x => exact .base (.str x)
    | flt x => exact .base (.flt x)
    | lst e => exact .base (.lst (s _ rfl _ e))
    | frz e => exact .base (.frz (s _ rfl _ e))
    | tup e => exact .base (.tup (s _ rfl _ e))
    | dK e => exact .base (.dK (s _ rfl _ e))
    | dT e => exact .base (.dT (s _ rfl _ e))
    | ins e cl ha hn htk hm => exact .base (.ins (s _ rfl _ e) cl ha hn htk hm)
  | byt b => exact .byt b
  | set e => exact .set (s _ rfl _ e)
  | kList e c => exact .kList e c
  | kTuple e c => exact .kTuple e c
  | kDict e c => exact .kDict e c
  | fTuple e => exact .fTuple (s _ rfl _ e)
  | fDict e => exact .fDict (s _ rfl _ e)
theorem Kd.at {K : PySem.W.Frag} {H H' : Hp} {v : V} (s : ∀ a, v = .ref a → ∀ o, H a = some o → H' a = some o) (h : Kd K H v) : Kd K H' v := by
  cases h with
  | int i => exact .int i
  | bl b => exact .bl b
  | str z h ok => exact .str z h ok
  | non => exact .non
  | oth a t ty ki ks => exact .oth a t (ty_at s ty) ki ks
/-- data that holds no object, or a list or tuple of such -/
inductive Flt : V → PyData → Prop
  | non : Flt .non .none
  | bl (b : Bool) : Flt (.bl b) (.bool b)
  | int (i : Int) : Flt (.int i) (.int i)
  | str (x : Str) : Flt (.str x) (.str x)
inductive FltAll : List V → List PyData → Prop
  | nil : FltAll [] []
  | cons {v : V} {d : PyData} {vs : List V} {ds : List PyData} : Flt v d → FltAll vs ds → FltAll (v :: vs) (d :: ds)
inductive Fl (H : Hp) : V → PyData → Prop
  | flat {v : V} {d : PyData} (h : Flt v d) : Fl H v d
  | lst {a : Addr} {xs : List V} {ds : List PyData} (h : H a = some (.lst xs)) (f : FltAll xs ds) : Fl H (.ref a) (.list ds)
  | tup {a : Addr} {xs : List V} {ds : List PyData} (h : H a = some (.tup xs)) (f : FltAll xs ds) : Fl H (.ref a) (.tuple ds)
theorem Flt.dp {K : PySem.W.Frag} {H : Hp} {v : V} {d : PyData} (h : Flt v d) : Dp K H v d := by
  cases h with
  | non => exact .non
  | bl b => exact .bl b
  | int i => exact .int i
  | str x => exact .str x
theorem FltAll.dp {K : PySem.W.Frag} {H : Hp} : ∀ {vs : List V} {ds : List PyData}, FltAll vs ds → DpAll K H vs ds
  | _, _, .nil => .nil
  | _, _, .cons h r => .cons h.dp r.dp
theorem Fl.dp {K : PySem.W.Frag} {H : Hp} {v : V} {d : PyData} (h : Fl H v d) : Dp K H v d := by
  cases h with
  | flat h => exact h.dp
  | lst h f => exact .lst (SqL.of h) f.dp
  | tup h f => exact .tup (SqT.of h) f.dp
theorem Fl.at {H H' : Hp} {v : V} {d : PyData} (s : ∀ a, v = .ref a → ∀ o, H a = some o → H' a = some o) (h : Fl H v d) : Fl H' v d := by
  cases h with
  | flat h => exact .flat h
  | lst h f => exact .lst (s _ rfl _ h) f
  | tup h f => exact .tup (s _ rfl _ h) f
/-- what can be shown -/
def Fit (d : PyData) : Prop := PyData.showable d = true ∧ PyData.hasDict d = false ∧ PyData.depth d < 50 ∧ (PyData.shown d).length ≤ 2000
/-- data that is no text -/
def Fb (K : PySem.W.Frag) (H : Hp) (v : V) : Prop := (∃ d, Fl H v d ∧ Fit d ∧ SeqAt.shaped d = true ∧ PyData.eqv d (.str "") = false) ∧ Kd K H v ∧ ∀ z, v ≠ .str z
/-- a base -/
def Bs (K : PySem.W.Frag) (C : Addr) (H : Hp) (v : V) : Prop := (∃ z, v = .str z ∧ Sm 100 z) ∨ Fb K H v ∨ ∃ a, v = .ref a ∧ Pl C H a "n" 0
/-- a shift -/
def Sv (K : PySem.W.Frag) (H : Hp) (v : V) : Prop := (∃ d, Fl H v d ∧ Fit d) ∧ Kd K H v
section
variable {K : PySem.W.Frag} {C : Addr} {H H' : Hp} {v : V}
theorem Fb.at (s : ∀ a, v = .ref a → ∀ o, H a = some o → H' a = some o) (h : Fb K H v) : Fb K H' v := by
  obtain ⟨⟨d, h1, h2⟩, h3, h4⟩ := h
  exact ⟨⟨d, h1.at s, h2⟩, h3.at s, h4⟩
theorem Bs.at (s : ∀ a, v = .ref a → ∀ o, H a = some o → H' a = some o) (h : Bs K C H v) : Bs K C H' v := by
  rcases h with h | h | ⟨a, rfl, dx, ha⟩
  · exact .inl h
  · exact .inr (.inl (h.at s))
  · exact .inr (.inr ⟨a, rfl, dx, s a rfl _ ha⟩)
theorem Sv.at (s : ∀ a, v = .ref a → ∀ o, H a = some o → H' a = some o) (h : Sv K H v) : Sv K H' v := by
  obtain ⟨⟨d, h1, h2⟩, h3⟩ := h
  exact ⟨⟨d, h1.at s, h2⟩, h3.at s⟩
theorem Bs.same (s : Same H H') (h : Bs K C H v) : Bs K C H' v := h.at fun a _ o e => s a o e
theorem Sv.same (s : Same H H') (h : Sv K H v) : Sv K H' v := h.at fun a _ o e => s a o e
theorem Bs.kp {b : Addr} (s : Kp b H H') (n : ∀ a, v = .ref a → a ≠ b) (h : Bs K C H v) : Bs K C H' v := h.at fun a e o ho => s a o (n a e) ho
theorem str_ext {a b : Str} (h : a.cps.toList = b.cps.toList) : a = b := by
  obtain ⟨x⟩ := a
  obtain ⟨y⟩ := b
  have e : x = y := Array.toList_inj.mp h
  rw [e]
theorem app_list (a b : Str) : (a ++ b).cps.toList = a.cps.toList ++ b.cps.toList := by
  show (a.cps ++ b.cps).toList = _
  rw [Array.toList_append]
theorem nil_list : ("" : Str).cps.toList = [] := by decide +kernel

def baseOk : V → Bool
  | .str z => decide (z = "") || nameS z
  | _ => false
end
/-- a value held against "" -/
def rNeU (K : PySem.W.Frag) (C : Addr) (sp : Sp) : R2 := fun x y H Q => rNe x y H Q ∨ rNeD K x y H Q ∨ ∃ a dx fs, x = .ref a ∧ H a = some (.ins C dx fs) ∧ Oth K C H y ∧ sp [.ref a, y] H (fun v H2 => ∃ b : Bool, v = .bl b ∧ Q (.bl (!b)) H2) E0
theorem op_neU {X : Cx} {k : Nat} {f C : Addr} {fd : FuncData} {ps : List Str} {sp : Sp} (F : FnOk X.prog X.w X.K X.mg X.base CX0 k f fd ps sp) (hr : Room (k + 1) X.A) (hb : Binds X.K fd ps []) (hs : PySem.W.findIn X.K (.ref C) "__eq__" = some (some (.ref f))) (hf : PySem.W.isFn X.K (.ref f) = true)
    (hn : PySem.W.findIn X.K (.ref C) "__ne__" = some (some (.builtin "object.__ne__"))) (hm : PySem.W.mroIn X.K C (.type "object") = some true) : OpR X (compareOp .NotEq) (rNeU X.K C sp) := by
  intro pins s σ H x y v u Q I rx ry h
  rcases h with h | h | h
  · exact op_ne pins s σ H x y v u Q I rx ry h
  · exact op_neD hr.units pins s σ H x y v u Q I rx ry h
  · exact op_neO F hr hb hs hf hn hm pins s σ H x y v u Q I rx ry h
section
variable {K : PySem.W.Frag} {C : Addr} {H : Hp} {v : V} {Q : VK}
theorem shaped_empty : SeqAt.shaped (.str "") = true := by decide +kernel
/-- what is no text is unlike "" -/
theorem Bs.ne (Y : Pty K C) (N : Npl K C) (h : Bs K C H v) : (∃ z, v = .str z ∧ Sm 100 z) ∨ ((∀ z, v ≠ .str z) ∧ ∀ Q : VK, Q (.bl true) H → rNeU K C (spEq K C) v (.str "") H Q) := by
  rcases h with h | ⟨⟨d, h1, h2, h3, h4⟩, h5, h6⟩ | ⟨a, rfl, pa⟩
  · exact .inl h
  · refine .inr ⟨h6, fun Q q => .inr (.inl ⟨d, .str "", h1.dp, .str "", h3, shaped_empty, ?_⟩)⟩
    rw [h4]
    exact q
  · obtain ⟨dx, ha⟩ := id pa
    exact .inr ⟨fun z e => (nomatch e), fun Q q => .inr (.inr ⟨a, dx, _, rfl, ha, ⟨_, .base (.str ""), by simp [PySem.W.notFirst]; rfl⟩, a, "n", 0, pa, .inr ⟨_, rfl, ⟨_, .base (.str ""), N.str⟩, false, rfl, q⟩⟩)⟩
theorem Bs.kd (Y : Pty K C) (ki : PySem.W.kitOne K (.ref C) (.type "int") = some false) (ks : PySem.W.kitOne K (.ref C) (.type "str") = some false) (h : Bs K C H v) : Kd K H v := by
  rcases h with ⟨z, rfl, h⟩ | ⟨_, h, _⟩ | ⟨a, rfl, pa⟩
  · exact .str z (Nat.le_trans h.1 (by decide)) h.2
  · exact h
  · exact .oth a _ (pa.ty Y) ki ks
end
end Mz
set_option Elab.async false
set_option linter.all false
set_option maxRecDepth 100000
set_option maxHeartbeats 4000000
namespace Mz
open PySem PySem.Spec PyProof.Rows L2
/-- Place.of, as the text has it -/
structure OfM (P : Program) (w : World) (K : PySem.W.Frag) (mg : Str → Option Value) (base : Heap) (C cX po f : Addr) (fd : FuncData) : Prop where
  ok : FnOk P w K mg base (L2.CX P w) 5 f fd ["cls", "value"] (spOf K C cX)
  rd : ClX.CRead K C (.type "type")
  met : ClX.CMet K C (.type "type") "of" po f
  b : Binds K fd ["cls", "value"] []
section
variable {P : Program} {w : World} {K : PySem.W.Frag} {mg : Str → Option Value} {base : Heap}
theorem scXinitI : FnScope ["self", "value"] ["self", "value"] (defScope (inClass sInvInt 0)) := ⟨rfl, rfl, rfl, by decide +kernel, rfl, by decide +kernel, by decide +kernel⟩
theorem ok_xinitI {f C cM : Addr} {fd : FuncData} (F : Fun K "__init__" "InvalidInteger.__init__" (inClass sInvInt 0) f fd) (T : Xcl K mg "InvalidInteger" C "value") (mM : mg "MapError" = some (.ref cM)) (rd : ClX.CRead K cM (.type "type"))
    (fc : PySem.W.findCls K (.ref cM) (.type "type") "__init__" = some (.val (.builtin "ValueError.__init__"))) : FnOk P w K mg base CX0 1 f fd ["self", "value"] (spX1 K C "value") := by
  refine F.ok scXinitI (fun vs H Q E h => ?_) (fun cdv A outer s H vs Q E hr h => ?_)
  · obtain ⟨a, v, rfl, _⟩ := h
    rfl
  · obtain ⟨a, v, rfl, ha, q⟩ := h
    refine ⟨_, pss_cons (ps_expr (pe_meinit (by rfl) mM rd fc (pa_cons (pv 0) (pa_cons pe_str pa_nil)))) (pss_one (ps_ost (pv 0) (pv 1))), ?_⟩
    refine ⟨_, rfl, a, C, _, rfl, (by show 1 ≤ 1000; decide), T.ox, ha, ?_⟩
    exact ⟨_, rfl, _, rfl, a, C, rfl, T.ox, T.no, .inl ⟨ha, fun dx n1 n2 => q dx n1 n2⟩⟩
theorem scXinitS : FnScope ["self", "value"] ["self", "value"] (defScope (inClass sInvSet 0)) := ⟨rfl, rfl, rfl, by decide +kernel, rfl, by decide +kernel, by decide +kernel⟩
theorem ok_xinitS {f C cM : Addr} {fd : FuncData} (F : Fun K "__init__" "InvalidSetting.__init__" (inClass sInvSet 0) f fd) (T : Xcl K mg "InvalidSetting" C "value") (mM : mg "MapError" = some (.ref cM)) (rd : ClX.CRead K cM (.type "type"))
    (fc : PySem.W.findCls K (.ref cM) (.type "type") "__init__" = some (.val (.builtin "ValueError.__init__"))) : FnOk P w K mg base CX0 1 f fd ["self", "value"] (spX1 K C "value") := by
  refine F.ok scXinitS (fun vs H Q E h => ?_) (fun cdv A outer s H vs Q E hr h => ?_)
  · obtain ⟨a, v, rfl, _⟩ := h
    rfl
  · obtain ⟨a, v, rfl, ha, q⟩ := h
    refine ⟨_, pss_cons (ps_expr (pe_meinit (by rfl) mM rd fc (pa_cons (pv 0) (pa_cons pe_str pa_nil)))) (pss_one (ps_ost (pv 0) (pv 1))), ?_⟩
    refine ⟨_, rfl, a, C, _, rfl, (by show 1 ≤ 1000; decide), T.ox, ha, ?_⟩
    exact ⟨_, rfl, _, rfl, a, C, rfl, T.ox, T.no, .inl ⟨ha, fun dx n1 n2 => q dx n1 n2⟩⟩
/-- an exception of one field made -/
theorem mko_x1 {K : PySem.W.Frag} {cE : Addr} {i : Nat} {u : V} {σ : L2.St} {H1 : Hp} {E : XK} (hi : σ[i]? = some (some u)) (q : ∀ d H', H1 d = none → Same H1 H' → H' d = some (.xd [("value", u)]) → E (.ref cE) (some d) H') : tMkO cE (spX1 K cE "value") [] (tCons (tVar i) tNil) σ H1 E := by
  refine ⟨_, hi, (by show 1 ≤ 1000; decide), fun a na => ⟨a, u, rfl, upd_same, fun dx n1 n2 => ⟨rfl, dx, [("value", u)], upd_same, ?_, ?_, ?_⟩⟩⟩
  · rw [upd_ne n2, upd_same]
  · rw [upd_ne n2] at n1
    exact n1
  · have n3 : H1 dx = none := by
      rw [upd_ne n2] at n1
      exact n1
    refine q dx _ n3 (fun b o hb => ?_) upd_same
    have x1 : b ≠ dx := ne_of_none hb n3
    have x2 : b ≠ a := ne_of_none hb na
    rw [upd_ne x1, del_ne x2, upd_ne x2, upd_ne x1, upd_ne x2]
    exact hb
end
/-! settings -/
/-- an integer from lo on -/
def fromB (lo : Int) : V → Bool
  | .int i => decide (lo ≤ i)
  | _ => false
def spIsFrom (K : PySem.W.Frag) : Sp := fun vs H Q _ => ∃ v lo, vs = [v, .int lo] ∧ Kd K H v ∧ Q (.bl (fromB lo v)) H
/-- a key and a value of a dict that is given -/
def KvOk (K : PySem.W.Frag) (H : Hp) (kv : Key × V) : Prop := (∀ z, kv.1 = .inr z → Sm 1000 z) ∧ Kd K H kv.2
def kvB (kv : Key × V) : Bool := nameV (kV kv.1) && fromB 0 kv.2
/-- sizes -/
def sizesB (kvs : List (Key × V)) : Bool := decide (kvs.length ≤ 2) && kvs.all kvB
/-- what is given as sizes: a dict or none -/
def Gv (K : PySem.W.Frag) (H : Hp) (v : V) (r : Option (Addr × List (Key × V))) : Prop := (r = none ∧ ∃ t, TyX K H v t ∧ PySem.W.kitOne K t (.type "dict") = some false) ∨ ∃ a kvs, r = some (a, kvs) ∧ v = .ref a ∧ H a = some (.dK kvs) ∧ ∀ kv ∈ kvs, KvOk K H kv ∧ kv.2 ≠ .ref a
def givenB : Option (Addr × List (Key × V)) → Bool
  | none => false
  | some r => sizesB r.2
def spAre (K : PySem.W.Frag) : Sp := fun vs H Q _ => ∃ v r, vs = [v] ∧ Gv K H v r ∧ ∀ H', Same H H' → Q (.bl (givenB r)) H'
def stF (d : Addr) (pg : Int) : List (Str × V) := putF "_page" (.int pg) (putF "_sizes" (.ref d) [])
theorem stF_sizes {d : Addr} {pg : Int} : (stF d pg).lookup ("_sizes" : Str) = some (.ref d) := by
  unfold stF
  rw [lookup_putF, if_neg (by decide +kernel), lookup_putF, if_pos rfl]
theorem stF_page {d : Addr} {pg : Int} : (stF d pg).lookup ("_page" : Str) = some (.int pg) := by
  unfold stF
  rw [lookup_putF, if_pos rfl]
/-- a setting -/
def Stg (S : Addr) (H : Hp) (s : Addr) (kvs : List (Key × V)) (pg : Int) : Prop := ∃ dx d, H s = some (.ins S dx (stF d pg)) ∧ H d = some (.dK kvs)
structure Scl (K : PySem.W.Frag) (mg : Str → Option Value) (S : Addr) : Prop where
  cl : Cls K S
  nZ : NoAttr K S "_sizes"
  nP : NoAttr K S "_page"
  mgS : mg "Setting" = some (.ref S)
theorem Stg.same {S s : Addr} {H H' : Hp} {kvs : List (Key × V)} {pg : Int} (m : Same H H') (h : Stg S H s kvs pg) : Stg S H' s kvs pg := by
  obtain ⟨dx, d, h1, h2⟩ := h
  exact ⟨dx, d, m _ _ h1, m _ _ h2⟩
/-- a setting just made: its dict is new -/
def StgN (S : Addr) (H0 H : Hp) (s : Addr) (kvs : List (Key × V)) (pg : Int) : Prop := ∃ dx d, H s = some (.ins S dx (stF d pg)) ∧ H d = some (.dK kvs) ∧ H0 d = none
theorem StgN.stg {S s : Addr} {H0 H : Hp} {kvs : List (Key × V)} {pg : Int} (h : StgN S H0 H s kvs pg) : Stg S H s kvs pg := by
  obtain ⟨dx, d, h1, h2, _⟩ := h
  exact ⟨dx, d, h1, h2⟩
def spInitS (K : PySem.W.Frag) (S cS cI : Addr) : Sp := fun vs H Q E => ∃ p dx v m r, vs = [.ref p, v, m] ∧ H p = some (.ins S dx []) ∧ Gv K H v r ∧ Kd K H m ∧
  ((givenB r = true ∧ ∃ pg, m = .int pg ∧ 1 ≤ pg ∧ ∀ H', (∀ q o, q ≠ p → H q = some o → H' q = some o) → (∀ a kvs, r = some (a, kvs) → StgN S H H' p kvs pg) → Q .non H') ∨
    (givenB r = false ∧ ∀ d H', H d = none → Same H H' → H' d = some (.xd [("value", v)]) → E (.ref cS) (some d) H') ∨
    (givenB r = true ∧ fromB 1 m = false ∧ ∀ d H', H d = none → Same H H' → H' d = some (.xd [("value", m)]) → E (.ref cI) (some d) H'))
/-- the value of a place -/
def wtK (kvs : List (Key × V)) (z : Str) (k : Int) : Option Int := if z = "" then some k else match valV kvs (.inr z) with
  | some (.int n) => some (n + k)
  | _ => none
/-- what a value stands for, as a place: its value at a setting -/
def PlV (K : PySem.W.Frag) (C : Addr) (H : Hp) (kvs : List (Key × V)) (v : V) (wt : Option Int) : Prop :=
  (∃ a z k, v = .ref a ∧ Pl C H a z k ∧ wt = wtK kvs z k) ∨ (NoPl K C H v ∧ wt = (ofV v).bind fun x => wtK kvs x.1 x.2)
def KInt (kvs : List (Key × V)) : Prop := ∀ z v, valV kvs (.inr z) = some v → ∃ n, v = .int n
def spGetS (K : PySem.W.Frag) (S C cX : Addr) : Sp := fun vs H Q E => ∃ s v kvs pg wt, vs = [.ref s, v] ∧ Stg S H s kvs pg ∧ KInt kvs ∧ PlV K C H kvs v wt ∧ (∀ n, wt = some n → ∀ H', Same H H' → Q (.int n) H') ∧
  (wt = none → ∀ d H', H d = none → Same H H' → H' d = some (.xd [("value", v)]) → E (.ref cX) (some d) H')
def spSameS (K : PySem.W.Frag) (S C cX : Addr) : Sp := fun vs H Q E => ∃ s v u kvs pg wv wu, vs = [.ref s, v, u] ∧ Stg S H s kvs pg ∧ KInt kvs ∧ 0 < pg ∧ pg.natAbs.log2 < 9000 ∧ PlV K C H kvs v wv ∧ PlV K C H kvs u wu ∧
  (∀ n m, wv = some n → wu = some m → ∀ H', Same H H' → Q (.bl (decide (n / pg = m / pg))) H') ∧
  (wv = none → ∀ d H', H d = none → Same H H' → H' d = some (.xd [("value", v)]) → E (.ref cX) (some d) H') ∧
  (∀ n, wv = some n → wu = none → ∀ d H', H d = none → Same H H' → H' d = some (.xd [("value", u)]) → E (.ref cX) (some d) H')
section
variable {P : Program} {w : World} {K : PySem.W.Frag} {mg : Str → Option Value} {base : Heap}
theorem scIsFrom : FnScope ["value", "low"] ["value", "low"] (defScope sIsFrom) := ⟨rfl, rfl, rfl, by decide +kernel, rfl, by decide +kernel, by decide +kernel⟩
theorem ok_isFrom {f f1 : Addr} {fd fd1 : FuncData} (F : Fun K "is_integer_from" "is_integer_from" sIsFrom f fd) (G : FnOk P w K mg base CX0 1 f1 fd1 ["value"] (spWhole K)) (m1 : mg "_is_whole" = some (.ref f1)) (k1 : PySem.W.keepIn K (.ref f1) = true) (b1 : Binds K fd1 ["value"] []) :
    FnOk P w K mg base CX0 2 f fd ["value", "low"] (spIsFrom K) := by
  refine F.ok scIsFrom (fun vs H Q E h => ?_) (fun cdv A outer s H vs Q E hr h => ?_)
  · obtain ⟨v, lo, rfl, _⟩ := h
    rfl
  · obtain ⟨v, lo, rfl, hk, q⟩ := h
    refine ⟨_, pss_one (ps_ret (pe_and (pe_call G hr (by rfl) m1 k1 b1 .nil pass0 (pa_cons (pv 0) pa_nil)) (pe_one (pe_cmpR op_le (pv 1) (pv 0) (nomark _))))), ?_⟩
    refine ⟨_, rfl, v, rfl, hk, _, rfl, ?_⟩
    cases hk with
    | int i => exact iteT ⟨_, rfl, _, rfl, _, _, rfl, rfl, q⟩
    | bl b => exact iteF q
    | str z _ _ => exact iteF q
    | non => exact iteF q
    | oth a t ty ki ks => exact iteF q
theorem scAre : FnScope ["value", "name", "size"] ["value"] (defScope sAreSizes) := ⟨rfl, rfl, rfl, by decide +kernel, rfl, by decide +kernel, by decide +kernel⟩
theorem ok_are {f f1 f2 : Addr} {fd fd1 fd2 : FuncData} {t : Tok} (F : Fun K "_are_sizes" "_are_sizes" sAreSizes f fd) (B : Blt mg) (D : Blp mg) (mDct : mg "dict" = none) (mU : mg "MOST_UNKNOWNS" = some (.int 2 t))
    (G1 : FnOk P w K mg base CX0 1 f1 fd1 ["value"] (spIsName K)) (m1 : mg "is_name" = some (.ref f1)) (k1 : PySem.W.keepIn K (.ref f1) = true) (b1 : Binds K fd1 ["value"] [])
    (G2 : FnOk P w K mg base CX0 2 f2 fd2 ["value", "low"] (spIsFrom K)) (m2 : mg "is_integer_from" = some (.ref f2)) (k2 : PySem.W.keepIn K (.ref f2) = true) (b2 : Binds K fd2 ["value", "low"] []) :
    FnOk P w K mg base CX0 3 f fd ["value"] (spAre K) := by
  refine F.ok scAre (fun vs H Q E h => ?_) (fun cdv A outer s H vs Q E hr h => ?_)
  · obtain ⟨v, r, rfl, _⟩ := h
    rfl
  · obtain ⟨v, r, rfl, hv, q⟩ := h
    have nd := scAre.nd
    have hr1 : Room 1 _ := hr.mono (by decide)
    refine ⟨_, pss_cons (ps_if (PW.pt (pw_or (pt_not (pt_val (pe_callB call_isi (by rfl) D.isi (by decide +kernel) (pa_cons (pv 0) (pa_cons (pe_bltn (v := .ty "dict") (by rfl) mDct (by decide +kernel) rfl) pa_nil)))))
        (pw_or1 (pt_cmpR op_gt (pe_callB call_lenD (by rfl) B.len PySem.boot_len (pa_cons (pv 0) pa_nil)) (pe_glob (v := .int 2) rfl mU ⟨_, rfl⟩) (nomark _))))) (pss_one (ps_ret pe_bl)) pss_nil)
      (pss_one (ps_ret (pe_callB (cr_all rfl) (by rfl) D.all (by decide +kernel) (pa_cons (pe_lock (pe_lc (own := [("name", 1), ("size", 2)]) (g := gTup K 2 (gCons (gName 1) (gCons (gName 2) gNil))) (tt := tYes) rfl nd (pi_items (pv 0)) (blkOk_by (N := ["value", "name", "size"]) (sc := defScope sAreSizes) (by decide +kernel))
        (fun _ _ _ _ _ => pg_tup (by rfl) (pgs_cons (pg_name (i := 1) nd rfl (Or.inl rfl)) (pgs_cons (pg_name (i := 2) nd rfl (Or.inl rfl)) pgs_nil))) (fun _ _ _ _ _ => pts_nil)
        (fun _ _ _ _ _ => pe_and (pe_call G1 hr1 (by rfl) m1 k1 b1 .nil pass0 (pa_cons (pv 1) pa_nil)) (pe_one (pe_call G2 hr (by rfl) m2 k2 b2 .nil pass0 (pa_cons (pv 2) (pa_cons pe_int pa_nil))))))) pa_nil)))), ?_⟩
    refine ⟨_, rfl, ?_⟩
    rcases hv with ⟨rfl, t0, ty, kt⟩ | ⟨a, kvs, rfl, rfl, ha, hall⟩
    · exact ⟨_, _, _, _, false, rfl, .ty _, ty, kt, false, rfl, iteT (iteT (q H (Same.refl H)))⟩
    · refine ⟨_, _, _, _, true, rfl, .ty _, .base (.dK ha), kit_ty (by decide +kernel), true, rfl, iteF ?_⟩
      refine ⟨_, rfl, a, kvs, rfl, ha, _, _, rfl, rfl, _, rfl, ite2 (fun hc => ?_) (fun hc => ?_)⟩
      · have h2 : (2 : Int) < (kvs.length : Int) := of_decide_eq_true hc
        have e : givenB (some (a, kvs)) = false := by
          show (decide (kvs.length ≤ 2) && _) = false
          rw [decide_eq_false (by omega), Bool.false_and]
        rw [e] at q
        exact q H (Same.refl H)
      · have h2 : ¬ (2 : Int) < (kvs.length : Int) := fun x => hc (decide_eq_true x)
        refine ⟨a, .dK kvs, ha, trivial, fun od => ⟨_, rfl, a, od, kvs, rfl, upd_same, fun D nD => ?_⟩⟩
        have la : upd H a (.frz od (.dK kvs)) a = some (.frz od (.dK kvs)) := upd_same
        have lo : ∀ r o, r ≠ a → H r = some o → upd H a (.frz od (.dK kvs)) r = some o := fun r o n e => by
          rw [upd_ne n]
          exact e
        have nDH : H D = none := by
          cases e : H D with
          | none => rfl
          | some o =>
            by_cases x : D = a
            · subst x
              rw [la] at nD
              cases nD
            · rw [lo D o x e] at nD
              cases nD
        generalize upd H a (.frz od (.dK kvs)) = Hl at la lo nD
        have aD : a ≠ D := fun x => by
          rw [← x, la] at nD
          cases nD
        refine lc_it (walk_items (kvs := kvs)) (fun i H' => Kp D Hl H' ∧ H' D = some (.lst (((kvs.take i).map kvB).map V.bl))) ⟨Kp.fresh nD, upd_same⟩ (fun i H' _ h => h.1 _ _ aD la) ?_ ?_
        · rintro i x H0 H' hi ⟨kp, hD⟩ ⟨T, x1, y1, rfl, nT, rfl, e1, e2⟩
          have hkv : kvs[i]? = some kvs[i] := List.getElem?_eq_getElem hi
          have e1 : (kvs[i]?).map (fun kv => kV kv.1) = some x1 := e1
          have e2 : (kvs[i]?).map Prod.snd = some y1 := e2
          rw [hkv] at e1 e2
          cases e1
          cases e2
          obtain ⟨⟨hk1, hk2⟩, hka⟩ := hall _ (List.getElem_mem hi)
          have TD : T ≠ D := fun x => by
            rw [x, hD] at nT
            cases nT
          have sT : Same H0 (upd H0 T (.tup [kV kvs[i].1, kvs[i].2])) := same_nw nT
          have tT : upd H0 T (.tup [kV kvs[i].1, kvs[i].2]) T = some (.tup [kV kvs[i].1, kvs[i].2]) := upd_same
          generalize upd H0 T (.tup [kV kvs[i].1, kvs[i].2]) = H1 at sT tT
          have kd1 : Kd K H1 (kV kvs[i].1) := by
            cases e : kvs[i].1 with
            | inl n => exact .int n
            | inr z =>
              have h := hk1 z e
              exact .str z h.1 h.2
          refine ⟨T, _, rfl, SqT.of tT, rfl, _, _, rfl, _, _, rfl, rfl, ?_⟩
          refine ⟨rfl, ?_⟩
          unfold tYes
          have fin : ∀ (b : Bool) (H2 : Hp), b = kvB kvs[i] → Same H1 H2 → ∃ acc, H2 D = some (.lst acc) ∧ acc.length < sizeLine ∧ (Kp D Hl (upd H2 D (.lst (acc ++ [V.bl b]))) ∧ upd H2 D (.lst (acc ++ [V.bl b])) D = some (.lst (((kvs.take (i + 1)).map kvB).map V.bl))) := by
            intro b H2 eb s2
            refine ⟨_, s2 _ _ (sT _ _ hD), ?_, ?_, ?_⟩
            · rw [List.length_map, List.length_map, List.length_take]
              have h3 : 10 ≤ sizeLine := by decide
              omega
            · intro r o n e
              rw [upd_ne n]
              exact s2 _ _ (sT _ _ (kp r o n e))
            · rw [upd_same, List.take_succ, hkv, List.map_append, List.map_append, eb]
              rfl
          refine iteT ⟨_, rfl, kV kvs[i].1, rfl, kd1, fun H2 s2 => ⟨_, rfl, ?_⟩⟩
          cases hn : nameV (kV kvs[i].1) with
          | false => exact iteF (fin false H2 (by show _ = (_ && _); rw [hn]; rfl) s2)
          | true =>
            have kd2 : Kd K H2 kvs[i].2 := hk2.at fun r e o ho => by
              have n : r ≠ a := fun x => hka (by rw [e, x])
              exact s2 _ _ (sT _ _ (kp r o (fun z => by rw [z, nDH] at ho; cases ho) (lo r o n ho)))
            exact iteT ⟨_, rfl, kvs[i].2, 0, rfl, kd2, fin _ H2 (by show _ = (_ && _); rw [hn]; rfl) s2⟩
        · rintro H' ⟨kp, hD⟩
          rw [List.take_length] at hD
          refine ⟨kp _ _ aD la, D, kvs.map kvB, rfl, SqL.of (by rw [upd_ne aD.symm]; exact hD), ?_⟩
          have e : givenB (some (a, kvs)) = (kvs.map kvB).all id := by
            show (decide (kvs.length ≤ 2) && kvs.all kvB) = _
            rw [decide_eq_true (by omega), List.all_map]
            rfl
          rw [← e]
          refine q _ fun r o ho => ?_
          by_cases x : r = a
          · subst x
            rw [ha] at ho
            cases ho
            exact upd_same
          · rw [upd_ne x]
            exact kp r o (fun z => by rw [z, nDH] at ho; cases ho) (lo r o x ho)
end
end Mz
set_option Elab.async false
set_option linter.all false
set_option maxRecDepth 100000
set_option maxHeartbeats 4000000
namespace Mz
open PySem PySem.Spec PyProof.Rows L2
theorem Oty.same {K : PySem.W.Frag} {C : Addr} {H H' : Hp} {v : V} (s : Same H H') (h : Oty K C H v) : Oty K C H' v := by
  obtain ⟨t, ty, k⟩ := h
  exact ⟨t, ty_at (fun a _ o e => s a o e) ty, k⟩
theorem Kd.same {K : PySem.W.Frag} {H H' : Hp} {v : V} (s : Same H H') (h : Kd K H v) : Kd K H' v := h.at fun a _ o e => s a o e
theorem PlV.same {K : PySem.W.Frag} {C : Addr} {H H' : Hp} {kvs : List (Key × V)} {v : V} {wt : Option Int} (s : Same H H') (h : PlV K C H kvs v wt) : PlV K C H' kvs v wt := by
  rcases h with ⟨a, z, k, e, ⟨dx, pa⟩, ew⟩ | ⟨⟨k, o⟩, e⟩
  · exact .inl ⟨a, z, k, e, ⟨dx, s _ _ pa⟩, ew⟩
  · exact .inr ⟨⟨k.same s, o.same s⟩, e⟩
section
variable {P : Program} {w : World} {K : PySem.W.Frag} {mg : Str → Option Value} {base : Heap}
theorem scInitS : FnScope ["self", "sizes", "page"] ["self", "sizes", "page"] (defScope (inClass sSetting 0)) := ⟨rfl, rfl, rfl, by decide +kernel, rfl, by decide +kernel, by decide +kernel⟩
theorem ok_initS {f f1 f2 fS fI S cS cI : Addr} {fd fd1 fd2 fdS fdI : FuncData} {dvs : List V} {kws : List (Str × V)} {pa : Arguments} (F : FunD K "__init__" "Setting.__init__" pa (defBody (inClass sSetting 0)) (defScope (inClass sSetting 0)) dvs kws f fd) (T : Scl K mg S) (mDct : mg "dict" = none)
    (G1 : FnOk P w K mg base CX0 3 f1 fd1 ["value"] (spAre K)) (m1 : mg "_are_sizes" = some (.ref f1)) (k1 : PySem.W.keepIn K (.ref f1) = true) (b1 : Binds K fd1 ["value"] [])
    (G2 : FnOk P w K mg base CX0 2 f2 fd2 ["value", "low"] (spIsFrom K)) (m2 : mg "is_integer_from" = some (.ref f2)) (k2 : PySem.W.keepIn K (.ref f2) = true) (b2 : Binds K fd2 ["value", "low"] [])
    (TS : Xcl K mg "InvalidSetting" cS "value") (GS : FnOk P w K mg base CX0 1 fS fdS ["self", "value"] (spX1 K cS "value")) (iS : PySem.W.findIn K (.ref cS) "__init__" = some (some (.ref fS))) (tS : PySem.W.typeIn K (.ref fS) = some (.type "function")) (bS : Binds K fdS ["self", "value"] [])
    (TI : Xcl K mg "InvalidInteger" cI "value") (GI : FnOk P w K mg base CX0 1 fI fdI ["self", "value"] (spX1 K cI "value")) (iI : PySem.W.findIn K (.ref cI) "__init__" = some (some (.ref fI))) (tI : PySem.W.typeIn K (.ref fI) = some (.type "function")) (bI : Binds K fdI ["self", "value"] []) :
    FnOk P w K mg base (L2.CX P w) 4 f fd ["self", "sizes", "page"] (spInitS K S cS cI) := by
  refine F.ok (CX := L2.CX P w) scInitS (fun vs H Q E h => ?_) (fun cdv A outer s H vs Q E hr h => ?_)
  · obtain ⟨p, dx, v, m, r, rfl, _⟩ := h
    rfl
  · obtain ⟨p, dx, v, m, r, rfl, hp, hv, hm, h⟩ := h
    refine ⟨_, pss_cons (ps_if (pt_not (pt_val (pe_call G1 hr (by rfl) m1 k1 b1 .nil pass0 (pa_cons (pv 1) pa_nil)))) (pss_one (ps_raise rfl (takes_of rfl rfl rfl rfl) (pmk_oex TS.ox iS tS GS (hr.mono (by decide)) bS .nil pass0 (by rfl) TS.m (pa_cons (pv 1) pa_nil)))) pss_nil)
      (pss_cons (ps_if (pt_not (pt_val (pe_call G2 (hr.mono (by decide)) (by rfl) m2 k2 b2 .nil pass0 (pa_cons (pv 2) (pa_cons pe_int pa_nil))))) (pss_one (ps_raise rfl (takes_of rfl rfl rfl rfl) (pmk_oex TI.ox iI tI GI (hr.mono (by decide)) bI .nil pass0 (by rfl) TI.m (pa_cons (pv 2) pa_nil)))) pss_nil)
      (pss_cons (ps_fld (pv 0) (pe_callTy call_dictD (by rfl) mDct (by decide +kernel) (pa_cons (pv 1) pa_nil)) rfl) (pss_one (ps_fld (pv 0) (pv 2) rfl)))), ?_⟩
    refine ⟨_, rfl, v, r, rfl, hv, fun H1 s1 => ⟨_, rfl, ?_⟩⟩
    have hp1 := s1 _ _ hp
    rcases h with ⟨e, pg, rfl, hpg, q⟩ | ⟨e, q⟩ | ⟨e, e2, q⟩
    · rw [e]
      refine iteF ⟨_, rfl, _, 1, rfl, .int pg, _, rfl, ?_⟩
      have e1 : fromB 1 (.int pg) = true := decide_eq_true hpg
      rw [e1]
      rcases hv with ⟨rfl, _⟩ | ⟨a, kvs, rfl, rfl, ha, _⟩
      · cases e
      · refine iteF ⟨_, rfl, a, kvs, rfl, .inl (s1 _ _ ha), fun d nd => ?_⟩
        have dp : d ≠ p := (ne_of_none hp1 nd).symm
        have ep : (upd H1 d (.dK kvs)) p = some (.ins S dx []) := by
          rw [upd_ne dp.symm]
          exact hp1
        refine ⟨_, rfl, p, S, dx, [], rfl, ep, T.cl, T.nZ, (by show 0 < 1000; decide), _, rfl, _, rfl, p, S, dx, _, rfl, upd_same, T.cl, T.nP, (by show 1 < 1000; decide), ?_⟩
        rw [upd_upd]
        refine q _ (fun b o n hb => ?_) fun a2 k2 e2 => ?_
        · rw [upd_ne n, upd_ne (ne_of_none (s1 _ _ hb) nd)]
          exact s1 _ _ hb
        · cases e2
          exact ⟨dx, d, upd_same, (by rw [upd_ne dp]; exact upd_same), s1.free nd⟩
    · rw [e]
      exact iteT (mko_x1 rfl fun d H' nd s2 hd => q d H' (s1.free nd) (s1.trans s2) hd)
    · rw [e]
      refine iteF ⟨_, rfl, m, 1, rfl, hm.same s1, _, rfl, ?_⟩
      rw [e2]
      exact iteT (mko_x1 rfl fun d H' nd s2 hd => q d H' (s1.free nd) (s1.trans s2) hd)
theorem scGetS : FnScope ["self", "at", "place"] ["self", "at"] (defScope (inClass sSetting 3)) := ⟨rfl, rfl, rfl, by decide +kernel, rfl, by decide +kernel, by decide +kernel⟩
theorem ok_getS {f fO fX C S cX po gb gs pb ps_ : Addr} {fd fdO fdX fdb fds : FuncData} (F : Fun K "__getitem__" "Setting.__getitem__" (inClass sSetting 3) f fd) (Z : Cpl K mg C) (T : Scl K mg S) (O : OfM P w K mg base C cX po fO fdO)
    (TX : Xcl K mg "InvalidPlace" cX "value") (GX : FnOk P w K mg base CX0 1 fX fdX ["self", "value"] (spX1 K cX "value")) (iX : PySem.W.findIn K (.ref cX) "__init__" = some (some (.ref fX))) (tX : PySem.W.typeIn K (.ref fX) = some (.type "function")) (bX : Binds K fdX ["self", "value"] [])
    (pB : PropOf K C "base" pb gb) (Gb : FnOk P w K mg base CX0 1 gb fdb ["self"] (spBase C)) (bb : Binds K fdb ["self"] []) (pS : PropOf K C "shift" ps_ gs) (Gs : FnOk P w K mg base CX0 1 gs fds ["self"] (spShift C)) (bs : Binds K fds ["self"] []) :
    FnOk P w K mg base (L2.CX P w) 6 f fd ["self", "at"] (spGetS K S C cX) := by
  refine F.okX scGetS (fun vs H Q E h => ?_) (fun cdv A outer s H vs Q E hr h => ?_)
  · obtain ⟨s, v, kvs, pg, wt, rfl, _⟩ := h
    rfl
  · obtain ⟨st, v, kvs, pg, wt, rfl, hst, hki, hpl, q1, q2⟩ := h
    have nd := scGetS.nd
    have hr2 : Room 2 _ := hr.mono (by decide)
    have hu : ∀ {X : Cx}, Room 5 X.A → X.A.units + 1 < cLine := fun r => by
      have := r.units
      omega
    refine ⟨_, pss_cons (ps_set (i := 2) nd rfl (Or.inl rfl) (pe_cmethS (pe_glob (v := .ref C) rfl Z.mgC rfl) O.rd O.met O.ok hr O.b (fun σ => passAt (takes_of rfl rfl rfl rfl) σ) (pa_cons (pv 1) pa_nil)))
      (pss_cons (ps_if (pt_cmpR op_eq (pe_prop (pv 2) Z.cl pB Gb hr2 bb .nil pass0 rfl) pe_str (nomark _)) (pss_one (ps_ret (pe_prop (pv 2) Z.cl pS Gs hr2 bs .nil pass0 rfl))) pss_nil)
      (pss_cons (ps_if (pt_cmp (pc_dnotin (hu hr) (pe_prop (pv 2) Z.cl pB Gb hr2 bb .nil pass0 rfl) (pe_fld (pv 0) rfl))) (pss_one (ps_raise rfl (takes_of rfl rfl rfl rfl) (pmk_oex TX.ox iX tX GX hr2 bX .nil pass0 (by rfl) TX.m (pa_cons (pv 1) pa_nil)))) pss_nil)
      (pss_one (ps_ret (pe_op op_add (pe_dget (hu hr) (pe_fld (pv 0) rfl) (pe_prop (pv 2) Z.cl pB Gb hr2 bb .nil pass0 rfl) (fun _ _ => rfl)) (pe_prop (pv 2) Z.cl pS Gs hr2 bs .nil pass0 rfl)))))), ?_⟩
    generalize hT : tSeq (tIfS _ _ _) _ = T2
    have rest : ∀ (p : Addr) (z : Str) (k : Int) (H1 : Hp), Same H H1 → Pl C H1 p z k → wt = wtK kvs z k → T2 { nx := fun _ H' => Q .non H', rt := Q } [some (.ref st), some v, some (.ref p)] H1 := by
      intro p z k H1 sm pp ew
      rw [← hT]
      obtain ⟨dp, hp⟩ := id pp
      obtain ⟨dx, d, h1, h2⟩ := hst.same sm
      refine ⟨_, rfl, p, dp, _, rfl, hp, p, z, k, rfl, pp, rfl, _, rfl, ?_⟩
      by_cases e : z = ""
      · rw [decide_eq_true (show V.str z = V.str "" by rw [e])]
        have : wt = some k := by
          rw [ew]
          exact if_pos e
        exact iteT ⟨_, rfl, p, dp, _, rfl, hp, p, z, k, rfl, pp, q1 k this H1 sm⟩
      · rw [decide_eq_false (show ¬ V.str z = V.str "" from fun x => e (V.str.inj x))]
        have ew2 : wt = match valV kvs (.inr z) with
          | some (.int n) => some (n + k)
          | _ => none := by
          rw [ew]
          exact if_neg e
        refine iteF ⟨_, rfl, p, dp, _, rfl, hp, p, z, k, rfl, pp, _, rfl, st, S, dx, _, _, rfl, h1, T.cl, T.nZ, stF_sizes, d, _, rfl, DGet.k (k := Sum.inr z) h2, _, rfl, ?_⟩
        cases ev : valV kvs (Sum.inr z) with
        | none =>
          rw [ev] at ew2
          exact iteT (mko_x1 rfl fun d2 H' nd2 s2 hd => q2 ew2 d2 H' (sm.free nd2) (sm.trans s2) hd)
        | some y =>
          obtain ⟨n, rfl⟩ := hki z y ev
          rw [ev] at ew2
          refine iteF ⟨_, rfl, st, S, dx, _, _, rfl, h1, T.cl, T.nZ, stF_sizes, _, rfl, p, dp, _, rfl, hp, p, z, k, rfl, pp, d, _, rfl, (by rw [← ev]; exact DGet.k (k := Sum.inr z) h2), _, rfl, p, dp, _, rfl, hp, p, z, k, rfl, pp, _, _, rfl, rfl, q1 _ ew2 H1 sm⟩
    clear hT
    refine ⟨rfl, _, rfl, v, rfl, ?_⟩
    rcases hpl with ⟨a, z, k, rfl, pa, ew⟩ | ⟨np, ew⟩
    · exact .inl ⟨a, z, k, rfl, pa, rest a z k H (Same.refl H) pa ew⟩
    · refine .inr ⟨np, fun z k e p H' n1 sm pp g => rest p z k H' sm pp ?_, fun e d H' nd2 sm hd => q2 ?_ d H' nd2 sm hd⟩
      · rw [ew, e]
        rfl
      · rw [ew, e]
        rfl
theorem scSameS : FnScope ["self", "place", "other"] ["self", "place", "other"] (defScope (inClass sSetting 6)) := ⟨rfl, rfl, rfl, by decide +kernel, rfl, by decide +kernel, by decide +kernel⟩
theorem ok_sameS {f fG C S cX : Addr} {fd fdG : FuncData} (F : Fun K "same_page" "Setting.same_page" (inClass sSetting 6) f fd) (T : Scl K mg S) (GG : FnOk P w K mg base (L2.CX P w) 6 fG fdG ["self", "at"] (spGetS K S C cX)) (bG : Binds K fdG ["self", "at"] [])
    (iG : PySem.W.findIn K (.ref S) "__getitem__" = some (some (.ref fG))) (fG2 : PySem.W.fnIn K fG = true) (jG : PySem.W.isFn K (.ref fG) = true) : FnOk P w K mg base (L2.CX P w) 8 f fd ["self", "place", "other"] (spSameS K S C cX) := by
  refine F.okX scSameS (fun vs H Q E h => ?_) (fun cdv A outer s H vs Q E hr h => ?_)
  · obtain ⟨s, v, u, kvs, pg, wv, wu, rfl, _⟩ := h
    rfl
  · obtain ⟨st, v, u, kvs, pg, wv, wu, rfl, hst, hki, p0, pl, hv, hu, q1, q2, q3⟩ := h
    refine ⟨_, pss_one (ps_ret (pe_cmpR op_eq (pe_op op_fdivW (pe_subS GG hr bG iG fG2 jG (fun σ => passAt (takes_of rfl rfl rfl rfl) σ) (pv 0) (pv 1)) (pe_fld (pv 0) rfl)) (pe_op op_fdivW (pe_subS GG hr bG iG fG2 jG (fun σ => passAt (takes_of rfl rfl rfl rfl) σ) (pv 0) (pv 2)) (pe_fld (pv 0) rfl)) (nomark _))), ?_⟩
    obtain ⟨dx, d, h1, h2⟩ := id hst
    refine ⟨_, rfl, _, rfl, st, dx, _, rfl, h1, st, v, kvs, pg, wv, rfl, hst, hki, hv, fun n en H1 s1 => ?_, fun en d2 H1 nd2 s1 hd => q2 en d2 H1 nd2 s1 hd⟩
    have hst1 := hst.same s1
    obtain ⟨dx1, d1, h11, h21⟩ := id hst1
    refine ⟨_, rfl, st, S, dx1, _, _, rfl, h11, T.cl, T.nP, stF_page, _, _, rfl, rfl, ⟨p0, pl⟩, ?_⟩
    refine ⟨_, rfl, _, rfl, st, dx1, _, rfl, h11, st, u, kvs, pg, wu, rfl, hst1, hki, hu.same s1, fun m em H2 s2 => ?_, fun em d2 H2 nd2 s2 hd => q3 n en em d2 H2 (s1.free nd2) (s1.trans s2) hd⟩
    obtain ⟨dx2, d2, h12, h22⟩ := hst1.same s2
    refine ⟨_, rfl, st, S, dx2, _, _, rfl, h12, T.cl, T.nP, stF_page, _, _, rfl, rfl, ⟨p0, pl⟩, rfl, ?_⟩
    have e : decide (V.int (n / pg) = V.int (m / pg)) = decide (n / pg = m / pg) := decide_eq_decide.mpr ⟨fun x => V.int.inj x, fun x => by rw [x]⟩
    rw [e]
    exact q1 n m en em H2 (s1.trans s2)
def spSizesS (S : Addr) : Sp := fun vs H Q _ => ∃ s kvs pg, vs = [.ref s] ∧ Stg S H s kvs pg ∧ ∀ p, H p = none → Q (.ref p) (upd H p (.dK kvs))
theorem scSizesS : FnScope ["self"] ["self"] (defScope (inClass sSetting 1)) := ⟨rfl, rfl, rfl, by decide +kernel, rfl, by decide +kernel, by decide +kernel⟩
theorem ok_sizesS {f S : Addr} {fd : FuncData} (F : Fun K "sizes" "Setting.sizes" (inClass sSetting 1) f fd) (T : Scl K mg S) (mDct : mg "dict" = none) : FnOk P w K mg base CX0 1 f fd ["self"] (spSizesS S) := by
  refine F.ok scSizesS (fun vs H Q E h => ?_) (fun cdv A outer s H vs Q E hr h => ?_)
  · obtain ⟨s, kvs, pg, rfl, _⟩ := h
    rfl
  · obtain ⟨st, kvs, pg, rfl, ⟨dx, d, h1, h2⟩, q⟩ := h
    exact ⟨_, pss_one (ps_ret (pe_callTy call_dictD (by rfl) mDct (by decide +kernel) (pa_cons (pe_fld (pv 0) rfl) pa_nil))), _, rfl, st, S, dx, _, _, rfl, h1, T.cl, T.nZ, stF_sizes, d, kvs, rfl, .inl h2, q⟩
end
end Mz
set_option Elab.async false
set_option linter.all false
set_option maxRecDepth 100000
set_option maxHeartbeats 4000000
namespace Mz
open PySem PySem.Spec PyProof.Rows L2
/-! a place's text, read again -/
def sfx (k : Int) : Str := if k = 1 then "+1" else if k = 2 then "+2" else if k = 3 then "+3" else if k = -1 then "-1" else if k = -2 then "-2" else if k = -3 then "-3" else ""
theorem cps_app (z s : Str) : (z ++ s).cps.toList = z.cps.toList ++ s.cps.toList := app_list z s
theorem six0 {n : Nat} : HT.sIx n 0 none = 0 := rfl
theorem six2 {n : Nat} (h : 2 ≤ n) : HT.sIx n n (some (-2)) = n - 2 := by
  unfold HT.sIx
  simp
  omega
theorem six2b {n : Nat} (h : 2 ≤ n) : HT.sIx n 0 (some (-2)) = n - 2 := by
  unfold HT.sIx
  simp
  omega
theorem sixn {n : Nat} : HT.sIx n n none = n := rfl
theorem len_cps (z : Str) : z.cps.toList.length = z.length := by
  rw [Array.length_toList]
  rfl
theorem cut_head {z s : Str} (h : s.length = 2) : headS (z ++ s) = z := by
  refine str_ext ?_
  unfold headS cutS
  have l : (z ++ s).length = z.length + 2 := by rw [strLen_append, h]
  rw [l, six0, six2 (by omega)]
  simp [cps_app]
  rw [← len_cps z, List.take_left]
theorem cut_tail {z s : Str} (h : s.length = 2) : tailS (z ++ s) = s := by
  refine str_ext ?_
  unfold tailS cutS
  have l : (z ++ s).length = z.length + 2 := by rw [strLen_append, h]
  rw [l, six2b (by omega), sixn]
  have e1 : z.length + 2 - 2 = z.cps.toList.length := by rw [len_cps]; omega
  rw [e1, cps_app, List.drop_left]
  rw [List.take_of_length_le (by rw [len_cps, len_cps]; omega)]
theorem num_none {z : Str} (h : 3 ≤ z.length) : numS z = none := by
  unfold numS
  rw [if_neg (fun e => by rw [e] at h; revert h; decide +kernel), if_neg (fun e => by rw [e] at h; revert h; decide +kernel), if_neg (fun e => by rw [e] at h; revert h; decide +kernel), if_neg (fun e => by rw [e] at h; revert h; decide +kernel)]
theorem name_len {z : Str} (h : nameS z = true) : 1 ≤ z.length ∧ z.length ≤ 6 := by
  have := (Bool.and_eq_true_iff.mp h).1
  obtain ⟨h1, h2⟩ := Bool.and_eq_true_iff.mp this
  have h1 := of_decide_eq_true h1
  have h2 := of_decide_eq_true h2
  omega
theorem sfx_len {k : Int} (h0 : -3 ≤ k) (h1 : k ≤ 3) (hk : k ≠ 0) : (sfx k).length = 2 ∧ shS (sfx k) = some k := by
  have h : k = -3 ∨ k = -2 ∨ k = -1 ∨ k = 1 ∨ k = 2 ∨ k = 3 := by omega
  rcases h with rfl | rfl | rfl | rfl | rfl | rfl <;> decide +kernel
theorem sh_noname6 {z : Str} {n : Int} (h : shS (tailS z) = some n) : ¬ nameS z = true := by
  intro hn
  have hall : (z.cps.toList.all fun c => decide (c ∈ abc.cps.toList)) = true := (Bool.and_eq_true_iff.mp hn).2
  have sub : ∀ c ∈ (tailS z).cps.toList, c ∈ abc.cps.toList := by
    intro c hc
    unfold tailS cutS at hc
    have h1 : c ∈ z.cps.toList := List.mem_of_mem_drop (List.mem_of_mem_take (by simpa using hc))
    exact of_decide_eq_true (List.all_eq_true.mp hall c h1)
  generalize tailS z = y at h sub
  unfold shS at h
  repeat' split at h
  all_goals first
    | (rename_i e
       subst e
       revert sub
       decide +kernel)
    | cases h
theorem num_name {z : Str} (h : nameS z = true) : numS z = none := by
  unfold numS
  rw [if_neg (fun e => by rw [e] at h; revert h; decide +kernel), if_neg (fun e => by rw [e] at h; revert h; decide +kernel), if_neg (fun e => by rw [e] at h; revert h; decide +kernel), if_neg (fun e => by rw [e] at h; revert h; decide +kernel)]
theorem parts_sfx {z : Str} {k : Int} (h : nameS z = true) (h0 : -3 ≤ k) (h1 : k ≤ 3) : partsS (z ++ sfx k) = some (z, k) := by
  by_cases hk : k = 0
  · subst hk
    have e : z ++ sfx 0 = z := by
      refine str_ext ?_
      rw [cps_app]
      exact List.append_nil _
    rw [e]
    unfold partsS
    rw [num_name h]
    show (if nameS z = true then some (z, (0 : Int)) else _) = _
    rw [if_pos h]
  · obtain ⟨l, s⟩ := sfx_len h0 h1 hk
    have n := name_len h
    unfold partsS
    have hn := cut_tail (z := z) l
    rw [num_none (by rw [strLen_append, l]; omega)]
    show (if nameS (z ++ sfx k) = true then _ else if nameS (headS (z ++ sfx k)) = true then _ else none) = _
    rw [if_neg (sh_noname6 (n := k) (by rw [hn]; exact s)), if_pos (by rw [cut_head l]; exact h), hn, s, cut_head l]
end Mz
set_option Elab.async false
set_option linter.all false
set_option maxRecDepth 100000
set_option maxHeartbeats 4000000
namespace Mz
open PySem PySem.Spec PyProof.Rows L2
/-- a place by its parts: no name or one of the names -/
def Prt (roots : List Str) (z : Str) (k : Int) : Prop := (z = "" ∧ 0 ≤ k ∧ k ≤ 3) ∨ (z ∈ roots ∧ -3 ≤ k ∧ k ≤ 3)
def spPair6 (K : PySem.W.Frag) : Sp := fun vs H Q _ => ∃ (b rl : Addr) (n : Nat) (roots : List Str), vs = [.ref b, .ref rl] ∧ Bx H b n ∧ n ≤ 900000 ∧ H rl = some (.lst (roots.map V.str)) ∧ roots.length ≤ 2 ∧ rl ≠ b ∧
  ∀ (q : Addr) (z : Str) (k : Int) (H' : Hp), Prt roots z k → H' q = some (.tup [.str z, .int k]) → H q = none → Bx H' b (n + 2) → Kp b H H' → Q (.ref q) H'
def spSize6 : Sp := fun vs H Q _ => ∃ (b : Addr) (n : Nat), vs = [.ref b] ∧ Bx H b n ∧ n ≤ 900000 ∧ ∀ (i : Int) (H' : Hp), 0 ≤ i → i < 10 ^ 50 → Bx H' b (n + 6) → Kp b H H' → Q (.int i) H'
/-- the value of a place, by the law's own dict -/
def wtD (kvs : List (Key × V)) (z : Str) (k : Int) : Option Int := match valV kvs (.inr z) with
  | some (.int n) => some (n + k)
  | some _ => none
  | none => some k
def spWorth6 : Sp := fun vs H Q _ => ∃ (d p : Addr) (kvs : List (Key × V)) (z : Str) (k n : Int), vs = [.ref d, .ref p] ∧ H d = some (.dK kvs) ∧ H p = some (.tup [.str z, .int k]) ∧ wtD kvs z k = some n ∧ Q (.int n) H
section
variable {P : Program} {w : World} {K : PySem.W.Frag} {mg : Str → Option Value} {base : Heap}
theorem scPair6 : FnScope ["_law_box_here", "_law_roots_here", "_law_root"] ["_law_box_here", "_law_roots_here"] (defScope sPair6) := ⟨rfl, rfl, rfl, by decide +kernel, rfl, by decide +kernel, by decide +kernel⟩
theorem ok_pair6 {f f1 : Addr} {fd fd1 : FuncData} (F : Fun K "_law_pair" "_law_pair" sPair6 f fd) (T : Tk P w K mg base f1 fd1) (B : Blt mg) : FnOk P w K mg base CX0 2 f fd ["_law_box_here", "_law_roots_here"] (spPair6 K) := by
  refine F.ok scPair6 (fun vs H Q E h => ?_) (fun cdv A outer s H vs Q E hr h => ?_)
  · obtain ⟨b, rl, n, roots, rfl, _⟩ := h
    rfl
  · obtain ⟨b, rl, n, roots, rfl, hB, hn, hR, hl, ne, q⟩ := h
    have nd := scPair6.nd
    refine ⟨_, pss_cons (ps_set (i := 2) nd rfl (Or.inl rfl) (pe_ix ix_list (pe_op op_cat (pv 1) (pe_lst (pa_cons pe_str pa_nil)))
        (pe_call T.ok hr (by rfl) T.m T.k T.b .nil pass0 (pa_cons (pv 0) (pa_cons (pe_op op_add (pe_callB call_len_seq (by rfl) B.len PySem.boot_len (pa_cons (pv 1) pa_nil)) pe_int) pa_nil))) (fun _ _ => rfl)))
      (pss_one (ps_ret (pe_tup (pa_cons (pv 2) (pa_cons (pe_ifExp (pt_cmpR op_eq (pv 2) pe_str (nomark _)) (pe_call T.ok hr (by rfl) T.m T.k T.b .nil pass0 (pa_cons (pv 0) (pa_cons pe_int pa_nil)))
        (pe_op op_sub (pe_call T.ok hr (by rfl) T.m T.k T.b .nil pass0 (pa_cons (pv 0) (pa_cons pe_int pa_nil))) pe_int)) pa_nil))))), ?_⟩
    have off : ∀ {G : Hp} {p : Addr} {m : Nat}, Bx G b m → G p = none → p ≠ b := fun hb hp => by
      obtain ⟨_, _, _, e, _⟩ := hb
      exact (ne_of_none e hp).symm
    have one : ∀ {H1 : Hp} {p : Addr} (o : HO), H1 p = none → ∃ H2, H2 = upd H1 p o ∧ Same H1 H2 ∧ H2 p = some o := fun o n => ⟨_, rfl, same_nw n, upd_same⟩
    refine ⟨_, rfl, (by show 1 ≤ sizeLine; decide), fun p1 n1 => ?_⟩
    obtain ⟨H1, e, s1, t1⟩ := one (.lst [V.str ""]) n1
    rw [← e]
    clear e
    refine ⟨_, _, _, _, rfl, rfl, s1 _ _ hR, t1, ?_, fun p2 n2 => ?_⟩
    · rw [List.length_map]
      have : 10 ≤ sizeLine := by decide
      show roots.length + 1 ≤ sizeLine
      omega
    obtain ⟨H2, e, s2, t2⟩ := one (.lst (roots.map V.str ++ [V.str ""])) n2
    rw [← e]
    clear e
    have B2 := (hB.same s1).same s2
    refine ⟨_, rfl, _, rfl, rl, _, rfl, .inl (SqL.of (s2 _ _ (s1 _ _ hR))), _, _, rfl, rfl, ?_⟩
    have lr : ((roots.map V.str).length : Int) = (roots.length : Int) := by rw [List.length_map]
    rw [lr]
    refine ⟨b, n, (roots.length : Int) + 1, rfl, B2, by omega, by omega, by omega, fun r H3 r0 r1 B3 K3 => ?_⟩
    obtain ⟨c, hc, hm⟩ := atI_in (l := roots.map V.str ++ [V.str ""]) (i := r) r0 (by
      rw [List.length_append, List.length_map]
      show r < ((roots.length + 1 : Nat) : Int)
      omega)
    refine ⟨p2, _, _, _, rfl, rfl, SqL.of (K3 _ _ (off (hB.same s1) n2) t2), hc, ?_⟩
    have K03 : Kp b H H3 := (Kp.same (s1.trans s2)).trans K3
    have fin : ∀ (z : Str) (k : Int) (H4 : Hp), Prt roots z k → Bx H4 b (n + 2) → Kp b H3 H4 → 2 ≤ sizeLine ∧ ∀ p, H4 p = none → Q (.ref p) (upd H4 p (.tup [.str z, .int k])) := by
      intro z k H4 pr B4 K4
      refine ⟨(by decide), fun p np => q p z k _ pr upd_same ?_ (B4.same (same_nw np)) ((K03.trans K4).trans (Kp.same (same_nw np)))⟩
      cases x : H p with
      | none => rfl
      | some o =>
        have := (K03.trans K4) p o (off B4 np) x
        rw [np] at this
        cases this
    have hz : ∃ z, c = .str z ∧ (z ∈ roots ∨ z = "") := by
      rcases List.mem_append.mp hm with h | h
      · obtain ⟨z, h1, h2⟩ := List.mem_map.mp h
        exact ⟨z, h2.symm, .inl h1⟩
      · exact ⟨"", List.mem_singleton.mp h, .inr rfl⟩
    obtain ⟨z, rfl, hz⟩ := hz
    refine ⟨_, rfl, _, rfl, rfl, _, rfl, ?_⟩
    refine ite2 (fun h1 => ?_) (fun h1 => ?_)
    · have e1 : z = "" := V.str.inj (of_decide_eq_true h1)
      refine ⟨_, rfl, b, n + 1, 4, rfl, B3, by omega, by decide, by decide, fun k H4 k0 k1 B4 K4 => ?_⟩
      exact fin z k H4 (.inl ⟨e1, k0, by omega⟩) B4 K4
    · have e1 : ¬ z = "" := fun x => h1 (decide_eq_true (by rw [x]))
      refine ⟨_, rfl, b, n + 1, 7, rfl, B3, by omega, by decide, by decide, fun k H4 k0 k1 B4 K4 => ⟨_, _, rfl, rfl, ?_⟩⟩
      exact fin z (k - 3) H4 (.inr ⟨hz.resolve_right e1, by omega, by omega⟩) B4 K4
theorem scSize6 : FnScope ["_law_box_here", "_law_some"] ["_law_box_here"] (defScope sSize6) := ⟨rfl, rfl, rfl, by decide +kernel, rfl, by decide +kernel, by decide +kernel⟩
theorem ok_size6 {f f1 : Addr} {fd fd1 : FuncData} (F : Fun K "_law_size" "_law_size" sSize6 f fd) (T : Tk P w K mg base f1 fd1) : FnOk P w K mg base CX0 2 f fd ["_law_box_here"] spSize6 := by
  refine F.ok scSize6 (fun vs H Q E h => ?_) (fun cdv A outer s H vs Q E hr h => ?_)
  · obtain ⟨b, n, rfl, _⟩ := h
    rfl
  · obtain ⟨b, n, rfl, hB, hn, q⟩ := h
    have nd := scSize6.nd
    refine ⟨_, pss_cons (ps_set (i := 1) nd rfl (Or.inl rfl) (pe_lst (pa_cons (pe_call T.ok hr (by rfl) T.m T.k T.b .nil pass0 (pa_cons (pv 0) (pa_cons pe_int pa_nil)))
        (pa_cons (pe_op op_add (pe_op op_mul pe_int (pe_call T.ok hr (by rfl) T.m T.k T.b .nil pass0 (pa_cons (pv 0) (pa_cons pe_int pa_nil)))) (pe_call T.ok hr (by rfl) T.m T.k T.b .nil pass0 (pa_cons (pv 0) (pa_cons pe_int pa_nil))))
        (pa_cons (pe_op op_mulW (pe_call T.ok hr (by rfl) T.m T.k T.b .nil pass0 (pa_cons (pv 0) (pa_cons (pe_op op_pow pe_int pe_int) pa_nil))) (pe_op op_pow pe_int pe_int)) pa_nil)))))
      (pss_one (ps_ret (pe_op op_add (pe_ix ix_list (pv 1) (pe_call T.ok hr (by rfl) T.m T.k T.b .nil pass0 (pa_cons (pv 0) (pa_cons pe_int pa_nil))) (fun _ _ => rfl)) (pe_call T.ok hr (by rfl) T.m T.k T.b .nil pass0 (pa_cons (pv 0) (pa_cons pe_int pa_nil)))))), ?_⟩
    have off : ∀ {G : Hp} {p : Addr} {m : Nat}, Bx G b m → G p = none → p ≠ b := fun hb hp => by
      obtain ⟨_, _, _, e, _⟩ := hb
      exact (ne_of_none e hp).symm
    refine ⟨_, rfl, b, n, 40, rfl, hB, by omega, by decide, by decide, fun r0 H1 a0 c0 B1 K1 => ?_⟩
    refine ⟨_, rfl, b, n + 1, 9, rfl, B1, by omega, by decide, by decide, fun r1 H2 a1 c1 B2 K2 => ⟨_, _, rfl, rfl, .inl ⟨by decide, by decide⟩, ?_⟩⟩
    refine ⟨_, rfl, b, n + 2, 7, rfl, B2, by omega, by decide, by decide, fun r2 H3 a2 c2 B3 K3 => ⟨_, _, rfl, rfl, ?_⟩⟩
    refine ⟨_, rfl, _, _, rfl, rfl, ⟨by decide, by decide, by decide⟩, b, n + 3, _, rfl, B3, by omega, by decide, by decide, fun r3 H4 a3 c3 B4 K4 => ⟨_, _, rfl, rfl, ⟨by decide, by decide, by decide⟩, _, _, rfl, rfl, ?_, ?_⟩⟩
    · exact wide_mul (a := 64) (b := 140) (by
        have : (10 : Int) ^ (9 : Int).toNat = 1000000000 := by decide
        omega) (by decide +kernel) (by decide) (by decide) (by decide)
    refine ⟨(by show 3 ≤ sizeLine; decide), fun p np => ?_⟩
    have t5 : upd H4 p (.lst [.int r0, .int (32 * r1 + r2), .int (r3 * 10 ^ (40 : Int).toNat)]) p = some (.lst [.int r0, .int (32 * r1 + r2), .int (r3 * 10 ^ (40 : Int).toNat)]) := upd_same
    have s5 : Same H4 (upd H4 p (.lst [.int r0, .int (32 * r1 + r2), .int (r3 * 10 ^ (40 : Int).toNat)])) := same_nw np
    generalize upd H4 p (.lst [.int r0, .int (32 * r1 + r2), .int (r3 * 10 ^ (40 : Int).toNat)]) = H5 at t5 s5
    refine ⟨_, rfl, _, rfl, b, n + 4, 3, rfl, B4.same s5, by omega, by decide, by decide, fun r4 H6 a4 c4 B6 K6 => ?_⟩
    obtain ⟨c, hc, hm⟩ := atI_in (l := [V.int r0, V.int (32 * r1 + r2), V.int (r3 * 10 ^ (40 : Int).toNat)]) (i := r4) a4 c4
    refine ⟨p, _, _, _, rfl, rfl, SqL.of (K6 _ _ (off B4 np) t5), hc, ?_⟩
    refine ⟨_, rfl, b, n + 5, 5, rfl, B6, by omega, by decide, by decide, fun r5 H7 a5 c5 B7 K7 => ?_⟩
    have kp : Kp b H H7 := K1.trans (K2.trans (K3.trans (K4.trans ((Kp.same s5).trans (K6.trans K7)))))
    simp only [List.mem_cons, List.not_mem_nil, or_false] at hm
    have e9 : (10 : Int) ^ (9 : Int).toNat = 1000000000 := by decide
    have e40 : (10 : Int) ^ (40 : Int).toNat = 10000000000000000000000000000000000000000 := by decide
    have e50 : (10 : Int) ^ 50 = 100000000000000000000000000000000000000000000000000 := by decide
    rcases hm with rfl | rfl | rfl
    · exact ⟨_, _, rfl, rfl, q _ _ (by omega) (by rw [e50]; omega) B7 kp⟩
    · exact ⟨_, _, rfl, rfl, q _ _ (by omega) (by rw [e50]; omega) B7 kp⟩
    · exact ⟨_, _, rfl, rfl, q _ _ (by rw [e40]; omega) (by rw [e50, e40]; omega) B7 kp⟩
theorem scWorth6 : FnScope ["_law_worths", "_law_pair_here"] ["_law_worths", "_law_pair_here"] (defScope sWorth6) := ⟨rfl, rfl, rfl, by decide +kernel, rfl, by decide +kernel, by decide +kernel⟩
theorem ok_worth6 {f : Addr} {fd : FuncData} (F : Fun K "_law_worth" "_law_worth" sWorth6 f fd) : FnOk P w K mg base CX0 1 f fd ["_law_worths", "_law_pair_here"] spWorth6 := by
  refine F.ok scWorth6 (fun vs H Q E h => ?_) (fun cdv A outer s H vs Q E hr h => ?_)
  · obtain ⟨d, p, kvs, z, k, n, rfl, _⟩ := h
    rfl
  · obtain ⟨d, p, kvs, z, k, n, rfl, hd, hp, hw, q⟩ := h
    refine ⟨_, pss_one (ps_ret (pe_op op_add (pe_dget2 (hu_of hr) (pv 0) (pe_ix ix_tup (pv 1) pe_int (fun _ _ => rfl)) pe_int ⟨by rfl, by rfl, by rfl, by rfl⟩) (pe_ix ix_tup (pv 1) pe_int (fun _ _ => rfl)))), ?_⟩
    refine ⟨_, rfl, d, rfl, .inl ⟨_, .inl hd⟩, _, rfl, p, _, _, _, rfl, rfl, SqT.of hp, rfl, _, DGet.k (k := .inr z) hd, ?_⟩
    unfold wtD at hw
    cases e : valV kvs (.inr z) with
    | none =>
      rw [e] at hw
      cases hw
      refine ⟨_, rfl, p, _, _, _, rfl, rfl, SqT.of hp, rfl, _, _, rfl, rfl, ?_⟩
      show Q (.int (0 + k)) H
      rw [Int.zero_add]
      exact q
    | some v =>
      rw [e] at hw
      cases v with
      | int i =>
        cases hw
        exact ⟨_, rfl, p, _, _, _, rfl, rfl, SqT.of hp, rfl, _, _, rfl, rfl, q⟩
      | _ => cases hw
end
end Mz
set_option Elab.async false
set_option linter.all false
set_option maxRecDepth 100000
set_option maxHeartbeats 4000000
namespace Mz
open PySem PySem.Spec PyProof.Rows L2
/-- parts that a place may have -/
def Prs (z : Str) (k : Int) : Prop := (z = "" ∧ 0 ≤ k ∧ k ≤ 3) ∨ (nameS z = true ∧ Sm 10 z ∧ -3 ≤ k ∧ k ≤ 3)
theorem Prs.good {z : Str} {k : Int} (h : Prs z k) : Good z k := by
  rcases h with ⟨rfl, h0, h1⟩ | ⟨hn, hs, h0, h1⟩
  · exact ⟨by decide +kernel, by decide +kernel, .inl rfl, by unfold lowS; rw [if_pos rfl]; exact h0, h1⟩
  · refine ⟨Nat.le_trans hs.1 (by decide), hs.2, .inr hn, ?_, h1⟩
    unfold lowS
    rw [if_neg (fun e => by rw [e] at hn; revert hn; decide +kernel)]
    exact h0
/-- what stands for a place -/
def Pv6 (K : PySem.W.Frag) (C : Addr) (H : Hp) (v : V) (z : Str) (k : Int) : Prop := (∃ a, v = .ref a ∧ Pl C H a z k) ∨ (NoPl K C H v ∧ ofV v = some (z, k))
theorem Pv6.plv {K : PySem.W.Frag} {C : Addr} {H : Hp} {v : V} {z : Str} {k : Int} (h : Pv6 K C H v z k) (kvs : List (Key × V)) : PlV K C H kvs v (wtK kvs z k) := by
  rcases h with ⟨a, e, p⟩ | ⟨n, e⟩
  · exact .inl ⟨a, z, k, e, p, rfl⟩
  · exact .inr ⟨n, by rw [e]; rfl⟩
def spTold6 (K : PySem.W.Frag) (C : Addr) : Sp := fun vs H Q _ => ∃ (b p : Addr) (n : Nat) (z : Str) (k : Int), vs = [.ref b, .ref p] ∧ Bx H b n ∧ n ≤ 900000 ∧ H p = some (.tup [.str z, .int k]) ∧ Prs z k ∧
  ∀ (v : V) (H' : Hp), Pv6 K C H' v z k → (∀ a, v = .ref a → a ≠ b ∧ H a = none) → Bx H' b (n + 1) → Kp b H H' → Q v H'
section
variable {P : Program} {w : World} {K : PySem.W.Frag} {mg : Str → Option Value} {base : Heap}
theorem scTold6 : FnScope ["_law_box_here", "_law_pair_here", "_law_way", "_law_text"] ["_law_box_here", "_law_pair_here"] (defScope sTold6) := ⟨rfl, rfl, rfl, by decide +kernel, rfl, by decide +kernel, by decide +kernel⟩
theorem ok_told6 {f f1 fI fA C : Addr} {fd fd1 fdI fdA : FuncData} {ds : List Value} {g2 : List Value → List Value → List Value} (F : Fun K "_law_told" "_law_told" sTold6 f fd) (T : Tk P w K mg base f1 fd1) (Z : Cpl K mg C) (M : Mk K C fI) (N : Npl K C)
    (GI : FnOk P w K mg base CX0 3 fI fdI ["self", "base", "shift"] (spInit C)) (hds : Vals [.int 0] ds) (bI : Binds K fdI ["self", "base", "shift"] ds) (kI2 : KBn K fdI ["self", "base", "shift"] 2 ["shift"] g2 (fun vs zs => vs ++ zs))
    (GA : FnOk P w K mg base CX0 5 fA fdA ["self", "other"] (spAdd C)) (bA : Binds K fdA ["self", "other"] []) (TA : Arith K C .Add fA) : FnOk P w K mg base CX0 6 f fd ["_law_box_here", "_law_pair_here"] (spTold6 K C) := by
  refine F.ok scTold6 (fun vs H Q E h => ?_) (fun cdv A outer s H vs Q E hr5 h => ?_)
  · obtain ⟨b, p, n, z, k, rfl, _⟩ := h
    rfl
  · obtain ⟨b, p, n, z, k, rfl, hB, hn, hp, hz, q⟩ := h
    have nd := scTold6.nd
    have hr1 : Room 1 _ := hr5.mono (by decide)
    have hr4 : Room 4 _ := hr5.mono (by decide)
    refine ⟨_, pss_cons (ps_set (i := 2) nd rfl (Or.inl rfl) (pe_call T.ok hr1 (by rfl) T.m T.k T.b .nil pass0 (pa_cons (pv 0) (pa_cons pe_int pa_nil))))
      (pss_cons (ps_set (i := 3) nd rfl (Or.inl rfl) (pe_op op_add_str (pe_ix ix_tup (pv 1) pe_int (fun _ _ => rfl)) (pe_ix ix_list (pe_lst (pa_cons pe_str (pa_cons pe_str (pa_cons pe_str (pa_cons pe_str (pa_cons pe_str (pa_cons pe_str (pa_cons pe_str pa_nil)))))))) (pe_ix ix_tup (pv 1) pe_int (fun _ _ => rfl)) (fun _ _ => rfl))))
      (pss_cons (ps_if (pt_cmpR op_eq (pv 2) pe_int (nomark _)) (pss_one (ps_ret (pe_makeK M GI hr4 (by rfl) Z.mgC kI2 pass0 (pa_cons (pe_ix ix_tup (pv 1) pe_int (fun _ _ => rfl)) pa_nil) (pk_cons (pe_ix ix_tup (pv 1) pe_int (fun _ _ => rfl)) pk_nil)))) pss_nil)
      (pss_cons (ps_if (pt_cmpR op_eq (pv 2) pe_int (nomark _)) (pss_one (ps_ret (pe_op (op_binO GA hr5 bA TA) (pe_make M GI hr4 (by rfl) Z.mgC bI hds pass0 (pa_cons (pe_ix ix_tup (pv 1) pe_int (fun _ _ => rfl)) pa_nil)) (pe_ix ix_tup (pv 1) pe_int (fun _ _ => rfl))))) pss_nil)
      (pss_cons (ps_if (pt_cmpR op_eq (pe_ix ix_tup (pv 1) pe_int (fun _ _ => rfl)) pe_str (nomark _)) (pss_one (ps_ret (pe_ix ix_list (pe_lst (pa_cons (pe_ix ix_tup (pv 1) pe_int (fun _ _ => rfl)) (pa_cons (pe_ix ix_str pe_str (pe_ix ix_tup (pv 1) pe_int (fun _ _ => rfl)) (fun _ _ => rfl)) pa_nil))) (pe_op op_sub (pv 2) pe_int) (fun _ _ => rfl)))) pss_nil)
      (pss_one (ps_ret (pv 3))))))), ?_⟩
    have off : ∀ {G : Hp} {p : Addr} {m : Nat}, Bx G b m → G p = none → p ≠ b := fun hb hp => by
      obtain ⟨_, _, _, e, _⟩ := hb
      exact (ne_of_none e hp).symm
    have one : ∀ {H1 : Hp} {p : Addr} (o : HO), H1 p = none → ∃ H2, H2 = upd H1 p o ∧ Same H1 H2 ∧ H2 p = some o := fun o n => ⟨_, rfl, same_nw n, upd_same⟩
    have pb : p ≠ b := by
      obtain ⟨_, _, _, e, _⟩ := hB
      intro x
      rw [x, e] at hp
      cases hp
    have g := hz.good
    have k0 := g.lo
    have k1 := g.hi
    refine ⟨_, rfl, b, n, 4, rfl, hB, by omega, by decide, by decide, fun way H1 w0 w1 B1 K1 => ?_⟩
    have hp1 := K1 _ _ pb hp
    refine ⟨_, rfl, p, _, _, _, rfl, rfl, SqT.of hp1, rfl, (by show 7 ≤ sizeLine; decide), fun p2 n2 => ?_⟩
    obtain ⟨H2, e, s2, t2⟩ := one (.lst [V.str "", V.str "+1", V.str "+2", V.str "+3", V.str "-3", V.str "-2", V.str "-1"]) n2
    rw [← e]
    clear e
    have hp2 := s2 _ _ hp1
    have ix7 : atI [V.str "", V.str "+1", V.str "+2", V.str "+3", V.str "-3", V.str "-2", V.str "-1"] k = some (.str (sfx k)) := by
      have h : k = -3 ∨ k = -2 ∨ k = -1 ∨ k = 0 ∨ k = 1 ∨ k = 2 ∨ k = 3 := by omega
      rcases h with rfl | rfl | rfl | rfl | rfl | rfl | rfl <;> rfl
    have sl : (sfx k).length ≤ 2 := by
      by_cases h : k = 0
      · subst h
        decide +kernel
      · rw [(sfx_len k0 k1 h).1]
        exact Nat.le_refl _
    have z10 : z.length ≤ 1000 := g.1
    have sz : 10000 ≤ sizeLine := by decide
    refine ⟨_, rfl, p, _, _, _, rfl, rfl, SqT.of hp2, rfl, p2, _, _, _, rfl, rfl, SqL.of t2, ix7, _, _, rfl, rfl, by omega, ?_⟩
    have K02 : Kp b H H2 := K1.trans (Kp.same s2)
    have B2 := B1.same s2
    have fresh : ∀ {G : Hp} {q : Addr}, Kp b H G → q ≠ b → G q = none → H q = none := fun {G q} kp nq e => by
      cases x : H q with
      | none => rfl
      | some o =>
        rw [kp q o nq x] at e
        cases e
    refine ⟨_, rfl, rfl, _, rfl, ite2 (fun h1 => ?_) (fun h1 => ?_)⟩
    · refine ⟨_, rfl, p, _, _, _, rfl, rfl, SqT.of hp2, rfl, _, rfl, p, _, _, _, rfl, rfl, SqT.of hp2, rfl, rfl, rfl, fun x dx nx ndx nn => ?_⟩
      refine ⟨x, dx, z, k, rfl, upd_same, g.1, g.2.1, g.2.2.1, g.2.2.2.1, g.2.2.2.2, fun H3 u3 t3 => ⟨rfl, ?_⟩⟩
      have s3 : Same H2 H3 := fun r o h => u3 r o (ne_of_none h nx) (by
        rw [upd_ne (ne_of_none h nx), upd_ne (ne_of_none h ndx)]
        exact h)
      exact q _ H3 (.inl ⟨x, rfl, dx, t3⟩) (fun a e => by cases e; exact ⟨off B2 nx, fresh K02 (off B2 nx) nx⟩) (B2.same s3) (K02.trans (Kp.same s3))
    refine ⟨_, rfl, rfl, _, rfl, ite2 (fun h2 => ?_) (fun h2 => ?_)⟩
    · refine ⟨_, rfl, p, _, _, _, rfl, rfl, SqT.of hp2, rfl, fun x dx nx ndx nn => ?_⟩
      have g0 : Good z 0 := ⟨g.1, g.2.1, g.2.2.1, by unfold lowS; split <;> omega, by omega⟩
      refine ⟨x, dx, z, 0, rfl, upd_same, g.1, g.2.1, g.2.2.1, g0.2.2.2.1, by decide, fun H3 u3 t3 => ⟨rfl, ?_⟩⟩
      have s3 : Same H2 H3 := fun r o h => u3 r o (ne_of_none h nx) (by
        rw [upd_ne (ne_of_none h nx), upd_ne (ne_of_none h ndx)]
        exact h)
      refine ⟨_, rfl, p, _, _, _, rfl, rfl, SqT.of (s3 _ _ hp2), rfl, x, dx, _, k, rfl, rfl, t3, x, z, 0, k, rfl, ⟨dx, t3⟩, g0, by rw [Int.zero_add]; exact g, fun p4 H4 n4 s4 h4 => ⟨⟨p4, rfl⟩, ?_⟩⟩
      rw [Int.zero_add] at h4
      have B3 := B2.same s3
      have K03 := K02.trans (Kp.same s3)
      exact q _ H4 (.inl ⟨p4, rfl, h4⟩) (fun a e => by cases e; exact ⟨off B3 n4, fresh K03 (off B3 n4) n4⟩) (B3.same s4) (K03.trans (Kp.same s4))
    have w3 : way = 1 ∨ way = 2 := by
      have a1 : way ≠ 0 := fun e => h1 (decide_eq_true (by rw [e]))
      have a2 : way ≠ 3 := fun e => h2 (decide_eq_true (by rw [e]))
      omega
    refine ⟨_, rfl, p, _, _, _, rfl, rfl, SqT.of hp2, rfl, rfl, _, rfl, ite2 (fun h3 => ?_) (fun h3 => ?_)⟩
    · have e1 : z = "" := V.str.inj (of_decide_eq_true h3)
      subst e1
      have k00 : 0 ≤ k := by
        have := g.2.2.2.1
        unfold lowS at this
        rw [if_pos rfl] at this
        exact this
      obtain ⟨c, hc, hm⟩ := atI_in (l := ("0123" : Str).cps.toList) (i := k) k00 (by
        show k < 4
        omega)
      refine ⟨_, rfl, p, _, _, _, rfl, rfl, SqT.of hp2, rfl, _, rfl, p, _, _, _, rfl, rfl, SqT.of hp2, rfl, "0123", k, c, rfl, rfl, (by decide +kernel), hc, (by show 2 ≤ sizeLine; decide), fun p3 n3 => ?_⟩
      have s3 : Same H2 (upd H2 p3 (.lst [.int k, .str ⟨#[c]⟩])) := same_nw n3
      have t3 : upd H2 p3 (.lst [.int k, .str ⟨#[c]⟩]) p3 = some (.lst [.int k, .str ⟨#[c]⟩]) := upd_same
      generalize upd H2 p3 (.lst [.int k, .str ⟨#[c]⟩]) = H3 at s3 t3
      refine ⟨_, rfl, _, _, rfl, rfl, ?_⟩
      have B3 := B2.same s3
      have K03 := K02.trans (Kp.same s3)
      rcases w3 with rfl | rfl
      · exact ⟨p3, _, _, _, rfl, rfl, SqL.of t3, rfl, q _ H3 (.inr ⟨⟨.int k, _, .base (.int k), N.int⟩, by show (if 0 ≤ k ∧ k ≤ 3 then some ((("" : Str), k)) else none) = _; rw [if_pos ⟨k00, k1⟩]⟩) (fun a e => nomatch e) B3 K03⟩
      · refine ⟨p3, _, _, _, rfl, rfl, SqL.of t3, rfl, q _ H3 (.inr ⟨⟨.str _ (Nat.le_trans (Nat.le_refl 1) (by decide)) ?_, _, .base (.str _), N.str⟩, ?_⟩) (fun a e => nomatch e) B3 K03⟩
        · exact sign_ok (z := "0123") (by decide +kernel) hm
        · have h : k = 0 ∨ k = 1 ∨ k = 2 ∨ k = 3 := by omega
          rcases h with rfl | rfl | rfl | rfl
          · cases hc
            decide +kernel
          · cases hc
            decide +kernel
          · cases hc
            decide +kernel
          · cases hc
            decide +kernel
    · have e1 : ¬ z = "" := fun x => h3 (decide_eq_true (by rw [x]))
      obtain ⟨hn1, hs, _, _⟩ := hz.resolve_left fun x => e1 x.1
      have s2' : Sm 2 (sfx k) := ⟨sl, by
        have h : k = -3 ∨ k = -2 ∨ k = -1 ∨ k = 0 ∨ k = 1 ∨ k = 2 ∨ k = 3 := by omega
        rcases h with rfl | rfl | rfl | rfl | rfl | rfl | rfl <;> decide +kernel⟩
      have ss := hs.app s2'
      exact ⟨_, rfl, q _ H2 (.inr ⟨⟨.str _ (Nat.le_trans ss.1 (by decide)) ss.2, _, .base (.str _), N.str⟩, parts_sfx hn1 k0 k1⟩) (fun a e => nomatch e) B2 K02⟩
end
end Mz
set_option Elab.async false
set_option linter.all false
set_option maxRecDepth 100000
set_option maxHeartbeats 4000000
namespace Mz
open PySem PySem.Spec PyProof.Rows L2
theorem takes_nowhere {X : Cx} : Takes X (fun _ _ _ _ => False) := fun u s' ⟨_, _, _, _, _, _, _, _, _, _, _, _, _, _, _, _, w⟩ => w.elim
theorem join_list : ∀ cs : List Nat, (Str.join "" (cs.map fun c => (⟨#[c]⟩ : Str))).cps.toList = cs
  | [] => rfl
  | [c] => rfl
  | c :: d :: r => by
    show ((⟨#[c]⟩ : Str) ++ "" ++ Str.join "" ((d :: r).map fun c => (⟨#[c]⟩ : Str))).cps.toList = _
    rw [app_list, app_list, join_list (d :: r), nil_list, List.append_nil]
    rfl
/-- a text of up to n letters -/
def Az (n : Nat) (z : Str) : Prop := z.length ≤ n ∧ ∀ c ∈ z.cps.toList, c ∈ abc.cps.toList
theorem Az.sm {n : Nat} {z : Str} (h : Az n z) : Sm n z := ⟨h.1, strOk_iff.mpr fun c hc => by
  have := h.2 c hc
  revert this
  rw [abc_range]
  intro x
  have := List.mem_range'_1.mp x
  omega⟩
theorem Az.app {n m : Nat} {y z : Str} (hy : Az n y) (hz : Az m z) : Az (n + m) (y ++ z) := by
  refine ⟨by rw [strLen_append]; exact Nat.add_le_add hy.1 hz.1, fun c hc => ?_⟩
  rw [cps_app] at hc
  rcases List.mem_append.mp hc with h | h
  · exact hy.2 c h
  · exact hz.2 c h
theorem Az.cut {n : Nat} {z : Str} (h : Az n z) (lo hi : Option Int) : Az n (cutS z lo hi) := by
  refine ⟨Nat.le_trans (cutS_length z lo hi) h.1, fun c hc => ?_⟩
  unfold cutS at hc
  exact h.2 c (List.mem_of_mem_drop (List.mem_of_mem_take (by simpa using hc)))
theorem Az.one {c : Nat} (h : c ∈ abc.cps.toList) : Az 1 ⟨#[c]⟩ := ⟨Nat.le_refl _, fun d hd => by
  have : d = c := by simpa using hd
  rw [this]
  exact h⟩
theorem Az.name {z : Str} (h : Az 6 z) (h1 : 1 ≤ z.length) : nameS z = true := by
  show ((decide (1 ≤ (z.length : Int)) && decide ((z.length : Int) ≤ 6)) && z.cps.toList.all fun c => decide (c ∈ abc.cps.toList)) = true
  have h6 := h.1
  rw [decide_eq_true (by omega), decide_eq_true (by omega)]
  show (z.cps.toList.all fun c => decide (c ∈ abc.cps.toList)) = true
  rw [List.all_eq_true]
  exact fun c hc => decide_eq_true (h.2 c hc)
theorem index_abc : ∀ c ∈ abc.cps.toList, (Txt.index0 abc ⟨#[c]⟩).isSome = true := by decide +kernel
/-- names, as the law draws them -/
def Rt (z : Str) : Prop := nameS z = true ∧ Sm 10 z
theorem Rt.of {z : Str} (h : Az 6 z) (h1 : 1 ≤ z.length) : Rt z := ⟨h.name h1, h.sm.mono (by decide)⟩
def spRoots6 : Sp := fun vs H Q _ => ∃ (b : Addr) (n : Nat), vs = [.ref b] ∧ Bx H b n ∧ n ≤ 900000 ∧ ∀ (p : Addr) (y z : Str) (H' : Hp), Rt y → Rt z → H' p = some (.lst [.str y, .str z]) → H p = none → p ≠ b → Bx H' b (n + 15) → Kp b H H' → Q (.ref p) H'
section
variable {P : Program} {w : World} {K : PySem.W.Frag} {mg : Str → Option Value} {base : Heap}
theorem scRoots6 : FnScope ["_law_box_here", "_law_seven", "_law_at", "_law_letters", "_law_stem", "_law_longer", "_law_way", "_law_k"] ["_law_box_here"] (defScope sRoots6) := ⟨rfl, rfl, rfl, by decide +kernel, rfl, by decide +kernel, by decide +kernel⟩
theorem ok_roots6 {f f1 : Addr} {fd fd1 : FuncData} (F : Fun K "_law_roots" "_law_roots" sRoots6 f fd) (T : Tk P w K mg base f1 fd1) (B : Blt mg) : FnOk P w K mg base CX0 2 f fd ["_law_box_here"] spRoots6 := by
  refine F.ok scRoots6 (fun vs H Q E h => ?_) (fun cdv A outer s H vs Q E hr h => ?_)
  · obtain ⟨b, n, rfl, _⟩ := h
    rfl
  · obtain ⟨b, n, rfl, hB, hn, q⟩ := h
    have nd := scRoots6.nd
    refine ⟨_, (pss_cons (ps_set (i := 1) nd rfl (Or.inl rfl) (pe_lst (pa_cons pe_str (pa_cons pe_str (pa_cons pe_str (pa_cons pe_str (pa_cons pe_str (pa_cons pe_str (pa_cons pe_str pa_nil)))))))))
      (pss_cons (ps_if (pt_cmpR op_eq (pe_call T.ok hr (by rfl) T.m T.k T.b .nil pass0 (pa_cons (pv 0) (pa_cons pe_int pa_nil))) pe_int (nomark _)) (pss_cons (ps_set (i := 2) nd rfl (Or.inl rfl) (pe_call T.ok hr (by rfl) T.m T.k T.b .nil pass0 (pa_cons (pv 0) (pa_cons pe_int pa_nil))))
      (pss_one (ps_ret (pe_lst (pa_cons (pe_ix ix_list (pv 1) (pv 2) (fun _ _ => rfl)) (pa_cons (pe_ix ix_list (pv 1) (pe_op op_mod (pe_op op_add (pe_op op_add (pv 2) pe_int) (pe_call T.ok hr (by rfl) T.m T.k T.b .nil pass0 (pa_cons (pv 0) (pa_cons pe_int pa_nil)))) pe_int) (fun _ _ => rfl)) pa_nil)))))) pss_nil)
      (pss_cons (ps_set (i := 3) nd rfl (Or.inr rfl) pe_str)
      (pss_cons (ps_set (i := 4) nd rfl (Or.inl rfl) (pe_join pe_str (pe_lc (own := [("_law_k", 7)]) (g := gName 7) (tt := tYes) rfl nd (pi_range1 rfl B.range (pa_cons (pe_op op_add pe_int (pe_call T.ok hr (by rfl) T.m T.k T.b .nil pass0 (pa_cons (pv 0) (pa_cons pe_int pa_nil)))) pa_nil)) (blkOk_by (N := ["_law_box_here", "_law_seven", "_law_at", "_law_letters", "_law_stem", "_law_longer", "_law_way", "_law_k"]) (sc := defScope sRoots6) (by decide +kernel)) (fun _ _ _ _ _ => pg_name (i := 7) nd rfl (Or.inl rfl)) (fun _ _ _ _ _ => pts_nil) (fun _ _ _ _ _ => (pe_ix ix_str (pv 3) (pe_call T.ok hr (by rfl) T.m T.k T.b .nil pass0 (pa_cons (pv 0) (pa_cons pe_int pa_nil))) (fun _ _ => rfl))))))
      (pss_cons (ps_par (i := 5) (j := 6) rfl nd rfl rfl (by decide) rfl rfl (pa_cons (pe_op op_add_str (pv 4) (pe_ix ix_str (pv 3) (pe_call T.ok hr (by rfl) T.m T.k T.b .nil pass0 (pa_cons (pv 0) (pa_cons pe_int pa_nil))) (fun _ _ => rfl))) (pa_cons (pe_call T.ok hr (by rfl) T.m T.k T.b .nil pass0 (pa_cons (pv 0) (pa_cons pe_int pa_nil))) pa_nil)) (by rfl))
      (pss_cons (ps_if (pt_cmpR op_eq (pv 6) pe_int (nomark _)) (pss_one (ps_set (i := 5) nd rfl (Or.inl rfl) (pe_op op_add_str (pe_ix ix_str (pv 3) (pe_op op_mod (pe_op op_add (pe_op op_add (pe_bmS PySem.F.plainAttrs_str PySem.F.slot_str_index PySem.F.type_str_index (mt_indexX rfl takes_nowhere) (pv 3) (pa_cons (pe_ix ix_str (pv 4) pe_int (fun _ _ => rfl)) pa_nil)) pe_int) (pe_call T.ok hr (by rfl) T.m T.k T.b .nil pass0 (pa_cons (pv 0) (pa_cons pe_int pa_nil)))) pe_int) (fun _ _ => rfl)) (pe_slice sl_str (pv 4) (po_some pe_int) po_none)))) pss_nil)
      (pss_cons (ps_if (pt_cmpR op_eq (pv 6) pe_int (nomark _)) (pss_one (ps_par (i := 4) (j := 5) rfl nd rfl rfl (by decide) rfl rfl (pa_cons (pe_op op_add_str pe_str (pe_slice sl_str (pv 4) po_none (po_some pe_int))) (pa_cons (pe_op op_add_str pe_str (pv 4)) pa_nil)) (by rfl))) pss_nil)
      (pss_one (ps_ret (pe_ifExp (pt_cmpR op_eq (pe_call T.ok hr (by rfl) T.m T.k T.b .nil pass0 (pa_cons (pv 0) (pa_cons pe_int pa_nil))) pe_int (nomark _)) (pe_lst (pa_cons (pv 4) (pa_cons (pv 5) pa_nil))) (pe_lst (pa_cons (pv 5) (pa_cons (pv 4) pa_nil))))))))))))), ?_⟩
    have off : ∀ {G : Hp} {p : Addr} {m : Nat}, Bx G b m → G p = none → p ≠ b := fun hb hp => by
      obtain ⟨_, _, _, e, _⟩ := hb
      exact (ne_of_none e hp).symm
    have one : ∀ {H1 : Hp} {p : Addr} (o : HO), H1 p = none → ∃ H2, H2 = upd H1 p o ∧ Same H1 H2 ∧ H2 p = some o := fun o n => ⟨_, rfl, same_nw n, upd_same⟩
    have free : ∀ {G : Hp} {q : Addr}, Kp b H G → q ≠ b → G q = none → H q = none := fun {G q} kp nq e => by
      cases x : H q with
      | none => rfl
      | some o =>
        rw [kp q o nq x] at e
        cases e
    have fin : ∀ (y z : Str) (G : Hp), Rt y → Rt z → Bx G b (n + 15) → Kp b H G → 2 ≤ sizeLine ∧ ∀ p, G p = none → Q (.ref p) (upd G p (.lst [.str y, .str z])) := fun y z G hy hz bx kp => ⟨(by decide), fun p np => q p y z _ hy hz upd_same (free kp (off bx np) np) (off bx np) (bx.same (same_nw np)) (kp.trans (Kp.same (same_nw np)))⟩
    refine ⟨(by show 7 ≤ sizeLine; decide), fun p1 n1 => ?_⟩
    obtain ⟨H1, e, s1, t1⟩ := one (.lst ((["done", "end", "fails", "more", "none", "old", "zero"] : List Str).map V.str)) n1
    rw [show (upd H p1 (.lst [V.str "done", V.str "end", V.str "fails", V.str "more", V.str "none", V.str "old", V.str "zero"])) = H1 from e.symm]
    clear e
    have seven : ∀ y ∈ (["done", "end", "fails", "more", "none", "old", "zero"] : List Str), Rt y := by
      unfold Rt Sm
      decide +kernel
    have B1 := hB.same s1
    refine ⟨_, rfl, b, n, 6, rfl, B1, by omega, by decide, by decide, fun r H2 r0 r1 B2 K2 => ⟨rfl, _, rfl, ite2 (fun _ => ?_) (fun _ => ?_)⟩⟩
    · refine ⟨_, rfl, b, n + 1, 7, rfl, B2, by omega, by decide, by decide, fun at_ H3 a0 a1 B3 K3 => ?_⟩
      have t3 := K3 _ _ (off hB n1) (K2 _ _ (off hB n1) t1)
      obtain ⟨v, hv, hm⟩ := atI_in (l := (["done", "end", "fails", "more", "none", "old", "zero"] : List Str).map V.str) (i := at_) a0 a1
      obtain ⟨y, hy, rfl⟩ := List.mem_map.mp hm
      refine ⟨_, rfl, _, rfl, p1, _, _, _, rfl, rfl, SqL.of t3, hv, _, rfl, _, rfl, _, _, rfl, rfl, ?_⟩
      refine ⟨_, rfl, b, n + 2, 6, rfl, B3, by omega, by decide, by decide, fun r5 H4 c0 c1 B4 K4 => ⟨_, _, rfl, rfl, _, _, rfl, rfl, (by show (0 : Int) < 7; decide), ?_⟩⟩
      obtain ⟨v2, hv2, hm2⟩ := atI_in (l := (["done", "end", "fails", "more", "none", "old", "zero"] : List Str).map V.str) (i := (at_ + 1 + r5) % 7) (Int.emod_nonneg _ (by decide)) (Int.emod_lt_of_pos _ (by decide))
      obtain ⟨y2, hy2, rfl⟩ := List.mem_map.mp hm2
      refine ⟨p1, _, _, _, rfl, rfl, SqL.of (K4 _ _ (off hB n1) t3), hv2, ?_⟩
      exact fin y y2 H4 (seven y hy) (seven y2 hy2) (B4.more (by omega)) ((Kp.same s1).trans (K2.trans (K3.trans K4)))
    · have K02 : Kp b H H2 := (Kp.same s1).trans K2
      refine ⟨⟨_, rfl⟩, _, rfl, b, n + 1, 5, rfl, B2, by omega, by decide, by decide, fun r H3 r0 r1 B3 K3 => ?_⟩
      refine ⟨_, _, rfl, rfl, _, rfl, by omega, by omega, fun D hD => ?_⟩
      have nb : D ≠ b := off B3 hD
      refine lc_range (lo := 0) (n := (1 + r).toNat) (fun i H' => Bx H' b (n + 2 + i) ∧ Kp b H3 H' ∧ ∃ cs : List Nat, cs.length = i ∧ (∀ c ∈ cs, c ∈ abc.cps.toList) ∧ H' D = some (.lst ((cs.map fun c => (⟨#[c]⟩ : Str)).map V.str)))
        ⟨B3.upd hD, Kp.fresh hD, [], rfl, fun _ h => (nomatch h), upd_same⟩ ?_ ?_
      · rintro i H4 hi ⟨B4, K4, cs, ely, hcs, hl⟩
        refine ⟨rfl, ?_⟩
        unfold tYes
        refine iteT ⟨_, rfl, _, rfl, b, n + 2 + i, 26, rfl, B4, by omega, by decide, by decide, fun c H5 c0 c1 B5 K5 => ?_⟩
        obtain ⟨g, hg, hm⟩ := atI_in (l := abc.cps.toList) c0 c1
        have hl3 := K5 D _ nb hl
        refine ⟨abc, c, g, rfl, rfl, (by decide +kernel), hg, _, hl3, by rw [List.length_map, List.length_map, ely]; exact Nat.lt_of_lt_of_le (by omega) (show 9 ≤ sizeLine by decide), ?_⟩
        refine ⟨?_, ?_, cs ++ [g], by rw [List.length_append, ely]; rfl, ?_, by rw [List.map_append, List.map_append]; exact upd_same⟩
        · obtain ⟨x, y, z, e, h⟩ := B5
          exact ⟨x, y, z, by rw [upd_ne nb.symm]; exact e, h⟩
        · intro p o np e
          have pD : p ≠ D := ne_of_none e hD
          rw [upd_ne pD]
          exact K5 p o np (K4 p o np e)
        · intro y hy
          rcases List.mem_append.mp hy with h | h
          · exact hcs y h
          · rw [List.mem_singleton.mp h]
            exact hm
      · rintro H4 ⟨B4, K4, cs, ely, hcs, hl⟩
        have ones : ∀ y ∈ cs.map fun c => (⟨#[c]⟩ : Str), Sm 1 y := fun y hy => by
          obtain ⟨c, hc, rfl⟩ := List.mem_map.mp hy
          exact sm_sign (z := abc) (by decide +kernel) (hcs c hc)
        have ej : (Txt.join "" (cs.map fun c => (⟨#[c]⟩ : Str))).cps.toList = cs := by
          unfold Txt.join
          rw [StrLaws.glued_eq_join, join_list]
        refine ⟨"", D, _, rfl, rfl, .inl (SqL.of hl), ?_, ?_⟩
        · have e2 := sum_ones _ ones
          have e3 : (cs.map fun c => (⟨#[c]⟩ : Str)).length * ("" : Str).length = 0 := by
            rw [show ("" : Str).length = 0 by decide +kernel, Nat.mul_zero]
          rw [List.length_map] at e2
          omega
        generalize Txt.join "" (cs.map fun c => (⟨#[c]⟩ : Str)) = z at ej
        have lz : z.length = cs.length := by rw [← len_cps, ej]
        have az : Az 5 z := ⟨by omega, fun c hc => hcs c (by rw [ej] at hc; exact hc)⟩
        have z1 : 1 ≤ z.length := by omega
        have K04 : Kp b H H4 := K02.trans (K3.trans K4)
        have B4' : Bx H4 b (n + 7) := B4.more (by omega)
        have big : 1000 ≤ sizeLine := by decide
        have zs : z.length ≤ sizeLine := by have := az.1; omega
        refine ⟨_, rfl, _, rfl, _, rfl, b, n + 7, 26, rfl, B4', by omega, by decide, by decide, fun c H5 c0 c1 B5 K5 => ?_⟩
        obtain ⟨g, hg, hm⟩ := atI_in (l := abc.cps.toList) c0 c1
        have ag := Az.one hm
        have azg := az.app ag
        refine ⟨abc, c, g, rfl, rfl, (by decide +kernel), hg, _, _, rfl, rfl, by have := az.1; show z.length + 1 ≤ sizeLine; omega, ?_⟩
        refine ⟨_, rfl, b, n + 8, 3, rfl, B5, by omega, by decide, by decide, fun way H6 w0 w1 B6 K6 => ⟨_, _, rfl, ?_⟩⟩
        have K06 : Kp b H H6 := K04.trans (K5.trans K6)
        generalize hL : tRet _ = TL
        generalize hT : tSeq (tIfS _ _ _) TL = TR
        have last : ∀ (y l : Str) (G : Hp) (x6 x7 : Option V), Rt y → Rt l → Bx G b (n + 14) → Kp b H G → TL
            { nx := fun x H' => Q V.non H', rt := Q } [some (.ref b), some (.ref p1), none, some (.str abc), some (.str y), some (.str l), x6, x7] G := by
          intro y l G x6 x7 hy hl BG KG
          rw [← hL]
          refine ⟨_, rfl, b, n + 14, 2, rfl, BG, by omega, by decide, by decide, fun r5 H7 a0 a1 B7 K7 => ⟨rfl, _, rfl, ite2 (fun _ => ⟨_, rfl, _, rfl, fin y l H7 hy hl (B7.more (by omega)) (KG.trans K7)⟩) (fun _ => ⟨_, rfl, _, rfl, fin l y H7 hl hy (B7.more (by omega)) (KG.trans K7)⟩)⟩⟩
        clear hL
        have rest : ∀ (l : Str) (G : Hp), Az 6 l → 1 ≤ l.length → Bx G b (n + 13) → Kp b H G → TR { nx := fun x H' => Q V.non H', rt := Q } [some (.ref b), some (.ref p1), none, some (.str abc), some (.str z), some (.str l), some (.int way), none] G := by
          intro l G al l1 BG KG
          rw [← hT]
          have xs := al.1
          refine ⟨_, rfl, rfl, _, rfl, ite2 (fun _ => ?_) (fun _ => ?_)⟩
          · refine ⟨_, rfl, _, rfl, z, rfl, zs, _, _, rfl, rfl, ?_, _, rfl, _, _, rfl, rfl, ?_, _, _, rfl, ?_⟩
            · have := (az.cut none (some 1)).1
              show 1 + (cutS z none (some 1)).length ≤ sizeLine
              omega
            · show 1 + z.length ≤ sizeLine
              omega
            have aA : Az 1 "a" := by
              unfold Az
              decide +kernel
            have aB : Az 1 "b" := by
              unfold Az
              decide +kernel
            exact last _ _ G _ _ (Rt.of (aB.app (az.cut none (some 1))) (by rw [strLen_append]; show 1 ≤ 1 + _; omega)) (Rt.of (aA.app az) (by rw [strLen_append]; show 1 ≤ 1 + _; omega)) (BG.more (by omega)) KG
          · exact last z l G _ _ (Rt.of ⟨by have := az.1; omega, az.2⟩ z1) (Rt.of al l1) (BG.more (by omega)) KG
        clear hT
        refine ⟨_, rfl, rfl, _, rfl, ite2 (fun _ => ?_) (fun _ => ?_)⟩
        · obtain ⟨s0, hs0, hm0⟩ := atI_in (l := z.cps.toList) (i := 0) (by decide) (by rw [len_cps]; omega)
          have ix0 := index_abc s0 (az.2 s0 hm0)
          refine ⟨_, rfl, _, rfl, rfl, _, rfl, z, 0, s0, rfl, rfl, zs, hs0, abc, _, rfl, rfl, fun k hk => ?_, fun hk => ?_⟩
          · refine ⟨_, _, rfl, rfl, _, rfl, b, n + 9, 25, rfl, B6, by omega, by decide, by decide, fun r6 H7 a0 a1 B7 K7 => ⟨_, _, rfl, rfl, _, _, rfl, rfl, (by show (0 : Int) < 26; decide), ?_⟩⟩
            obtain ⟨g2, hg2, hm2⟩ := atI_in (l := abc.cps.toList) (i := ((k : Int) + 1 + r6) % 26) (Int.emod_nonneg _ (by decide)) (Int.emod_lt_of_pos _ (by decide))
            refine ⟨abc, _, g2, rfl, rfl, (by decide +kernel), hg2, _, rfl, _, rfl, z, rfl, zs, _, _, rfl, rfl, ?_, ?_⟩
            · have := (az.cut (some 1) none).1
              show 1 + (cutS z (some 1) none).length ≤ sizeLine
              omega
            · exact rest _ H7 ((Az.one hm2).app (az.cut (some 1) none)) (by rw [strLen_append]; show 1 ≤ 1 + _; omega) (B7.more (by omega)) (K06.trans K7)
          · rw [hk] at ix0
            cases ix0
        · exact rest _ H6 azg (by rw [strLen_append]; omega) (B6.more (by omega)) K06
end
end Mz
set_option Elab.async false
set_option linter.all false
set_option maxRecDepth 100000
set_option maxHeartbeats 4000000
namespace Mz
open PySem PySem.Spec PyProof.Rows L2
/-! in, ==, page of a setting -/
/-- whether a value is a name of the setting -/
def inSet (kvs : List (Key × V)) : V → Bool
  | .str z => (valV kvs (.inr z)).isSome
  | _ => false
def spContS (K : PySem.W.Frag) (S : Addr) : Sp := fun vs H Q _ => ∃ s v kvs pg, vs = [.ref s, v] ∧ Stg S H s kvs pg ∧ Kd K H v ∧ Q (.bl (inSet kvs v)) H
def spPageS (S : Addr) : Sp := fun vs H Q _ => ∃ s kvs pg, vs = [.ref s] ∧ Stg S H s kvs pg ∧ Q (.int pg) H
def spEqS (K : PySem.W.Frag) (S : Addr) : Sp := fun vs H Q _ => ∃ s kvs pg, Stg S H s kvs pg ∧ AllI kvs ∧
  ((∃ r ls qg, vs = [.ref s, .ref r] ∧ Stg S H r ls qg ∧ AllI ls ∧ Q (.bl (eqDV kvs ls && decide (pg = qg))) H) ∨ ∃ y, vs = [.ref s, y] ∧ Oty K S H y ∧ Q (.bl false) H)
section
variable {P : Program} {w : World} {K : PySem.W.Frag} {mg : Str → Option Value} {base : Heap}
theorem scPageS : FnScope ["self"] ["self"] (defScope (inClass sSetting 2)) := ⟨rfl, rfl, rfl, by decide +kernel, rfl, by decide +kernel, by decide +kernel⟩
theorem ok_pageS {f S : Addr} {fd : FuncData} (F : Fun K "page" "Setting.page" (inClass sSetting 2) f fd) (T : Scl K mg S) : FnOk P w K mg base CX0 1 f fd ["self"] (spPageS S) := by
  refine F.ok scPageS (fun vs H Q E h => ?_) (fun cdv A outer s H vs Q E hr h => ?_)
  · obtain ⟨s, kvs, pg, rfl, _⟩ := h
    rfl
  · obtain ⟨st, kvs, pg, rfl, ⟨dx, d, h1, h2⟩, q⟩ := h
    exact ⟨_, pss_one (ps_ret (pe_fld (pv 0) rfl)), _, rfl, st, S, dx, _, _, rfl, h1, T.cl, T.nP, stF_page, q⟩
theorem scContS : FnScope ["self", "x"] ["self", "x"] (defScope (inClass sSetting 5)) := ⟨rfl, rfl, rfl, by decide +kernel, rfl, by decide +kernel, by decide +kernel⟩
theorem ok_contS {f S : Addr} {fd : FuncData} (F : Fun K "__contains__" "Setting.__contains__" (inClass sSetting 5) f fd) (T : Scl K mg S) (D : Blp mg) : FnOk P w K mg base CX0 1 f fd ["self", "x"] (spContS K S) := by
  refine F.ok scContS (fun vs H Q E h => ?_) (fun cdv A outer s H vs Q E hr h => ?_)
  · obtain ⟨s, v, kvs, pg, rfl, _⟩ := h
    rfl
  · obtain ⟨st, v, kvs, pg, rfl, ⟨dx, d, h1, h2⟩, hv, q⟩ := h
    refine ⟨_, pss_one (ps_ret (pe_and (pe_callB call_isi (by rfl) D.isi (by decide +kernel) (pa_cons (pv 1) (pa_cons (pe_bltn (v := .ty "str") (by rfl) D.str (by decide +kernel) rfl) pa_nil)))
      (pe_one (pe_cmp (pc_din (hu_of hr) (pv 1) (pe_fld (pv 0) rfl)))))), ?_⟩
    refine ⟨_, rfl, ?_⟩
    cases hv with
    | int i => exact ⟨_, _, _, _, false, rfl, .ty _, .base (.int i), kit_ty (by decide +kernel), false, rfl, iteF q⟩
    | bl b => exact ⟨_, _, _, _, false, rfl, .ty _, .base (.bl b), kit_ty (by decide +kernel), false, rfl, iteF q⟩
    | non => exact ⟨_, _, _, _, false, rfl, .ty _, .base .non, kit_ty (by decide +kernel), false, rfl, iteF q⟩
    | oth a t ty ki ks => exact ⟨_, _, _, _, false, rfl, .ty _, ty, ks, false, rfl, iteF q⟩
    | str z l ok => exact ⟨_, _, _, _, true, rfl, .ty _, .base (.str z), kit_ty (by decide +kernel), true, rfl, iteT ⟨_, rfl, _, rfl, st, S, dx, _, _, rfl, h1, T.cl, T.nZ, stF_sizes, d, _, rfl, DGet.k (k := .inr z) h2, q⟩⟩
theorem scEqS : FnScope ["self", "other"] ["self", "other"] (defScope (inClass sSetting 7)) := ⟨rfl, rfl, rfl, by decide +kernel, rfl, by decide +kernel, by decide +kernel⟩
theorem ok_eqS {f S : Addr} {fd : FuncData} (F : Fun K "__eq__" "Setting.__eq__" (inClass sSetting 7) f fd) (T : Scl K mg S) (Y : Pty K S) (D : Blp mg) : FnOk P w K mg base CX0 1 f fd ["self", "other"] (spEqS K S) := by
  refine F.ok scEqS (fun vs H Q E h => ?_) (fun cdv A outer s H vs Q E hr h => ?_)
  · obtain ⟨s, kvs, pg, _, _, ⟨r, ls, qg, rfl, _⟩ | ⟨y, rfl, _⟩⟩ := h
    · rfl
    · rfl
  · obtain ⟨st, kvs, pg, hst, ia, h⟩ := h
    refine ⟨_, pss_one (ps_ret (pe_and (pe_callB call_isi (by rfl) D.isi (by decide +kernel) (pa_cons (pv 1) (pa_cons (pe_glob (v := .ref S) rfl T.mgS rfl) pa_nil)))
      (pe_and (pe_cmpR (op_eqDI (Nat.lt_of_le_of_lt (Nat.le_add_right _ 63) hr.units)) (pe_fld (pv 0) rfl) (pe_fld (pv 1) rfl) (nomark _)) (pe_one (pe_cmpR op_eq (pe_fld (pv 0) rfl) (pe_fld (pv 1) rfl) (nomark _)))))), ?_⟩
    obtain ⟨dx, d, h1, h2⟩ := hst
    rcases h with ⟨r, ls, qg, rfl, ⟨dy, e, h3, h4⟩, ib, q⟩ | ⟨y, rfl, ⟨t, ty, kt⟩, q⟩
    · refine ⟨_, rfl, .ref r, .ref S, .ref S, .ref S, true, rfl, .own S, .base (.ins h3 Y.cl Y.ha Y.hn Y.htk Y.hm), kit_self, true, rfl, iteT ?_⟩
      refine ⟨_, rfl, st, S, dx, _, _, rfl, h1, T.cl, T.nZ, stF_sizes, _, rfl, r, S, dy, _, _, rfl, h3, T.cl, T.nZ, stF_sizes, d, e, kvs, ls, rfl, rfl, h2, h4, ia, ib, _, rfl, ite2 (fun hc => ?_) (fun hc => ?_)⟩
      · refine ⟨_, rfl, st, S, dx, _, _, rfl, h1, T.cl, T.nP, stF_page, _, rfl, r, S, dy, _, _, rfl, h3, T.cl, T.nP, stF_page, rfl, ?_⟩
        have e2 : decide (V.int pg = V.int qg) = decide (pg = qg) := decide_eq_decide.mpr ⟨fun x => V.int.inj x, fun x => by rw [x]⟩
        rw [hc, Bool.true_and] at q
        rw [e2]
        exact q
      · rw [Bool.eq_false_iff.mpr hc, Bool.false_and] at q
        exact q
    · exact ⟨_, rfl, y, .ref S, t, .ref S, false, rfl, .own S, ty, kt, false, rfl, iteF q⟩
end
end Mz
set_option Elab.async false
set_option linter.all false
set_option maxRecDepth 100000
set_option maxHeartbeats 4000000
namespace Mz
open PySem PySem.Spec PyProof.Rows L2
theorem ne_not6 (u : V) : (!decide (u = u)) = false := by rw [decide_eq_true rfl]; rfl
def spInRight (K : PySem.W.Frag) (S : Addr) : Sp := fun vs H Q _ => ∃ (st d rl : Addr) (ks kvs : List (Key × V)) (pg : Int) (y z : Str), vs = [.ref st, .ref d, .ref rl] ∧ Stg S H st ks pg ∧ (∀ z : Str, valV ks (.inr z) = valV kvs (.inr z)) ∧ H d = some (.dK kvs) ∧ H rl = some (.lst [.str y, .str z]) ∧ Rt y ∧ Rt z ∧
  ∀ H', Same H H' → Q (.bl true) H'
section
variable {P : Program} {w : World} {K : PySem.W.Frag} {mg : Str → Option Value} {base : Heap}
theorem scInRight : FnScope ["_law_setting", "_law_worths", "_law_roots_here", "_law_some", "_law_thing", "_law_due"] ["_law_setting", "_law_worths", "_law_roots_here"] (defScope sInRight) := ⟨rfl, rfl, rfl, by decide +kernel, rfl, by decide +kernel, by decide +kernel⟩
theorem ok_inRight {f fI fC C S : Addr} {fd fdI fdC : FuncData} {ds : List Value} {g1 : List Value → List Value → List Value} (F : Fun K "_law_in_right" "_law_in_right" sInRight f fd) (B : Blt mg) (D : Blp mg) (mR : mg "repr" = none) (Z : Cpl K mg C) (Y : Pty K C) (YS : Pty K S) (M : Mk K C fI)
    (kiP : PySem.W.kitOne K (.ref C) (.type "int") = some false) (ksP : PySem.W.kitOne K (.ref C) (.type "str") = some false) (kiS : PySem.W.kitOne K (.ref S) (.type "int") = some false) (ksS : PySem.W.kitOne K (.ref S) (.type "str") = some false)
    (GI : FnOk P w K mg base CX0 3 fI fdI ["self", "base", "shift"] (spInit C)) (hds : Vals [.int 0] ds) (bI : Binds K fdI ["self", "base", "shift"] ds) (kI1 : KBn K fdI ["self", "base", "shift"] 1 ["shift"] g1 (fun vs zs => vs ++ [.str ""] ++ zs))
    (GC : FnOk P w K mg base CX0 1 fC fdC ["self", "x"] (spContS K S)) (bC : Binds K fdC ["self", "x"] []) (iC : PySem.W.findIn K (.ref S) "__contains__" = some (some (.ref fC))) (jC : PySem.W.isFn K (.ref fC) = true) :
    FnG P w K mg base CX0 5 f fd ["_law_setting", "_law_worths", "_law_roots_here"] (spInRight K S) := by
  refine fun_okG F scInRight (fun vs H Q E h => ?_) (fun cdv A outer s H vs Q E hg hr h => ?_)
  · obtain ⟨st, d, rl, ks, kvs, pg, y, z, rfl, _⟩ := h
    rfl
  · obtain ⟨st, d, rl, ks, kvs, pg, y, z, rfl, hst, hsame, hd, hrl, hy, hz, q⟩ := h
    have nd := scInRight.nd
    have hr1 : Room 1 _ := hr.mono (by decide)
    have hr4 : Room 4 _ := hr.mono (by decide)
    refine ⟨_, (pss_cons (ps_set (i := 3) nd rfl (Or.inl rfl) (pe_op op_cat (pv 2) (pe_lst (pa_cons pe_str (pa_cons (pe_op op_add_str (pe_ix ix_list (pv 2) pe_int (fun _ _ => rfl)) pe_str) (pa_cons pe_str (pa_cons pe_str (pa_cons pe_str (pa_cons pe_str (pa_cons pe_int (pa_cons pe_int (pa_cons pe_int (pa_cons pe_non (pa_cons pe_bl (pa_cons (pe_lst (pa_cons (pe_ix ix_list (pv 2) pe_int (fun _ _ => rfl)) pa_nil)) (pa_cons (pe_tup (pa_cons (pe_ix ix_list (pv 2) pe_int (fun _ _ => rfl)) pa_nil)) pa_nil))))))))))))))))
      (pss_cons (ps_set (i := 3) nd rfl (Or.inl rfl) (pe_op op_cat (pv 3) (pe_lst (pa_cons (pe_disp (pps_cons (pe_ix ix_list (pv 2) pe_int (fun _ _ => rfl)) pe_int pps_nil) (by rfl) (by rfl) (fun z => by cases z) (by decide)) (pa_cons (pe_make M GI hr4 (by rfl) Z.mgC bI hds pass0 (pa_cons (pe_ix ix_list (pv 2) pe_int (fun _ _ => rfl)) pa_nil)) (pa_cons (pe_makeK0 M GI hr4 (by rfl) Z.mgC kI1 pass0 (pk_cons pe_int pk_nil)) (pa_cons (pv 0) (pa_cons pe_dnewK pa_nil))))))))
      (pss_cons (ps_for PassesOwn.never rfl (pi_list (pv 3)) (pg_name (i := 4) nd rfl (Or.inl rfl)) (pss_cons (ps_set (i := 5) nd rfl (Or.inl rfl) (pe_and (pe_callB call_isi (by rfl) D.isi (by decide +kernel) (pa_cons (pv 4) (pa_cons (pe_bltn (v := .ty "str") (by rfl) D.str (by decide +kernel) rfl) pa_nil))) (pe_one (pe_cmp (pc_din (hu_of hr) (pv 4) (pv 1))))))
      (pss_one (ps_if (pt_cmpR op_ne (pe_callB (call_reprD hg hr.units) (by rfl) mR (by decide +kernel) (pa_cons (pe_cmpR (op_inO GC hr1 bC iC jC) (pv 4) (pv 0) (by rfl)) pa_nil)) (pe_callB (call_reprD hg hr.units) (by rfl) mR (by decide +kernel) (pa_cons (pv 5) pa_nil)) (nomark _)) (pss_one (ps_ret pe_bl)) pss_nil))))
      (pss_one (ps_ret pe_bl))))), ?_⟩
    have one : ∀ {H1 : Hp} {p : Addr} (o : HO), H1 p = none → ∃ H2, H2 = upd H1 p o ∧ Same H1 H2 ∧ H2 p = some o := fun o n => ⟨_, rfl, same_nw n, upd_same⟩
    have sm : ∀ {G G' : Hp} {x dx : Addr} {o o2 : HO}, G x = none → G dx = none → (∀ q u, q ≠ x → (upd (upd G dx o) x o2) q = some u → G' q = some u) → Same G G' := fun nx nd u r o h => u r o (ne_of_none h nx) (by
      rw [upd_ne (ne_of_none h nx), upd_ne (ne_of_none h nd)]
      exact h)
    have a0 : atI [V.str y, V.str z] (0 : Int) = some (.str y) := rfl
    have yl : y.length ≤ 10 := hy.2.1
    have big : 10000 ≤ sizeLine := by decide
    refine ⟨_, rfl, _, rfl, rl, _, _, _, rfl, rfl, SqL.of hrl, a0, _, _, rfl, rfl, (by show y.length + 2 ≤ sizeLine; omega), ?_⟩
    refine ⟨_, rfl, rl, _, _, _, rfl, rfl, SqL.of hrl, a0, (by show 1 ≤ sizeLine; decide), fun p1 n1 => ?_⟩
    obtain ⟨H1, e, s1, t1⟩ := one (.lst [V.str y]) n1
    rw [← e]
    clear e
    refine ⟨_, rfl, rl, _, _, _, rfl, rfl, SqL.of (s1 _ _ hrl), a0, (by show 1 ≤ sizeLine; decide), fun p2 n2 => ?_⟩
    obtain ⟨H2, e, s2, t2⟩ := one (.tup [V.str y]) n2
    rw [← e]
    clear e
    refine ⟨(by show 13 ≤ sizeLine; decide), fun p3 n3 => ?_⟩
    obtain ⟨H3, e, s3, t3⟩ := one (.lst [V.str "qqqqqq", V.str (y ++ "+1"), V.str "Zz", V.str "z z", V.str "", V.str "0", V.int 0, V.int 2, V.int 5, V.non, V.bl true, V.ref p1, V.ref p2]) n3
    rw [← e]
    clear e
    have s03 : Same H H3 := s1.trans (s2.trans s3)
    refine ⟨_, _, _, _, rfl, rfl, s03 _ _ hrl, t3, (by show 15 ≤ sizeLine; decide), fun p4 n4 => ?_⟩
    obtain ⟨H4, e, s4, t4⟩ := one (.lst ([V.str y, V.str z] ++ [V.str "qqqqqq", V.str (y ++ "+1"), V.str "Zz", V.str "z z", V.str "", V.str "0", V.int 0, V.int 2, V.int 5, V.non, V.bl true, V.ref p1, V.ref p2])) n4
    rw [← e]
    clear e
    have s04 := s03.trans s4
    refine ⟨_, rfl, fun p5 n5 => ?_⟩
    have hrl5 : upd H4 p5 (.dK []) rl = some (.lst [.str y, .str z]) := by
      rw [upd_ne (ne_of_none (s04 _ _ hrl) n5)]
      exact s04 _ _ hrl
    refine ⟨_, rfl, rl, _, _, _, rfl, rfl, SqL.of hrl5, a0, upd_same, [(.inr y, .int 1)], rfl, (by show 1 ≤ 15; decide), ?_⟩
    rw [upd_upd]
    obtain ⟨H5, e, s5, t5⟩ := one (.dK (mergeK [] [((.inr y : Key), V.int 1)])) n5
    rw [← e]
    clear e
    have s05 := s04.trans s5
    refine ⟨_, rfl, rl, _, _, _, rfl, rfl, SqL.of (s05 _ _ hrl), a0, fun x6 d6 nx6 nd6 _ => ?_⟩
    refine ⟨x6, d6, y, 0, rfl, upd_same, by omega, hy.2.2, .inr hy.1, by unfold lowS; split <;> decide, by decide, fun H6 u6 t6 => ⟨rfl, ?_⟩⟩
    have s6 := sm nx6 nd6 u6
    refine ⟨rfl, rfl, fun x7 d7 nx7 nd7 _ => ?_⟩
    refine ⟨x7, d7, "", 1, rfl, upd_same, by decide +kernel, by decide +kernel, .inl rfl, by decide +kernel, by decide, fun H7 u7 t7 => ⟨rfl, ?_⟩⟩
    have s7 := sm nx7 nd7 u7
    refine ⟨_, rfl, fun p8 n8 => ?_⟩
    obtain ⟨H8, e, s8, t8⟩ := one (.dK []) n8
    rw [← e]
    clear e
    refine ⟨(by show 5 ≤ sizeLine; decide), fun p9 n9 => ?_⟩
    obtain ⟨H9, e, s9, t9⟩ := one (.lst [V.ref p5, V.ref x6, V.ref x7, V.ref st, V.ref p8]) n9
    rw [← e]
    clear e
    refine ⟨_, _, _, _, rfl, rfl, s9 _ _ (s8 _ _ (s7 _ _ (s6 _ _ (s5 _ _ t4)))), t9, (by show 20 ≤ sizeLine; decide), fun p10 n10 => ?_⟩
    obtain ⟨G, e, s10, t10⟩ := one (.lst (([V.str y, V.str z] ++ [V.str "qqqqqq", V.str (y ++ "+1"), V.str "Zz", V.str "z z", V.str "", V.str "0", V.int 0, V.int 2, V.int 5, V.non, V.bl true, V.ref p1, V.ref p2]) ++ [V.ref p5, V.ref x6, V.ref x7, V.ref st, V.ref p8])) n10
    rw [← e]
    clear e
    have sG : Same H G := s05.trans (s6.trans (s7.trans (s8.trans (s9.trans s10))))
    have stG : Stg S G st ks pg := hst.same sG
    have inS : ∀ x, inSet ks x = inSet kvs x := fun x => by
      cases x with
      | str u => show (valV ks (.inr u)).isSome = (valV kvs (.inr u)).isSome; rw [hsame]
      | _ => rfl
    have dG := sG _ _ hd
    have kd : ∀ x, x ∈ ([V.str y, V.str z] ++ [V.str "qqqqqq", V.str (y ++ "+1"), V.str "Zz", V.str "z z", V.str "", V.str "0", V.int 0, V.int 2, V.int 5, V.non, V.bl true, V.ref p1, V.ref p2]) ++ [V.ref p5, V.ref x6, V.ref x7, V.ref st, V.ref p8] → Kd K G x := by
      intro x hx
      simp only [List.mem_append, List.mem_cons, List.not_mem_nil, or_false] at hx
      have txt : ∀ u : Str, Sm 1000 u → Kd K G (.str u) := fun u h => .str u h.1 h.2
      obtain ⟨dS, eS, k1, _⟩ := id stG
      rcases hx with ((rfl | rfl) | (rfl | rfl | rfl | rfl | rfl | rfl | rfl | rfl | rfl | rfl | rfl | rfl | rfl)) | (rfl | rfl | rfl | rfl | rfl)
      · exact txt _ (hy.2.mono (by decide))
      · exact txt _ (hz.2.mono (by decide))
      · exact txt _ (by unfold Sm; decide +kernel)
      · exact txt _ ((hy.2.app (show Sm 2 "+1" by unfold Sm; decide +kernel)).mono (by decide))
      · exact txt _ (by unfold Sm; decide +kernel)
      · exact txt _ (by unfold Sm; decide +kernel)
      · exact txt _ (by unfold Sm; decide +kernel)
      · exact txt _ (by unfold Sm; decide +kernel)
      · exact .int _
      · exact .int _
      · exact .int _
      · exact .non
      · exact .bl true
      · exact .oth p1 _ (.base (.lst (s10 _ _ (s9 _ _ (s8 _ _ (s7 _ _ (s6 _ _ (s5 _ _ (s4 _ _ (s3 _ _ (s2 _ _ t1))))))))))) (kit_ty (by decide +kernel)) (kit_ty (by decide +kernel))
      · exact .oth p2 _ (.base (.tup (s10 _ _ (s9 _ _ (s8 _ _ (s7 _ _ (s6 _ _ (s5 _ _ (s4 _ _ (s3 _ _ t2)))))))))) (kit_ty (by decide +kernel)) (kit_ty (by decide +kernel))
      · exact .oth p5 _ (.base (.dK (s10 _ _ (s9 _ _ (s8 _ _ (s7 _ _ (s6 _ _ t5))))))) (kit_ty (by decide +kernel)) (kit_ty (by decide +kernel))
      · exact .oth x6 _ (.base (.ins (s10 _ _ (s9 _ _ (s8 _ _ (s7 _ _ t6)))) Y.cl Y.ha Y.hn Y.htk Y.hm)) kiP ksP
      · exact .oth x7 _ (.base (.ins (s10 _ _ (s9 _ _ (s8 _ _ t7))) Y.cl Y.ha Y.hn Y.htk Y.hm)) kiP ksP
      · exact .oth st _ (.base (.ins k1 YS.cl YS.ha YS.hn YS.htk YS.hm)) kiS ksS
      · exact .oth p8 _ (.base (.dK (s10 _ _ (s9 _ _ t8)))) (kit_ty (by decide +kernel)) (kit_ty (by decide +kernel))
    refine ⟨_, rfl, p10, rfl, ⟨_, SqL.of t10⟩, for_list (K := K) (a := p10) (xs := ([V.str y, V.str z] ++ [V.str "qqqqqq", V.str (y ++ "+1"), V.str "Zz", V.str "z z", V.str "", V.str "0", V.int 0, V.int 2, V.int 5, V.non, V.bl true, V.ref p1, V.ref p2]) ++ [V.ref p5, V.ref x6, V.ref x7, V.ref st, V.ref p8])
      (fun _ σ H' => H' = G ∧ ∃ x4 x5 : Option V, σ = [some (.ref st), some (.ref d), some (.ref rl), some (.ref p10), x4, x5]) ⟨rfl, _, _, rfl⟩ (fun _ σ H' _ ⟨e, _⟩ => by rw [e]; exact SqL.of t10) ?_ ?_⟩
    · rintro jj x σ H' hx ⟨rfl, x4, x5, rfl⟩
      generalize hDF : ({ nx := _, rt := _, bk := _, ct := _ } : Ends) = DF
      have fnx : ∀ σ', (∃ x4 x5 : Option V, σ' = [some (.ref st), some (.ref d), some (.ref rl), some (.ref p10), x4, x5]) → DF.nx σ' H' := fun σ' h => by
        rw [← hDF]
        exact ⟨rfl, h⟩
      clear hDF
      have kx := kd x (List.mem_of_getElem? hx)
      generalize hT : tIfS _ _ tNext = T5
      have rest : ∀ bb : Bool, inSet kvs x = bb → T5 DF [some (.ref st), some (.ref d), some (.ref rl), some (.ref p10), some x, some (.bl bb)] H' := by
        intro bb eb
        rw [← hT]
        obtain ⟨dS, eS, k1, k2⟩ := id stG
        have bo : PyData.showable (.bool bb) = true ∧ PyData.hasDict (.bool bb) = false ∧ PyData.depth (.bool bb) < 60 ∧ (PyData.shown (.bool bb)).length ≤ sizeLine := by
          cases bb
          · exact ⟨rfl, rfl, by simp [PyData.depth], by simp only [PyData.shown]; decide +kernel⟩
          · exact ⟨rfl, rfl, by simp [PyData.depth], by simp only [PyData.shown]; decide +kernel⟩
        refine ⟨_, rfl, _, rfl, st, dS, _, rfl, k1, st, x, ks, pg, rfl, stG, kx, _, rfl, ?_⟩
        rw [inS, eb]
        refine ⟨_, .bool bb, rfl, .bl bb, bo.1, bo.2.1, bo.2.2.1, bo.2.2.2, _, rfl, _, .bool bb, rfl, .bl bb, bo.1, bo.2.1, bo.2.2.1, bo.2.2.2, rfl, _, rfl, ?_⟩
        rw [ne_not6]
        exact iteF (fnx _ ⟨_, _, rfl⟩)
      clear hT
      refine ⟨_, rfl, ?_⟩
      cases kx with
      | int i => exact ⟨_, _, _, _, false, rfl, .ty _, .base (.int i), kit_ty (by decide +kernel), false, rfl, iteF (rest false rfl)⟩
      | bl b => exact ⟨_, _, _, _, false, rfl, .ty _, .base (.bl b), kit_ty (by decide +kernel), false, rfl, iteF (rest false rfl)⟩
      | non => exact ⟨_, _, _, _, false, rfl, .ty _, .base .non, kit_ty (by decide +kernel), false, rfl, iteF (rest false rfl)⟩
      | oth a t ty ki ks => exact ⟨_, _, _, _, false, rfl, .ty _, ty, ks, false, rfl, iteF (rest false rfl)⟩
      | str u l ok => exact ⟨_, _, _, _, true, rfl, .ty _, .base (.str u), kit_ty (by decide +kernel), true, rfl, iteT ⟨_, rfl, _, rfl, d, _, rfl, DGet.k (k := .inr u) dG, rest _ rfl⟩⟩
    · rintro σ H' ⟨rfl, x4, x5, rfl⟩
      exact q _ sG
end
end Mz
set_option Elab.async false
set_option linter.all false
set_option maxRecDepth 100000
set_option maxHeartbeats 4000000
/-! a class called with keywords alone, whose __init__ may raise -/
namespace Mz
open PySem PySem.Spec PyProof.Rows L2
section
variable {X : Cx} {CX : CXT} {k : Nat} {f C : Addr} {fd : FuncData} {ps ks : List Str} {sp : Sp} {x : Str} {p pos : Pos} {kws : List Keyword} {tk : TA} {g : List Value → List Value → List Value} {gV : List V → List V → List V}
theorem pe_makeKS0 {ES : L2.St → XK} (M : Mk X.K C f) (F : FnOk X.prog X.w X.K X.mg X.base CX k f fd ps sp) (hr : Room (k + 1) X.A) (hg : Gl X x) (hm : X.mg x = some (.ref C)) (hb : KBn X.K fd ps 1 ks g gV) (hx : ∀ σ, PassesAt CX X σ (ES σ)) (hkw : PK X kws tk)
    (hall : (backToKw pos (keywordEach kws X.env)).all (·.1.isSome) = true := by rfl) (hks : (backToKw pos (keywordEach kws X.env)).filterMap (·.1) = ks := by rfl) (hdb : (x == ("__debug__" : Str)) = false := by decide)
    (hpl : ((backTo pos (starEach [] X.env)).any (·.1) || (backToKw pos (keywordEach kws X.env)).any (·.1.isNone)) = false := by rfl) :
    PE X (.Call (.Name x p) [] kws pos) (fun σ H Q => tMakeK C 0 ks.length sp gV (ES σ) tNil tk σ H Q) := by
  refine ⟨fun pins s σ H Q I h => ?_⟩
  refine wpAny_Call_Name_kw (ld_glob I hg hm ?_ hdb)
  refine PySem.W.callWith_KW0 (h₀ := X.base) I.ok.mod.kin M.kp hall ?_ hpl
  refine thn (hkw.run pos pins s σ H _ I h) fun ws s2 ⟨zs, H2, I2, rz, l1, l2, q2⟩ => ⟨I2.kIn, ?_⟩
  rw [hks]
  exact run_makeKS M F hr hb (hx σ) I2 .nil rz l1 l2 q2
end
end Mz
set_option Elab.async false
set_option linter.all false
set_option maxRecDepth 100000
set_option maxHeartbeats 4000000
namespace Mz
open PySem PySem.Spec PyProof.Rows L2
/-- good sizes -/
def SzD (ks : List (Key × V)) : Prop := ks.length ≤ 2 ∧ (ks.map (·.1)).Nodup ∧ ∀ kv ∈ ks, ∃ u i, kv = (.inr u, .int i) ∧ Rt u ∧ 0 ≤ i
theorem SzD.ints {ks : List (Key × V)} (h : SzD ks) : AllI ks := fun kv hk => by
  obtain ⟨u, i, e, _⟩ := h.2.2 kv hk
  exact ⟨i, by rw [e]⟩
theorem SzD.good {ks : List (Key × V)} (h : SzD ks) : sizesB ks = true := by
  show (decide (ks.length ≤ 2) && ks.all kvB) = true
  rw [decide_eq_true h.1, Bool.true_and, List.all_eq_true]
  intro kv hk
  obtain ⟨u, i, rfl, hu, hi⟩ := h.2.2 kv hk
  show (nameS u && decide (0 ≤ i)) = true
  rw [hu.1, decide_eq_true hi]
  rfl
theorem SzD.ok {K : PySem.W.Frag} {H : Hp} {ks : List (Key × V)} (h : SzD ks) (a : Addr) : ∀ kv ∈ ks, KvOk K H kv ∧ kv.2 ≠ .ref a := by
  intro kv hk
  obtain ⟨u, i, rfl, hu, hi⟩ := h.2.2 kv hk
  exact ⟨⟨fun z e => by cases e; exact hu.2.mono (by decide), .int i⟩, fun x => nomatch x⟩
theorem SzD.putNew {less : List (Key × V)} (h : SzD less) (l : less.length ≤ 1) {w : Str} (hw : Rt w) {n : Int} (hn : 0 ≤ n) : SzD (putK less (.inr w) (.int n)) := by
  match less, h, l with
  | [], _, _ => exact ⟨(by show 1 ≤ 2; decide), by simp [putK], fun kv hk => by rw [List.mem_singleton.mp hk]; exact ⟨w, n, rfl, hw, hn⟩⟩
  | [q], h, _ =>
    by_cases e : q.1 = (.inr w : Key)
    · have ep : putK [q] (.inr w) (.int n) = [(q.1, .int n)] := by simp [putK, e]
      rw [ep]
      exact ⟨(by show 1 ≤ 2; decide), by simp, fun kv hk => by rw [List.mem_singleton.mp hk, e]; exact ⟨w, n, rfl, hw, hn⟩⟩
    · have ep : putK [q] (.inr w) (.int n) = [q, (.inr w, .int n)] := by simp [putK, e]
      rw [ep]
      refine ⟨(by show 2 ≤ 2; decide), by simpa using e, fun kv hk => ?_⟩
      rcases List.mem_cons.mp hk with rfl | hk
      · exact h.2.2 _ List.mem_cons_self
      · rw [List.mem_singleton.mp hk]
        exact ⟨w, n, rfl, hw, hn⟩
theorem SzD.putOld {ks : List (Key × V)} (h : SzD ks) {u : Str} {n m : Int} (hu : Rt u) (e : valV ks (.inr u) = some (.int n)) (hm : 0 ≤ m) : SzD (putK ks (.inr u) (.int m)) := by
  have ep : putK ks (.inr u) (.int m) = ks.map (fun kv => if kv.1 = (.inr u : Key) then (kv.1, .int m) else kv) := by
    unfold putK
    rw [if_pos (by rw [valV_any, e]; rfl)]
  rw [ep]
  have ek : (ks.map (fun kv => if kv.1 = (.inr u : Key) then (kv.1, V.int m) else kv)).map (·.1) = ks.map (·.1) := by
    rw [List.map_map]
    refine List.map_congr_left fun kv _ => ?_
    show (if kv.1 = (.inr u : Key) then (kv.1, V.int m) else kv).1 = kv.1
    split <;> rfl
  refine ⟨by rw [List.length_map]; exact h.1, by rw [ek]; exact h.2.1, fun kv hk => ?_⟩
  obtain ⟨q, hq, rfl⟩ := List.mem_map.mp hk
  by_cases x : q.1 = (.inr u : Key)
  · rw [if_pos x, x]
    exact ⟨u, m, rfl, hu, hm⟩
  · rw [if_neg x]
    exact h.2.2 q hq
def lessK (ks : List (Key × V)) (u : Str) : List (Key × V) := ks.filter fun q => decide (q.1 ≠ (.inr u : Key))
theorem SzD.less {ks : List (Key × V)} (h : SzD ks) {u : Str} {v : V} (hm : ((.inr u : Key), v) ∈ ks) : SzD (lessK ks u) ∧ (lessK ks u).length ≤ 1 ∧ mergeK [] (lessK ks u) = lessK ks u := by
  have l1 : (lessK ks u).length < ks.length := List.length_filter_lt_length_iff_exists.mpr ⟨_, hm, by simp⟩
  have l2 := h.1
  have l3 : (lessK ks u).length ≤ 1 := by omega
  have sub : ∀ kv ∈ lessK ks u, kv ∈ ks := fun kv hk => (List.mem_filter.mp hk).1
  have nd : ((lessK ks u).map (·.1)).Nodup := h.2.1.sublist ((List.filter_sublist (l := ks)).map _)
  refine ⟨⟨by omega, nd, fun kv hk => h.2.2 kv (sub kv hk)⟩, l3, ?_⟩
  match lessK ks u, l3 with
  | [], _ => rfl
  | [q], _ => simp [mergeK, putK]
theorem valV_memN {ks : List (Key × V)} (nd : (ks.map (·.1)).Nodup) {k : Key} {v : V} (h : (k, v) ∈ ks) : valV ks k = some v := valV_self nd (k, v) h
/-- a row: sizes and a page -/
def Row (H : Hp) (p : Addr) : Prop := ∃ e ks m, H p = some (.tup [.ref e, .int m]) ∧ H e = some (.dK ks) ∧ SzD ks ∧ 1 ≤ m
theorem Row.same {H H' : Hp} {p : Addr} (s : Same H H') (h : Row H p) : Row H' p := by
  obtain ⟨e, ks, m, h1, h2, r⟩ := h
  exact ⟨e, ks, m, s _ _ h1, s _ _ h2, r⟩
def RowX (d : Addr) (H : Hp) (p : Addr) : Prop := ∃ e ks m, e ≠ d ∧ H p = some (.tup [.ref e, .int m]) ∧ H e = some (.dK ks) ∧ SzD ks ∧ 1 ≤ m
theorem RowX.row {d : Addr} {H : Hp} {p : Addr} (h : RowX d H p) : Row H p := by
  obtain ⟨e, ks, m, _, r⟩ := h
  exact ⟨e, ks, m, r⟩
theorem RowX.same {d : Addr} {H H' : Hp} {p : Addr} (s : Same H H') (h : RowX d H p) : RowX d H' p := by
  obtain ⟨e, ks, m, ne, h1, h2, r⟩ := h
  exact ⟨e, ks, m, ne, s _ _ h1, s _ _ h2, r⟩
theorem paired_imp {α β : Type} {F G : α → β → Prop} : ∀ {xs : List α} {ys : List β}, Paired F xs ys → (∀ x y, F x y → G x y) → Paired G xs ys
  | _, _, .nil, _ => .nil
  | _, _, .cons h t, f => .cons (f _ _ h) (paired_imp t f)
theorem paired_snoc {α β : Type} {F : α → β → Prop} {x : α} {y : β} (h : F x y) : ∀ {xs : List α} {ys : List β}, Paired F xs ys → Paired F (xs ++ [x]) (ys ++ [y])
  | _, _, .nil => .cons h .nil
  | _, _, .cons k t => .cons k (paired_snoc h t)
theorem paired_rev {α β : Type} {F : α → β → Prop} : ∀ {xs : List α} {ys : List β}, Paired F xs ys → Paired F xs.reverse ys.reverse
  | _, _, .nil => .nil
  | _, _, .cons h t => by
    rw [List.reverse_cons, List.reverse_cons]
    exact paired_snoc h (paired_rev t)
def spEqRight (K : PySem.W.Frag) : Sp := fun vs H Q _ => ∃ (b d rl : Addr) (kvs : List (Key × V)) (pg : Int) (y z : Str), vs = [.ref b, .ref d, .ref rl, .int pg] ∧ H d = some (.dK kvs) ∧ H rl = some (.lst [.str y, .str z]) ∧ Rt y ∧ Rt z ∧ 1 ≤ pg ∧
  (kvs = [] ∨ (∃ i, kvs = [(.inr y, .int i)] ∧ 0 ≤ i) ∨ ∃ i j, y ≠ z ∧ kvs = [(.inr y, .int i), (.inr z, .int j)] ∧ 0 ≤ i ∧ 0 ≤ j) ∧ ∀ H', Same H H' → Q (.bl true) H'
section
variable {P : Program} {w : World} {K : PySem.W.Frag} {mg : Str → Option Value} {base : Heap}
theorem scEqRight : FnScope ["_law_box_here", "_law_worths", "_law_roots_here", "_law_much", "_law_rows", "_law_root", "_law_less", "_law_extra", "_law_more", "_law_one", "_law_far", "_law_low", "_law_high", "_law_name", "_law_size_here"] ["_law_box_here", "_law_worths", "_law_roots_here", "_law_much"] (defScope sEqRight) := ⟨rfl, rfl, rfl, by decide +kernel, rfl, by decide +kernel, by decide +kernel⟩
theorem ok_eqRight {f fI fE S cS cI : Addr} {fd fdI fdE : FuncData} {g0 g2 : List Value → List Value → List Value} (F : Fun K "_law_equal_right" "_law_equal_right" sEqRight f fd) (B : Blt mg) (mDct : mg "dict" = none) (mLst : mg "list" = none) (YS : Pty K S) (TT : Scl K mg S) (MS : Mk K S fI)
    (GIS : FnOk P w K mg base (L2.CX P w) 4 fI fdI ["self", "sizes", "page"] (spInitS K S cS cI)) (kS2 : KBn K fdI ["self", "sizes", "page"] 2 ["page"] g2 (fun vs zs => vs ++ zs)) (kS0 : KBn K fdI ["self", "sizes", "page"] 1 ["page", "sizes"] g0 (fun vs zs => vs ++ zs.reverse))
    (GE : FnOk P w K mg base CX0 1 fE fdE ["self", "other"] (spEqS K S)) (bE : Binds K fdE ["self", "other"] []) (iE : PySem.W.findIn K (.ref S) "__eq__" = some (some (.ref fE))) (jE : PySem.W.isFn K (.ref fE) = true) (hne : PySem.W.findIn K (.ref S) "__ne__" = some (some (.builtin "object.__ne__"))) :
    FnOk P w K mg base CX0 6 f fd ["_law_box_here", "_law_worths", "_law_roots_here", "_law_much"] (spEqRight K) := by
  refine F.ok scEqRight (fun vs H Q E h => ?_) (fun cdv A outer s H vs Q E hr h => ?_)
  · obtain ⟨b, d, rl, kvs, pg, y, z, rfl, _⟩ := h
    rfl
  · obtain ⟨b, d, rl, kvs, pg, y, z, rfl, hd, hrl, hy, hz, hpg, hk, q⟩ := h
    have nd := scEqRight.nd
    have hr1 : Room 1 _ := hr.mono (by decide)
    have hr2 : Room 2 _ := hr.mono (by decide)
    have hr5 : Room 5 _ := hr.mono (by decide)
    have hu := hu_of hr
    refine ⟨_, (pss_cons (ps_set (i := 4) nd rfl (Or.inl rfl) (pe_lst (pa_cons (pe_tup (pa_cons (pe_callTy call_dictD (by rfl) mDct (by decide +kernel) (pa_cons (pv 1) pa_nil)) (pa_cons (pv 3) pa_nil))) (pa_cons (pe_tup (pa_cons (pe_callTy (call_dictP rfl) (by rfl) mDct (by decide +kernel) (pa_cons (pe_revL (LiI.pe_listItems rfl (pv 1) (by rfl) mLst (by decide +kernel))) pa_nil)) (pa_cons (pv 3) pa_nil))) (pa_cons (pe_tup (pa_cons (pe_callTy call_dictD (by rfl) mDct (by decide +kernel) (pa_cons (pv 1) pa_nil)) (pa_cons (pe_op op_add (pv 3) pe_int) pa_nil))) pa_nil)))))
      (pss_cons (ps_if (pt_cmpR op_eq (pe_callB call_lenD (by rfl) B.len PySem.boot_len (pa_cons (pv 1) pa_nil)) pe_int (nomark _)) (pss_one (ps_expr (pe_bm PySem.F.plainAttrs_list PySem.F.slot_list_append PySem.F.type_list_append mt_append (pv 4) (pa_cons (pe_tup (pa_cons (pe_disp (pps_cons (pe_ix ix_list (pv 2) pe_int (fun _ _ => rfl)) (pe_dget hu (pv 1) (pe_ix ix_list (pv 2) pe_int (fun _ _ => rfl)) (fun _ _ => rfl)) (pps_cons (pe_ix ix_list (pv 2) pe_int (fun _ _ => rfl)) (pe_dget hu (pv 1) (pe_ix ix_list (pv 2) pe_int (fun _ _ => rfl)) (fun _ _ => rfl)) pps_nil)) (by rfl) (by rfl) (fun z => by cases z) (by decide)) (pa_cons (pv 3) pa_nil))) pa_nil)))) pss_nil)
      (pss_cons (ps_lock (ps_for PassesOwn.never rfl (pi_keys (pv 1)) (pg_name (i := 5) nd rfl (Or.inr rfl))
      (pss_cons (ps_set (i := 6) nd rfl (Or.inl rfl) (pe_callTy (call_dictP rfl) (by rfl) mDct (by decide +kernel) (pa_cons (pe_lc (own := [("_law_name", 13), ("_law_size_here", 14)]) (g := gTup K 2 (gCons (gName 13) (gCons (gName 14) gNil))) rfl nd (pi_items (pv 1)) (blkOk_by (N := ["_law_box_here", "_law_worths", "_law_roots_here", "_law_much", "_law_rows", "_law_root", "_law_less", "_law_extra", "_law_more", "_law_one", "_law_far", "_law_low", "_law_high", "_law_name", "_law_size_here"]) (sc := defScope sEqRight) (by decide +kernel)) (fun _ _ _ _ _ => pg_tup (by rfl) (pgs_cons (pg_name (i := 13) nd rfl (Or.inl rfl)) (pgs_cons (pg_name (i := 14) nd rfl (Or.inl rfl)) pgs_nil))) (fun _ _ _ _ _ => pts_one (pt_cmpR op_ne (pv 13) (pv 5) (nomark _))) (fun _ _ _ _ _ => (pe_tup (pa_cons (pv 13) (pa_cons (pv 14) pa_nil))))) pa_nil)))
      (pss_cons (ps_set (i := 7) nd rfl (Or.inl rfl) (pe_callTy call_dictD (by rfl) mDct (by decide +kernel) (pa_cons (pv 6) pa_nil)))
      (pss_cons (ps_dput hu (pv 7) (pe_ifExp (pt_cmpR op_ne (pv 5) pe_str (nomark _)) pe_str pe_str) (pe_dget hu (pv 1) (pv 5) (fun _ _ => rfl)) rfl)
      (pss_cons (ps_set (i := 8) nd rfl (Or.inl rfl) (pe_callTy call_dictD (by rfl) mDct (by decide +kernel) (pa_cons (pv 1) pa_nil)))
      (pss_cons (ps_dput hu (pv 8) (pv 5) (pe_op op_add (pe_dget hu (pv 1) (pv 5) (fun _ _ => rfl)) pe_int) rfl)
      (pss_one (ps_set (i := 4) nd rfl (Or.inl rfl) (pe_op op_cat (pv 4) (pe_lst (pa_cons (pe_tup (pa_cons (pv 6) (pa_cons (pv 3) pa_nil))) (pa_cons (pe_tup (pa_cons (pv 7) (pa_cons (pv 3) pa_nil))) (pa_cons (pe_tup (pa_cons (pv 8) (pa_cons (pv 3) pa_nil))) pa_nil))))))))))))))
      (pss_cons (ps_for PassesOwn.never rfl (pi_list (pv 4)) (pg_name (i := 9) nd rfl (Or.inl rfl)) (pss_one (ps_for PassesOwn.never rfl (pi_list (pv 4)) (pg_name (i := 10) nd rfl (Or.inl rfl)) (pss_cons (ps_par (i := 11) (j := 12) rfl nd rfl rfl (by decide) rfl rfl (pa_cons (pe_makeKS0 MS GIS hr5 (by rfl) TT.mgS kS0 (fun σ => pass_no) (pk_cons (pe_ix ix_tup (pv 9) pe_int (fun _ _ => rfl)) (pk_cons (pe_ix ix_tup (pv 9) pe_int (fun _ _ => rfl)) pk_nil))) (pa_cons (pe_makeKS MS GIS hr5 (by rfl) TT.mgS kS2 (fun σ => pass_no) (pa_cons (pe_ix ix_tup (pv 10) pe_int (fun _ _ => rfl)) pa_nil) (pk_cons (pe_ix ix_tup (pv 10) pe_int (fun _ _ => rfl)) pk_nil)) pa_nil)) (by rfl))
      (pss_one (ps_if (pt_cmpR (op_neD hr.units) (pe_lst (pa_cons (pe_cmpR (op_eqO GE hr1 bE iE jE) (pv 11) (pv 12) (nomark _)) (pa_cons (pe_cmpR (op_neO GE hr2 bE iE jE hne YS.hm) (pv 11) (pv 12) (nomark _)) pa_nil))) (pe_lst (pa_cons (pe_cmpR (op_eqTD hr.units) (pv 9) (pv 10) (nomark _)) (pa_cons (pe_cmpR (op_neTD hr.units) (pv 9) (pv 10) (nomark _)) pa_nil))) (nomark _)) (pss_one (ps_ret pe_bl)) pss_nil))))))
      (pss_one (ps_ret pe_bl)))))), ?_⟩
    have one : ∀ {H1 : Hp} {p : Addr} (o : HO), H1 p = none → ∃ H2, H2 = upd H1 p o ∧ Same H1 H2 ∧ H2 p = some o := fun o n => ⟨_, rfl, same_nw n, upd_same⟩
    generalize hT4 : tSeq (tFor _ _ (tFor _ _ _)) (tRet _) = T4
    have rest4 : ∀ (ra : Addr) (rows : List Addr) (G : Hp) (x5 x6 x7 x8 x9 x10 x11 x12 x13 x14 : Option V), G ra = some (.lst (rows.map V.ref)) → (∀ p ∈ rows, Row G p) → Same H G → T4 { nx := fun x H' => Q V.non H', rt := Q } [some (.ref b), some (.ref d), some (.ref rl), some (.int pg), some (.ref ra), x5, x6, x7, x8, x9, x10, x11, x12, x13, x14] G := by
      intro ra rows G x5 x6 x7 x8 x9 x10 x11 x12 x13 x14 hra hrows sHG
      rw [← hT4]
      refine ⟨_, rfl, ra, rfl, ⟨_, SqL.of hra⟩, for_list (K := K) (a := ra) (xs := rows.map V.ref) (fun _ σ H' => Same G H' ∧ ∃ x9 x10 x11 x12 : Option V, σ = [some (.ref b), some (.ref d), some (.ref rl), some (.int pg), some (.ref ra), x5, x6, x7, x8, x9, x10, x11, x12, x13, x14]) ⟨Same.refl G, _, _, _, _, rfl⟩ (fun _ σ H' _ ⟨s, _⟩ => SqL.of (s _ _ hra)) ?_ ?_⟩
      · rintro i x σ G1 hx ⟨s1, x9, x10, x11, x12, rfl⟩
        generalize hDE : ({ nx := _, rt := _, bk := _, ct := _ } : Ends) = DE
        have enx : ∀ σ' H', (Same G H' ∧ ∃ x9 x10 x11 x12 : Option V, σ' = [some (.ref b), some (.ref d), some (.ref rl), some (.int pg), some (.ref ra), x5, x6, x7, x8, x9, x10, x11, x12, x13, x14]) → DE.nx σ' H' := fun σ' H' h => by
          rw [← hDE]
          exact h
        clear hDE
        obtain ⟨p1, hp1, rfl⟩ := List.mem_map.mp (List.mem_of_getElem? hx)
        refine ⟨_, rfl, ra, rfl, ⟨_, SqL.of (s1 _ _ hra)⟩, for_list (K := K) (a := ra) (xs := rows.map V.ref) (fun _ σ H' => Same G H' ∧ ∃ x10 x11 x12 : Option V, σ = [some (.ref b), some (.ref d), some (.ref rl), some (.int pg), some (.ref ra), x5, x6, x7, x8, some (.ref p1), x10, x11, x12, x13, x14]) ⟨s1, _, _, _, rfl⟩ (fun _ σ H' _ ⟨s, _⟩ => SqL.of (s _ _ hra)) ?_ ?_⟩
        · rintro j y σ G2 hy2 ⟨s2, x10, x11, x12, rfl⟩
          generalize hDF : ({ nx := _, rt := _, bk := _, ct := _ } : Ends) = DF
          have fnx : ∀ σ' H', (Same G H' ∧ ∃ x10 x11 x12 : Option V, σ' = [some (.ref b), some (.ref d), some (.ref rl), some (.int pg), some (.ref ra), x5, x6, x7, x8, some (.ref p1), x10, x11, x12, x13, x14]) → DF.nx σ' H' := fun σ' H' h => by
            rw [← hDF]
            exact h
          clear hDF
          obtain ⟨p2, hp2, rfl⟩ := List.mem_map.mp (List.mem_of_getElem? hy2)
          obtain ⟨e1, ks, m1, r1, r2, r3, r4⟩ := (hrows p1 hp1).same s2
          obtain ⟨e2, ls, m2, q1, q2, q3, q4⟩ := (hrows p2 hp2).same s2
          have made : ∀ {G G' : Hp} {x dx : Addr} {o o2 : HO}, G x = none → G dx = none → (∀ q u, q ≠ x → (upd (upd G dx o) x o2) q = some u → G' q = some u) → Same G G' := fun nx nd u r o h => u r o (ne_of_none h nx) (by
            rw [upd_ne (ne_of_none h nx), upd_ne (ne_of_none h nd)]
            exact h)
          have up2 : ∀ {G : Hp} {x dx : Addr} {o o2 : HO}, G x = none → G dx = none → Same G (upd (upd G dx o) x o2) := fun nx nd r o h => by
            rw [upd_ne (ne_of_none h nx), upd_ne (ne_of_none h nd)]
            exact h
          refine ⟨_, rfl, p1, _, _, _, rfl, rfl, SqT.of r1, rfl, _, rfl, p1, _, _, _, rfl, rfl, SqT.of r1, rfl, rfl, rfl, fun x1 dx1 nx1 nd1 _ => ?_⟩
          refine ⟨x1, dx1, .ref e1, .int m1, some (e1, ks), rfl, upd_same, .inr ⟨e1, ks, rfl, rfl, up2 nx1 nd1 _ _ r2, r3.ok e1⟩, .int m1, .inl ⟨r3.good, m1, rfl, r4, fun G3 u3 st1 => ⟨rfl, ?_⟩⟩⟩
          have S1 := (st1 e1 ks rfl).stg
          have s3 := made nx1 nd1 u3
          refine ⟨_, rfl, p2, _, _, _, rfl, rfl, SqT.of (s3 _ _ q1), rfl, _, rfl, p2, _, _, _, rfl, rfl, SqT.of (s3 _ _ q1), rfl, rfl, rfl, fun x2 dx2 nx2 nd2 _ => ?_⟩
          refine ⟨x2, dx2, .ref e2, .int m2, some (e2, ls), rfl, upd_same, .inr ⟨e2, ls, rfl, rfl, up2 nx2 nd2 _ _ (s3 _ _ q2), q3.ok e2⟩, .int m2, .inl ⟨q3.good, m2, rfl, q4, fun G4 u4 st2 => ⟨rfl, _, _, rfl, ?_⟩⟩⟩
          have S2 := (st2 e2 ls rfl).stg
          have s4 := made nx2 nd2 u4
          have S14 := S1.same s4
          obtain ⟨dy1, f1, k1, _⟩ := id S14
          obtain ⟨dy2, f2, k2, _⟩ := id S2
          have ty2 : Oth K S G4 (.ref x2) := ⟨_, .base (.ins k2 YS.cl YS.ha YS.hn YS.htk YS.hm), by unfold PySem.W.notFirst; simp⟩
          have s24 := s3.trans s4
          generalize hb : (eqDV ks ls && decide (m1 = m2)) = bb
          refine ⟨_, rfl, _, rfl, x1, dy1, _, rfl, k1, ty2, x1, ks, m1, S14, r3.ints, .inl ⟨x2, ls, m2, rfl, S2, q3.ints, _, rfl, ?_⟩⟩
          refine ⟨_, rfl, _, rfl, x1, dy1, _, rfl, k1, ty2, x1, ks, m1, S14, r3.ints, .inl ⟨x2, ls, m2, rfl, S2, q3.ints, _, rfl, ?_⟩⟩
          rw [hb]
          refine ⟨(by show 2 ≤ sizeLine; decide), fun l1 nl1 => ?_⟩
          obtain ⟨G5, e, s5, t5⟩ := one (.lst [V.bl bb, V.bl (!bb)]) nl1
          rw [← e]
          clear e
          have s25 := s24.trans s5
          refine ⟨_, rfl, _, rfl, p1, p2, e1, e2, ks, ls, m1, m2, rfl, rfl, s25 _ _ r1, s25 _ _ q1, s25 _ _ r2, s25 _ _ q2, r3.ints, q3.ints, r3.2.1, ?_⟩
          refine ⟨_, rfl, _, rfl, p1, p2, e1, e2, ks, ls, m1, m2, rfl, rfl, s25 _ _ r1, s25 _ _ q1, s25 _ _ r2, s25 _ _ q2, r3.ints, q3.ints, r3.2.1, ?_⟩
          rw [hb]
          refine ⟨(by show 2 ≤ sizeLine; decide), fun l2 nl2 => ?_⟩
          obtain ⟨G6, e, s6, t6⟩ := one (.lst [V.bl bb, V.bl (!bb)]) nl2
          rw [show upd G5 l2 (.lst [V.bl ((fun b => b) bb), V.bl ((fun b => !b) bb)]) = G6 from e.symm]
          clear e
          refine ⟨.list [.bool bb, .bool (!bb)], .list [.bool bb, .bool (!bb)], .lst (SqL.of (s6 _ _ t5)) (.cons (.bl _) (.cons (.bl _) .nil)), .lst (SqL.of t6) (.cons (.bl _) (.cons (.bl _) .nil)), ?_, ?_, _, rfl, ?_⟩
          · cases bb <;> decide +kernel
          · cases bb <;> decide +kernel
          rw [show (!PyData.eqv (.list [.bool bb, .bool (!bb)]) (.list [.bool bb, .bool (!bb)])) = false by cases bb <;> decide +kernel]
          exact iteF (fnx _ _ ⟨s2.trans (s25.trans s6), _, _, _, rfl⟩)
        · rintro σ H' ⟨s, x10, x11, x12, rfl⟩
          exact enx _ _ ⟨s, _, _, _, _, rfl⟩
      · rintro σ H' ⟨s, x9, x10, x11, x12, rfl⟩
        exact q _ (sHG.trans s)
    clear hT4
    have szk : SzD kvs := by
      rcases hk with rfl | ⟨i, rfl, hi⟩ | ⟨i, j, hne2, rfl, hi, hj⟩
      · exact ⟨by decide, by decide, fun kv h => nomatch h⟩
      · exact ⟨(by show 1 ≤ 2; decide), by simp, fun kv h => by rw [List.mem_singleton.mp h]; exact ⟨y, i, rfl, hy, hi⟩⟩
      · refine ⟨(by show 2 ≤ 2; decide), by simpa using fun x => hne2 x, fun kv h => ?_⟩
        rcases List.mem_cons.mp h with rfl | h
        · exact ⟨y, i, rfl, hy, hi⟩
        · rw [List.mem_singleton.mp h]
          exact ⟨z, j, rfl, hz, hj⟩
    have szr : SzD (mergeK [] kvs.reverse) := by
      rcases hk with rfl | ⟨i, rfl, hi⟩ | ⟨i, j, hne2, rfl, hi, hj⟩
      · exact ⟨by decide, by decide, fun kv h => nomatch h⟩
      · exact ⟨(by show 1 ≤ 2; decide), by simp [mergeK, putK], fun kv h => by rw [List.mem_singleton.mp h]; exact ⟨y, i, rfl, hy, hi⟩⟩
      · have e : mergeK [] ([((.inr y : Key), V.int i), (.inr z, .int j)]).reverse = [(.inr z, .int j), (.inr y, .int i)] := by
          simp [mergeK, putK, Ne.symm hne2]
        rw [e]
        refine ⟨(by show 2 ≤ 2; decide), by simpa using fun x => hne2 x.symm, fun kv h => ?_⟩
        rcases List.mem_cons.mp h with rfl | h
        · exact ⟨z, j, rfl, hz, hj⟩
        · rw [List.mem_singleton.mp h]
          exact ⟨y, i, rfl, hy, hi⟩
    have a0 : atI [V.str y, V.str z] (0 : Int) = some (.str y) := rfl
    have a1 : atI [V.str y, V.str z] (1 : Int) = some (.str z) := rfl
    have big : 10000 ≤ sizeLine := by decide
    generalize hT3 : tSeq (tLock _) T4 = T3
    have rest3 : ∀ (ra : Addr) (rows : List Addr) (G : Hp), G ra = some (.lst (rows.map V.ref)) → (∀ p ∈ rows, RowX d G p) → rows.length ≤ 5 → Same H G → T3 { nx := fun x H' => Q V.non H', rt := Q } [some (.ref b), some (.ref d), some (.ref rl), some (.int pg), some (.ref ra), none, none, none, none, none, none, none, none, none, none] G := by
      intro ra rows G hra hrows lr sHG
      rw [← hT3]
      have Gd := sHG _ _ hd
      have nd0 : ∀ {q : Addr} {o : HO}, G q = some o → o ≠ .dK kvs → q ≠ d := fun {q o} e n x => by
        rw [x, Gd] at e
        exact n (Option.some.inj e).symm
      have rad : ra ≠ d := nd0 hra fun x => nomatch x
      refine ⟨d, .dK kvs, Gd, trivial, fun od => ⟨_, rfl, d, od, rfl, .inl ⟨kvs, upd_same, for_it walk_keys (fun i σ H' => H' d = some (.frz od (.dK kvs)) ∧ (∀ q o, q ≠ d → G q = some o → H' q = some o) ∧ ∃ (ra2 : Addr) (rows2 : List Addr) (x5 x6 x7 x8 : Option V), σ = [some (.ref b), some (.ref d), some (.ref rl), some (.int pg), some (.ref ra2), x5, x6, x7, x8, none, none, none, none, none, none] ∧ H' ra2 = some (.lst (rows2.map V.ref)) ∧ (∀ p ∈ rows2, RowX d H' p) ∧ rows2.length ≤ 5 + 3 * i)
        ⟨upd_same, fun q o n e => (by rw [upd_ne n]; exact e), ra, rows, none, none, none, none, rfl, (by rw [upd_ne rad]; exact hra), fun p hp => ?_, by omega⟩ (fun i σ H' _ h => h.1) ?_ ?_⟩⟩⟩
      · obtain ⟨e, ks, m, ne, h1, h3, r⟩ := hrows p hp
        exact ⟨e, ks, m, ne, by rw [upd_ne (nd0 h1 fun x => nomatch x)]; exact h1, by rw [upd_ne ne]; exact h3, r⟩
      · rintro i x σ H1 H' hi ⟨hf, keep, ra2, rows2, x5, x6, x7, x8, rfl, hra2, hr2, lr2⟩ ⟨rfl, k, v, ek, rfl⟩
        generalize hDE : ({ nx := _, rt := _, bk := _, ct := _ } : Ends) = DE
        have enx : ∀ σ' H', (H' d = some (.frz od (.dK kvs)) ∧ (∀ q o, q ≠ d → G q = some o → H' q = some o) ∧ ∃ (ra2 : Addr) (rows2 : List Addr) (x5 x6 x7 x8 : Option V), σ' = [some (.ref b), some (.ref d), some (.ref rl), some (.int pg), some (.ref ra2), x5, x6, x7, x8, none, none, none, none, none, none] ∧ H' ra2 = some (.lst (rows2.map V.ref)) ∧ (∀ p ∈ rows2, RowX d H' p) ∧ rows2.length ≤ 5 + 3 * (i + 1)) → DE.nx σ' H' := fun σ' H' h => by
          rw [← hDE]
          exact h
        clear hDE
        have mem := List.mem_of_getElem? ek
        obtain ⟨u, m, euv, hu2, hm⟩ := szk.2.2 _ mem
        cases euv
        have vu := valV_memN szk.2.1 mem
        obtain ⟨lz, ll, lm⟩ := szk.less mem
        refine ⟨_, rfl, d, od, kvs, rfl, hf, fun D nD => ?_⟩
        have dD : d ≠ D := fun x => by
          rw [← x, hf] at nD
          cases nD
        refine lc_it (walk_items (kvs := kvs)) (fun i H2 => Kp D H' H2 ∧ ∃ ts : List Addr, H2 D = some (.lst (ts.map V.ref)) ∧ ts.length ≤ i ∧ Paired (fun (t : Addr) (q : Key × V) => H2 t = some (.tup [kV q.1, q.2])) ts (lessK (kvs.take i) u))
          ⟨Kp.fresh nD, [], upd_same, Nat.zero_le _, .nil⟩ (fun i H2 _ h => h.1 _ _ dD hf) ?_ ?_
        · rintro i2 x H3 H4 hi2 ⟨kp, ts, hD, lts, pr⟩ ⟨T, x1, y1, rfl, nT, rfl, e1, e2⟩
          obtain ⟨u2, m2, ekv, hu3, hm2⟩ := szk.2.2 _ (List.getElem_mem hi2)
          have hkv : kvs[i2]? = some (.inr u2, .int m2) := by rw [List.getElem?_eq_getElem hi2, ekv]
          have e1 : (kvs[i2]?).map (fun kv => kV kv.1) = some x1 := e1
          have e2 : (kvs[i2]?).map Prod.snd = some y1 := e2
          rw [hkv] at e1 e2
          cases e1
          cases e2
          have TD : T ≠ D := fun x => by
            rw [x, hD] at nT
            cases nT
          have sT : Same H3 (upd H3 T (.tup [.str u2, .int m2])) := same_nw nT
          have tT : upd H3 T (.tup [.str u2, .int m2]) T = some (.tup [.str u2, .int m2]) := upd_same
          have tX : upd H3 T (.tup [kV (.inr u2), .int m2]) = upd H3 T (.tup [.str u2, .int m2]) := rfl
          rw [tX]
          generalize upd H3 T (.tup [.str u2, .int m2]) = H5 at sT tT
          clear tX
          have tk : kvs.take (i2 + 1) = kvs.take i2 ++ [(.inr u2, .int m2)] := by
            rw [List.take_succ, hkv]
            rfl
          have less1 : lessK (kvs.take (i2 + 1)) u = lessK (kvs.take i2) u ++ if u2 = u then [] else [(.inr u2, .int m2)] := by
            rw [tk]
            unfold lessK
            rw [List.filter_append]
            by_cases x : u2 = u
            · rw [if_pos x, List.filter_cons_of_neg (by simp [x])]
              rfl
            · rw [if_neg x, List.filter_cons_of_pos (by simpa using fun e => x e)]
              rfl
          refine ⟨T, _, rfl, SqT.of tT, rfl, _, _, rfl, _, _, rfl, rfl, rfl, ?_⟩
          have l4 := szk.1
          refine ⟨_, rfl, _, rfl, rfl, _, rfl, ?_⟩
          have pr5 : Paired (fun (t : Addr) (q : Key × V) => H5 t = some (.tup [kV q.1, q.2])) ts (lessK (kvs.take i2) u) := paired_imp pr fun t q h => sT _ _ h
          by_cases x : u2 = u
          · rw [decide_eq_true (show V.str u2 = kV (.inr u) by rw [x]; rfl)]
            refine iteF ⟨fun q o n e => sT _ _ (kp q o n e), ts, sT _ _ hD, by omega, ?_⟩
            rw [less1, if_pos x, List.append_nil]
            exact pr5
          · rw [decide_eq_false (show ¬ V.str u2 = kV (.inr u) from fun z => x (V.str.inj z))]
            refine iteT ⟨_, rfl, _, rfl, (by show 2 ≤ sizeLine; decide), fun T2 nT2 => ?_⟩
            have s6 : Same H5 (upd H5 T2 (.tup [.str u2, .int m2])) := same_nw nT2
            have t6 : upd H5 T2 (.tup [.str u2, .int m2]) T2 = some (.tup [.str u2, .int m2]) := upd_same
            generalize upd H5 T2 (.tup [.str u2, .int m2]) = H6 at s6 t6
            have hD6 := s6 _ _ (sT _ _ hD)
            have T2D : T2 ≠ D := fun z => by
              rw [z, hD6] at t6
              cases t6
            refine ⟨_, hD6, by rw [List.length_map]; omega, ?_, ts ++ [T2], ?_, by rw [List.length_append]; show ts.length + 1 ≤ i2 + 1; omega, ?_⟩
            · intro q o n e
              rw [upd_ne n]
              exact s6 _ _ (sT _ _ (kp q o n e))
            · rw [upd_same, List.map_append]
              rfl
            · rw [less1, if_neg x]
              refine paired_snoc ?_ (paired_imp pr5 fun t q h => ?_)
              · rw [upd_ne T2D]
                exact t6
              · rw [upd_ne (fun z => by rw [z, sT _ _ hD] at h; cases h)]
                exact s6 _ _ h
        · rintro H3 ⟨kp, ts, hD, lts, pr⟩
          rw [List.take_length] at pr
          refine ⟨D, ts, _, rfl, SqL.of hD, paired_imp pr fun t q h => SqT.of h, fun c6 nc6 => ?_⟩
          rw [lm]
          have hfF : ∀ {q : Addr} {o : HO}, H' q = some o → q ≠ D := fun {q o} e x => by
            rw [x, nD] at e
            cases e
          have k3 : Same H' H3 := fun q o e => kp q o (hfF e) e
          obtain ⟨H4, e, s4, t4⟩ := one (.dK (lessK kvs u)) nc6
          rw [← e]
          clear e
          refine ⟨_, rfl, c6, _, rfl, .inl t4, fun c7 nc7 => ?_⟩
          obtain ⟨H5, e, s5, t5⟩ := one (.dK (lessK kvs u)) nc7
          rw [← e]
          clear e
          have s35 := k3.trans (s4.trans s5)
          have gu : ∀ {X : Hp}, X d = some (.frz od (.dK kvs)) → DGet X d (.str u) (some (.int m)) := fun h => .inl ⟨kvs, .inr u, .inr ⟨od, h⟩, rfl, vu.symm⟩
          refine ⟨_, rfl, _, rfl, d, _, rfl, gu (s35 _ _ hf), _, rfl, _, rfl, rfl, _, rfl, ?_⟩
          generalize hT8 : tSeq (tAsg _ (gName 8)) _ = T8
          have c67 : c6 ≠ c7 := ne_of_none t4 nc7
          have rest8 : ∀ (wd : Str), Rt wd → T8 DE [some (.ref b), some (.ref d), some (.ref rl), some (.int pg), some (.ref ra2), some (.str u), some (.ref c6), some (.ref c7), x8, none, none, none, none, none, none] (upd H5 c7 (.dK (putK (lessK kvs u) (.inr wd) (.int m)))) := by
            intro wd hw
            rw [← hT8]
            have ez := lz.putNew ll hw hm
            have more := szk.putOld hu2 vu (show 0 ≤ m + 1 by omega)
            generalize putK (lessK kvs u) (.inr wd) (.int m) = ex at ez
            have keep7 : Same H' (upd H5 c7 (.dK ex)) := fun q o e => by
              rw [upd_ne (ne_of_none ((k3.trans s4) _ _ e) nc7)]
              exact s35 _ _ e
            have e7 : upd H5 c7 (.dK ex) c7 = some (.dK ex) := upd_same
            have e6 : upd H5 c7 (.dK ex) c6 = some (.dK (lessK kvs u)) := by
              rw [upd_ne c67]
              exact s5 _ _ t4
            generalize upd H5 c7 (.dK ex) = E1 at keep7 e7 e6
            refine ⟨_, rfl, d, kvs, rfl, .inr ⟨od, keep7 _ _ hf⟩, fun c8 nc8 => ?_⟩
            obtain ⟨E2, e, r2, t8⟩ := one (.dK kvs) nc8
            rw [← e]
            clear e
            have f2 := r2 _ _ (keep7 _ _ hf)
            refine ⟨_, rfl, _, rfl, d, _, rfl, gu f2, _, _, rfl, rfl, _, rfl, _, rfl, c8, _, rfl, DPut.k (k := .inr u) t8 (Nat.lt_of_le_of_lt szk.1 (by show 2 < sizeLine; decide)), ?_⟩
            generalize putK kvs (.inr u) (.int (m + 1)) = mo at more
            have keep8 : Same H' (upd E2 c8 (.dK mo)) := fun q o e => by
              rw [upd_ne (ne_of_none (keep7 _ _ e) nc8)]
              exact r2 _ _ (keep7 _ _ e)
            have g8 : upd E2 c8 (.dK mo) c8 = some (.dK mo) := upd_same
            have g7 : upd E2 c8 (.dK mo) c7 = some (.dK ex) := by
              rw [upd_ne (ne_of_none e7 nc8)]
              exact r2 _ _ e7
            have g6 : upd E2 c8 (.dK mo) c6 = some (.dK (lessK kvs u)) := by
              rw [upd_ne (ne_of_none e6 nc8)]
              exact r2 _ _ e6
            generalize upd E2 c8 (.dK mo) = E3 at keep8 g8 g7 g6
            have f3 := keep8 _ _ hf
            have nd3 : ∀ {q : Addr} {ks : List (Key × V)}, E3 q = some (.dK ks) → q ≠ d := fun {q ks} e x => by
              rw [x, f3] at e
              cases e
            refine ⟨_, rfl, _, rfl, _, rfl, (by show 2 ≤ sizeLine; decide), fun y1 ny1 => ?_⟩
            obtain ⟨E4, e, r4, u4⟩ := one (.tup [V.ref c6, V.int pg]) ny1
            rw [← e]
            clear e
            refine ⟨_, rfl, _, rfl, (by show 2 ≤ sizeLine; decide), fun y2 ny2 => ?_⟩
            obtain ⟨E5, e, r5, u5⟩ := one (.tup [V.ref c7, V.int pg]) ny2
            rw [← e]
            clear e
            refine ⟨_, rfl, _, rfl, (by show 2 ≤ sizeLine; decide), fun y3 ny3 => ?_⟩
            obtain ⟨E6, e, r6, u6⟩ := one (.tup [V.ref c8, V.int pg]) ny3
            rw [← e]
            clear e
            refine ⟨(by show 3 ≤ sizeLine; decide), fun l1 nl1 => ?_⟩
            obtain ⟨E7, e, r7, u7⟩ := one (.lst ([y1, y2, y3].map V.ref)) nl1
            rw [show upd E6 l1 (.lst [V.ref y1, V.ref y2, V.ref y3]) = E7 from e.symm]
            clear e
            have r37 : Same E3 E7 := r4.trans (r5.trans (r6.trans r7))
            have k27 := szk.1
            refine ⟨_, _, _, _, rfl, rfl, r37 _ _ (keep8 _ _ hra2), u7, ?_, fun ra3 nra3 => ?_⟩
            · rw [List.length_map]
              show rows2.length + 3 ≤ sizeLine
              omega
            obtain ⟨E8, e, r8, u8⟩ := one (.lst ((rows2 ++ [y1, y2, y3]).map V.ref)) nra3
            rw [show upd E7 ra3 (.lst (rows2.map V.ref ++ [y1, y2, y3].map V.ref)) = E8 by rw [← List.map_append]; exact e.symm]
            clear e
            have r38 := r37.trans r8
            have big8 : Same H' E8 := keep8.trans r38
            refine enx _ _ ⟨big8 _ _ hf, fun q o n e => big8 _ _ (keep q o n e), ra3, rows2 ++ [y1, y2, y3], _, _, _, _, rfl, u8, fun p hp => ?_, by rw [List.length_append]; show rows2.length + 3 ≤ _; omega⟩
            rcases List.mem_append.mp hp with h | h
            · exact (hr2 p h).same big8
            · simp only [List.mem_cons, List.not_mem_nil, or_false] at h
              rcases h with rfl | rfl | rfl
              · exact ⟨c6, _, pg, nd3 g6, r8 _ _ (r7 _ _ (r6 _ _ (r5 _ _ u4))), r38 _ _ g6, lz, hpg⟩
              · exact ⟨c7, _, pg, nd3 g7, r8 _ _ (r7 _ _ (r6 _ _ u5)), r38 _ _ g7, ez, hpg⟩
              · exact ⟨c8, _, pg, nd3 g8, r8 _ _ (r7 _ _ u6), r38 _ _ g8, more, hpg⟩
          clear hT8
          refine ite2 (fun _ => ?_) (fun _ => ?_)
          · exact ⟨c7, _, rfl, DPut.k (k := .inr "qqqqqq") t5 (by omega), rest8 _ (by unfold Rt Sm; decide +kernel)⟩
          · exact ⟨c7, _, rfl, DPut.k (k := .inr "q") t5 (by omega), rest8 _ (by unfold Rt Sm; decide +kernel)⟩
      · rintro σ H' ⟨hf, keep, ra2, rows2, x5, x6, x7, x8, rfl, hra2, hr2, _⟩
        have nf : ∀ {q : Addr} {o : HO}, H' q = some o → o ≠ .frz od (.dK kvs) → q ≠ d := fun {q o} e n x => by
          rw [x, hf] at e
          exact n (Option.some.inj e).symm
        refine ⟨hf, rest4 ra2 rows2 _ _ _ _ _ _ _ _ _ _ _ (by rw [upd_ne (nf hra2 fun x => nomatch x)]; exact hra2) (fun p hp => ?_) fun q o e => ?_⟩
        · obtain ⟨e, ks, m, ne, h1, h3, r⟩ := hr2 p hp
          exact ⟨e, ks, m, by rw [upd_ne (nf h1 fun x => nomatch x)]; exact h1, by rw [upd_ne ne]; exact h3, r⟩
        · by_cases x : q = d
          · subst x
            rw [hd] at e
            rw [← e]
            exact upd_same
          · rw [upd_ne x]
            exact keep q o x (sHG _ _ e)
    clear hT3
    refine ⟨_, rfl, d, kvs, rfl, .inl hd, fun c1 nc1 => ?_⟩
    obtain ⟨H1, e, s1, t1⟩ := one (.dK kvs) nc1
    rw [← e]
    clear e
    refine ⟨_, rfl, (by show 2 ≤ sizeLine; decide), fun w1 nw1 => ?_⟩
    obtain ⟨H2, e, s2, t2⟩ := one (.tup [V.ref c1, V.int pg]) nw1
    rw [← e]
    clear e
    have s02 := s1.trans s2
    refine ⟨_, rfl, d, kvs, rfl, s02 _ _ hd, fun H3 lp ts s3 nlp nts lpts hlp hpair => ⟨lp, _, rfl, SqL.of hlp, fun rp nrp => ?_⟩⟩
    obtain ⟨H4, e, s4, t4⟩ := one (.lst (ts.map V.ref).reverse) nrp
    rw [← e]
    clear e
    rw [← List.map_reverse] at t4
    refine ⟨rp, ts.reverse, kvs.reverse, rfl, SqL.of t4, ?_, fun c2 nc2 => ?_⟩
    · have hp4 : Paired (fun (t : Addr) (q : Key × V) => SqT K H4 t [kV q.1, q.2]) ts kvs := paired_imp hpair fun t q h => SqT.of (s4 _ _ h)
      exact paired_rev hp4
    obtain ⟨H5, e, s5, t5⟩ := one (.dK (mergeK [] kvs.reverse)) nc2
    rw [← e]
    clear e
    refine ⟨_, rfl, (by show 2 ≤ sizeLine; decide), fun w2 nw2 => ?_⟩
    obtain ⟨H6, e, s6, t6⟩ := one (.tup [V.ref c2, V.int pg]) nw2
    rw [← e]
    clear e
    have s06 : Same H H6 := s02.trans (Same.trans (fun q o h => s3 q o h) (s4.trans (s5.trans s6)))
    refine ⟨_, rfl, d, kvs, rfl, .inl (s06 _ _ hd), fun c3 nc3 => ?_⟩
    obtain ⟨H7, e, s7, t7⟩ := one (.dK kvs) nc3
    rw [← e]
    clear e
    refine ⟨_, rfl, _, _, rfl, rfl, (by show 2 ≤ sizeLine; decide), fun w3 nw3 => ?_⟩
    obtain ⟨H8, e, s8, t8⟩ := one (.tup [V.ref c3, V.int (pg + 1)]) nw3
    rw [← e]
    clear e
    refine ⟨(by show 3 ≤ sizeLine; decide), fun ra nra => ?_⟩
    obtain ⟨H9, e, s9, t9⟩ := one (.lst ([w1, w2, w3].map V.ref)) nra
    rw [show upd H8 ra (.lst [V.ref w1, V.ref w2, V.ref w3]) = H9 from e.symm]
    clear e
    have s09 : Same H H9 := s06.trans (s7.trans (s8.trans s9))
    have k29 : Same H2 H9 := Same.trans (fun q o h => s3 q o h) (s4.trans (s5.trans (s6.trans (s7.trans (s8.trans s9)))))
    have k69 : Same H6 H9 := s7.trans (s8.trans s9)
    have off : ∀ {G : Hp} {c : Addr}, Same H G → G c = none → c ≠ d := fun s n x => by
      rw [x, s _ _ hd] at n
      cases n
    have rows0 : ∀ p ∈ [w1, w2, w3], RowX d H9 p := by
      intro p hp
      simp only [List.mem_cons, List.not_mem_nil, or_false] at hp
      rcases hp with rfl | rfl | rfl
      · exact ⟨c1, kvs, pg, off (Same.refl H) nc1, k29 _ _ t2, k29 _ _ (s2 _ _ t1), szk, hpg⟩
      · exact ⟨c2, _, pg, off (s02.trans (Same.trans (fun q o h => s3 q o h) s4)) nc2, k69 _ _ t6, k69 _ _ (s6 _ _ t5), szr, hpg⟩
      · exact ⟨c3, kvs, pg + 1, off s06 nc3, s9 _ _ t8, s9 _ _ (s8 _ _ t7), szk, by omega⟩
    refine ⟨_, rfl, d, kvs, rfl, s09 _ _ hd, rfl, _, rfl, ite2 (fun h2 => ?_) (fun h2 => ?_)⟩
    · obtain ⟨i, j, hne2, ek⟩ : ∃ i j, y ≠ z ∧ kvs = [(.inr y, .int i), (.inr z, .int j)] ∧ 0 ≤ i ∧ 0 ≤ j := by
        rcases hk with rfl | ⟨i, rfl, _⟩ | h
        · exact absurd (V.int.inj (of_decide_eq_true h2)) (by decide)
        · exact absurd (V.int.inj (of_decide_eq_true h2)) (by show ¬ (((1 : Nat) : Int) = 2); decide)
        · exact h
      obtain ⟨ek, hi, hj⟩ := ek
      have vy : valV kvs (.inr y) = some (.int i) := by
        rw [ek]
        exact valV_pos rfl
      have vz : valV kvs (.inr z) = some (.int j) := by
        rw [ek, valV_neg (fun x => hne2 (Sum.inr.inj x))]
        exact valV_pos rfl
      refine ⟨_, rfl, .inl ⟨rfl, _, SqL.of t9⟩, fun dp ndp => ?_⟩
      have dd : upd H9 dp (.dK []) d = some (.dK kvs) := by
        rw [upd_ne (ne_of_none (s09 _ _ hd) ndp)]
        exact s09 _ _ hd
      have rr : upd H9 dp (.dK []) rl = some (.lst [.str y, .str z]) := by
        rw [upd_ne (ne_of_none (s09 _ _ hrl) ndp)]
        exact s09 _ _ hrl
      have gy : DGet (upd H9 dp (.dK [])) d (.str y) (some (.int i)) := by
        have := DGet.k (k := .inr y) dd
        rw [vy] at this
        exact this
      have gz : DGet (upd H9 dp (.dK [])) d (.str z) (some (.int j)) := by
        have := DGet.k (k := .inr z) dd
        rw [vz] at this
        exact this
      refine ⟨_, rfl, rl, _, _, _, rfl, rfl, SqL.of rr, a0, _, rfl, _, rfl, rl, _, _, _, rfl, rfl, SqL.of rr, a1, d, _, rfl, gz, ?_⟩
      refine ⟨_, rfl, rl, _, _, _, rfl, rfl, SqL.of rr, a1, _, rfl, _, rfl, rl, _, _, _, rfl, rfl, SqL.of rr, a0, d, _, rfl, gy, ?_⟩
      refine ⟨upd_same, [(.inr y, .int j), (.inr z, .int i)], rfl, (by show 2 ≤ 15; decide), ?_⟩
      rw [upd_upd]
      have em : mergeK [] [((.inr y : Key), V.int j), (.inr z, .int i)] = [(.inr y, .int j), (.inr z, .int i)] := by
        simp [mergeK, putK, hne2]
      rw [em]
      obtain ⟨H10, e, s10, t10⟩ := one (.dK [((.inr y : Key), V.int j), (.inr z, .int i)]) ndp
      rw [← e]
      clear e
      refine ⟨_, rfl, (by show 2 ≤ sizeLine; decide), fun wp nwp => ?_⟩
      obtain ⟨H11, e, s11, t11⟩ := one (.tup [V.ref dp, V.int pg]) nwp
      rw [← e]
      clear e
      have t911 := s11 _ _ (s10 _ _ t9)
      refine ⟨ra, _, _, rfl, rfl, t911, (by show 3 < sizeLine; decide), ?_⟩
      have nra2 : H ra = none := s06.free (s7.free (s8.free nra))
      have keep : ∀ q o, q ≠ ra → H11 q = some o → upd H11 ra (.lst ([w1, w2, w3].map V.ref ++ [V.ref wp])) q = some o := fun q o n e => by
        rw [upd_ne n]
        exact e
      refine rest3 ra [w1, w2, w3, wp] _ upd_same (fun p hp => ?_) (by show 4 ≤ 5; decide) (fun q o e => keep q o (ne_of_none e nra2) (s11 _ _ (s10 _ _ (s09 _ _ e))))
      have xr : RowX d H11 p := by
        rcases List.mem_append.mp (show p ∈ [w1, w2, w3] ++ [wp] from hp) with h | h
        · exact (rows0 p h).same (s10.trans s11)
        · rw [List.mem_singleton.mp h]
          refine ⟨dp, _, pg, off s09 ndp, t11, s11 _ _ t10, ⟨(by show 2 ≤ 2; decide), by simpa using fun x => hne2 x, fun kv h => ?_⟩, hpg⟩
          rcases List.mem_cons.mp h with rfl | h
          · exact ⟨y, j, rfl, hy, hj⟩
          · rw [List.mem_singleton.mp h]
            exact ⟨z, i, rfl, hz, hi⟩
      obtain ⟨e, ks, m, ne, h1, h3, r⟩ := xr
      exact ⟨e, ks, m, ne, keep _ _ (fun x => by rw [x, t911] at h1; cases h1) h1, keep _ _ (fun x => by rw [x, t911] at h3; cases h3) h3, r⟩
    · exact rest3 ra [w1, w2, w3] H9 t9 rows0 (by show 3 ≤ 5; decide) s09
end
end Mz
set_option Elab.async false
set_option linter.all false
set_option maxRecDepth 100000
set_option maxHeartbeats 4000000
/-! an own method called with keywords alone -/
namespace Mz
open PySem PySem.Spec PyProof.Rows L2
theorem pe_methSK0 {X : Cx} {CX : CXT} {k : Nat} {f C : Addr} {fd : FuncData} {ps ks : List Str} {sp : Sp} {E : L2.St → XK} {o : Expr} {kws : List Keyword} {ta : TE} {tk : TA} {m : Str} {apos pos : Pos} {pl : Sem Bool} {g : List Value → List Value → List Value} {gV : List V → List V → List V}
    (he : PE X o ta) (c : Cls X.K C) (hm : Meth X.K C m f) (F : FnOk X.prog X.w X.K X.mg X.base CX k f fd ps sp) (hr : Room k X.A) (hb : KBn X.K fd ps 1 ks g gV) (hx : ∀ σ, PassesAt CX X σ (E σ)) (hkw : PK X kws tk)
    (hall : (backToKw pos (keywordEach kws X.env)).all (·.1.isSome) = true := by rfl) (hks : (backToKw pos (keywordEach kws X.env)).filterMap (·.1) = ks := by rfl)
    (hpl : ((backTo pos (starEach [] X.env)).any (·.1) || (backToKw pos (keywordEach kws X.env)).any (·.1.isNone)) = false := by rfl)
    (ht : eval (.Call (.Attribute o m apos) [] kws pos) X.env = (do
      let ov ← eval o X.env
      standAt apos.atName
      let (f, first) ← holding [ov] (getMethod ov m pl)
      callWith pos f first (backTo pos (starEach [] X.env)) (backToKw pos (keywordEach kws X.env))) := by rfl) :
    PE X (.Call (.Attribute o m apos) [] kws pos) (fun σ H Q => ta σ H fun x H1 => ∃ a dx fs, x = .ref a ∧ H1 a = some (.ins C dx fs) ∧ fs.lookup m = none ∧ tk σ H1 fun zs H2 => zs.length = ks.length ∧ sp (gV [x] zs) H2 Q (E σ)) := by
  refine ⟨fun pins s σ H Q I h => PySem.W.methodCall_KW (pl := pl) (thn (he.run pins s σ H _ I h) fun u s1 hv => ?_) ht⟩
  obtain ⟨x, H1, I1, rx, a, dx, fs, rfl, ea, l, q⟩ := hv
  obtain rfl : u = Value.ref a := rx
  refine getmeth_ok I1 ea c hm l (PySem.W.callWith_KW0 (first := [.ref a]) (h₀ := X.base) I.ok.mod.kin hm.kp hall (thn (hkw.run pos pins s1 σ H1 _ I1 q) fun ws s2 hw => ?_) hpl)
  obtain ⟨zs, H2, I2, rz, l2, q2⟩ := hw
  refine ⟨I2.kIn, ?_⟩
  rw [hks]
  refine wpAny_call (codeAny_mono (F.run X.A X.stack s2 H2 ⟨[.ref a], ks.zip ws⟩ (g [.ref a] ws) (gV [.ref a] zs) Q (E σ) hr I2.env0 (hb.to _ [.ref a] ws I2.kIn rfl (rz.length.symm.trans l2)) (hb.rel (.cons rfl .nil) rz) q2) fun r s' hq => ?_)
  cases r with
  | error e => exact hx σ pins _ _ e s' I2 hq
  | ok fl =>
    cases fl with
    | ret u => exact I2.after hq
    | next => exact hq.elim
    | brk => exact hq.elim
    | cont => exact hq.elim
end Mz
set_option Elab.async false
set_option linter.all false
set_option maxRecDepth 100000
set_option maxHeartbeats 4000000
namespace Mz
open PySem PySem.Spec PyProof.Rows L2
/-- the law's sizes -/
def Shp (y z : Str) (kvs : List (Key × V)) : Prop := kvs = [] ∨ (∃ i : Int, kvs = [(.inr y, .int i)] ∧ 0 ≤ i ∧ i < 10 ^ 50) ∨ ∃ i j : Int, y ≠ z ∧ kvs = [(.inr y, .int i), (.inr z, .int j)] ∧ (0 ≤ i ∧ i < 10 ^ 50) ∧ 0 ≤ j ∧ j < 10 ^ 50
/-- each name has its size -/
def Hts (rs : List Str) (kvs : List (Key × V)) : Prop := ∀ u ∈ rs, ∃ n : Int, valV kvs (.inr u) = some (.int n) ∧ 0 ≤ n ∧ n < 10 ^ 50
theorem shp6 {y z : Str} {rs : List Str} {ps : List (Key × V)} (hrs : rs = [] ∨ rs = [y] ∨ rs = [y, z]) (ek : ps.map (·.1) = rs.map (fun u => (Sum.inr u : Key))) (ips : ∀ p ∈ ps, ∃ n : Int, p.2 = .int n ∧ 0 ≤ n ∧ n < 10 ^ 50) :
    Shp y z (mergeK [] ps) ∧ Hts rs (mergeK [] ps) := by
  rcases hrs with rfl | rfl | rfl
  · match ps, ek with
    | [], _ => exact ⟨.inl rfl, fun _ h => nomatch h⟩
  · have l : ps.length = 1 := by simpa using congrArg List.length ek
    match ps, l, ek, ips with
    | [p1], _, ek, ips =>
      obtain ⟨n1, e1, g1, l1⟩ := ips p1 List.mem_cons_self
      obtain ⟨k1, w1⟩ := p1
      cases ek
      cases e1
      refine ⟨.inr (.inl ⟨n1, rfl, g1, l1⟩), fun u hu => ?_⟩
      rw [List.mem_singleton.mp hu]
      exact ⟨n1, valV_pos rfl, g1, l1⟩
  · have l : ps.length = 2 := by simpa using congrArg List.length ek
    match ps, l, ek, ips with
    | [p1, p2], _, ek, ips =>
      obtain ⟨n1, e1, g1, l1⟩ := ips p1 List.mem_cons_self
      obtain ⟨n2, e2, g2, l2⟩ := ips p2 (List.mem_cons_of_mem _ List.mem_cons_self)
      obtain ⟨k1, w1⟩ := p1
      obtain ⟨k2, w2⟩ := p2
      cases ek
      cases e1
      cases e2
      by_cases hyz : y = z
      · subst hyz
        have e : mergeK [] [((.inr y : Key), V.int n1), (.inr y, .int n2)] = [(.inr y, .int n2)] := by simp [mergeK, putK]
        rw [e]
        refine ⟨.inr (.inl ⟨n2, rfl, g2, l2⟩), fun u hu => ?_⟩
        have hu : u = y := by simpa using hu
        rw [hu]
        exact ⟨n2, valV_pos rfl, g2, l2⟩
      · have e : mergeK [] [((.inr y : Key), V.int n1), (.inr z, .int n2)] = [(.inr y, .int n1), (.inr z, .int n2)] := by simp [mergeK, putK, hyz]
        rw [e]
        refine ⟨.inr (.inr ⟨n1, n2, hyz, rfl, ⟨g1, l1⟩, g2, l2⟩), fun u hu => ?_⟩
        rcases List.mem_cons.mp hu with rfl | hu
        · exact ⟨n1, valV_pos rfl, g1, l1⟩
        · rw [List.mem_singleton.mp hu]
          exact ⟨n2, by rw [valV_neg (fun x => hyz (Sum.inr.inj x))]; exact valV_pos rfl, g2, l2⟩
/-- what the setting was made of, and what the law holds -/
structure Two (kvs gvs : List (Key × V)) : Prop where
  szk : SzD kvs
  szr : SzD gvs
  same : ∀ k : Key, valV gvs k = valV kvs k
  len : gvs.length = kvs.length
  eqs : ∀ p ∈ gvs, valV kvs p.1 = some p.2 ∧ flatB p.2 = true
  kint : KInt gvs
theorem shp_two {y z : Str} {kvs : List (Key × V)} (hy : Rt y) (hz : Rt z) (h : Shp y z kvs) : Two kvs (mergeK [] kvs.reverse) := by
  have szk : SzD kvs := by
    rcases h with rfl | ⟨i, rfl, hi, _⟩ | ⟨i, j, hne2, rfl, ⟨hi, _⟩, hj, _⟩
    · exact ⟨by decide, by decide, fun kv h => nomatch h⟩
    · exact ⟨(by show 1 ≤ 2; decide), by simp, fun kv h => by rw [List.mem_singleton.mp h]; exact ⟨y, i, rfl, hy, hi⟩⟩
    · refine ⟨(by show 2 ≤ 2; decide), by simpa using fun x => hne2 x, fun kv h => ?_⟩
      rcases List.mem_cons.mp h with rfl | h
      · exact ⟨y, i, rfl, hy, hi⟩
      · rw [List.mem_singleton.mp h]
        exact ⟨z, j, rfl, hz, hj⟩
  have szr : SzD (mergeK [] kvs.reverse) := by
    rcases h with rfl | ⟨i, rfl, hi, _⟩ | ⟨i, j, hne2, rfl, ⟨hi, _⟩, hj, _⟩
    · exact ⟨by decide, by decide, fun kv h => nomatch h⟩
    · exact ⟨(by show 1 ≤ 2; decide), by simp [mergeK, putK], fun kv h => by rw [List.mem_singleton.mp h]; exact ⟨y, i, rfl, hy, hi⟩⟩
    · have e : mergeK [] ([((.inr y : Key), V.int i), (.inr z, .int j)]).reverse = [(.inr z, .int j), (.inr y, .int i)] := by
        simp [mergeK, putK, Ne.symm hne2]
      rw [e]
      refine ⟨(by show 2 ≤ 2; decide), by simpa using fun x => hne2 x.symm, fun kv h => ?_⟩
      rcases List.mem_cons.mp h with rfl | h
      · exact ⟨z, j, rfl, hz, hj⟩
      · rw [List.mem_singleton.mp h]
        exact ⟨y, i, rfl, hy, hi⟩
  have same : ∀ k : Key, valV (mergeK [] kvs.reverse) k = valV kvs k := by
    intro k
    rcases h with rfl | ⟨i, rfl, hi, _⟩ | ⟨i, j, hne2, rfl, ⟨hi, _⟩, hj, _⟩
    · rfl
    · rfl
    · have e : mergeK [] ([((.inr y : Key), V.int i), (.inr z, .int j)]).reverse = [(.inr z, .int j), (.inr y, .int i)] := by
        simp [mergeK, putK, Ne.symm hne2]
      rw [e]
      by_cases h1 : k = .inr y
      · subst h1
        rw [valV_neg (fun x => hne2 (Sum.inr.inj x).symm), valV_pos rfl, valV_pos rfl]
      · by_cases h2 : k = .inr z
        · subst h2
          rw [valV_pos rfl, valV_neg (fun x => hne2 (Sum.inr.inj x)), valV_pos rfl]
        · rw [valV_neg (fun x => h2 x.symm), valV_neg (fun x => h1 x.symm), valV_neg (fun x => h1 x.symm), valV_neg (fun x => h2 x.symm)]
  refine ⟨szk, szr, same, ?_, fun p hp => ⟨?_, ?_⟩, fun u v hv => ?_⟩
  · rcases h with rfl | ⟨i, rfl, hi, _⟩ | ⟨i, j, hne2, rfl, ⟨hi, _⟩, hj, _⟩
    · rfl
    · rfl
    · have e : mergeK [] ([((.inr y : Key), V.int i), (.inr z, .int j)]).reverse = [(.inr z, .int j), (.inr y, .int i)] := by
        simp [mergeK, putK, Ne.symm hne2]
      rw [e]
      rfl
  · rw [← same]
    exact valV_self szr.2.1 p hp
  · obtain ⟨n, e⟩ := szr.ints p hp
    rw [e]
    rfl
  · obtain ⟨p, hp, e1, e2⟩ := valV_mem hv
    obtain ⟨n, e⟩ := szr.ints p hp
    exact ⟨n, by rw [← e2, e]⟩
theorem shp_eq {y z : Str} {kvs : List (Key × V)} (h : Shp y z kvs) : kvs = [] ∨ (∃ i, kvs = [(.inr y, .int i)] ∧ 0 ≤ i) ∨ ∃ i j, y ≠ z ∧ kvs = [(.inr y, .int i), (.inr z, .int j)] ∧ 0 ≤ i ∧ 0 ≤ j := by
  rcases h with h | ⟨i, e, hi, _⟩ | ⟨i, j, n, e, ⟨hi, _⟩, hj, _⟩
  · exact .inl h
  · exact .inr (.inl ⟨i, e, hi⟩)
  · exact .inr (.inr ⟨i, j, n, e, hi, hj⟩)
theorem log_small {n : Int} (h0 : -(10 ^ 60) < n) (h1 : n < 10 ^ 60) : n.natAbs.log2 < 1920 := by
  by_cases z : n.natAbs = 0
  · rw [z]
    decide
  · rw [Nat.log2_lt z]
    have : n.natAbs < 10 ^ 60 := by omega
    exact Nat.lt_trans this (by decide +kernel)
/-- a place's value, both ways -/
theorem wt6 {rs : List Str} {kvs gvs : List (Key × V)} (T : Two kvs gvs) (hh : Hts rs kvs) (rrs : ∀ u ∈ rs, Rt u) {u : Str} {k : Int} (h : Prt rs u k) :
    Prs u k ∧ ∃ n : Int, wtD kvs u k = some n ∧ wtK gvs u k = some n ∧ -(10 ^ 60) < n ∧ n < 10 ^ 60 := by
  rcases h with ⟨rfl, h0, h1⟩ | ⟨hm, h0, h1⟩
  · refine ⟨.inl ⟨rfl, h0, h1⟩, k, ?_, if_pos rfl, by omega, by omega⟩
    have none_ : valV kvs (.inr "") = none := by
      cases e : valV kvs (.inr "") with
      | none => rfl
      | some v =>
        obtain ⟨p, hp, e1, e2⟩ := valV_mem e
        obtain ⟨w, i, rfl, hw, _⟩ := T.szk.2.2 p hp
        have : w = "" := Sum.inr.inj e1
        subst this
        exact absurd hw.1 (by decide +kernel)
    unfold wtD
    rw [none_]
  · obtain ⟨n, e, n0, n1⟩ := hh u hm
    have hu := rrs u hm
    have ne : u ≠ "" := fun z => by
      rw [z] at hu
      exact absurd hu.1 (by decide +kernel)
    refine ⟨.inr ⟨hu.1, hu.2, h0, h1⟩, n + k, ?_, ?_, by omega, by omega⟩
    · unfold wtD
      rw [e]
    · unfold wtK
      rw [if_neg ne, T.same, e]
theorem Pv6.at {K : PySem.W.Frag} {C : Addr} {H H' : Hp} {v : V} {z : Str} {k : Int} (s : ∀ a, v = .ref a → ∀ o, H a = some o → H' a = some o) (h : Pv6 K C H v z k) : Pv6 K C H' v z k := by
  rcases h with ⟨a, e, ⟨dx, h⟩⟩ | ⟨⟨h1, t, ty, k2⟩, h3⟩
  · exact .inl ⟨a, e, ⟨dx, s a e _ h⟩⟩
  · exact .inr ⟨⟨h1.at s, t, ty_at s ty, k2⟩, h3⟩
theorem stl_no {d : Addr} {pg : Int} {x : Str} (h1 : (x == ("_page" : Str)) = false) (h2 : (x == ("_sizes" : Str)) = false) : (stF d pg).lookup x = none := by
  unfold stF
  rw [lookup_putF, if_neg (fun e => by rw [e] at h1; simp at h1), lookup_putF, if_neg (fun e => by rw [e] at h2; simp at h2)]
  rfl
end Mz
set_option Elab.async false
set_option linter.all false
set_option maxRecDepth 100000
set_option maxHeartbeats 4000000
namespace Mz
open PySem PySem.Spec PyProof.Rows L2
def spLaw (K : PySem.W.Frag) : Sp := fun vs H Q _ => ∃ (a : Addr) (ns : List Int), vs = [.ref a] ∧ SqL K H a (ns.map V.int) ∧ ns.length ≤ 63 ∧ ∀ H', Q (.bl true) H'
/-- a def that the law calls -/
structure C1 (P : Program) (w : World) (K : PySem.W.Frag) (mg : Str → Option Value) (base : Heap) (x : Str) (k : Nat) (ps : List Str) (sp : Sp) (f : Addr) (fd : FuncData) : Prop where
  ok : FnOk P w K mg base CX0 k f fd ps sp
  m : mg x = some (.ref f)
  k : PySem.W.keepIn K (.ref f) = true
  b : Binds K fd ps []
structure G1 (P : Program) (w : World) (K : PySem.W.Frag) (mg : Str → Option Value) (base : Heap) (x : Str) (k : Nat) (ps : List Str) (sp : Sp) (f : Addr) (fd : FuncData) : Prop where
  ok : FnG P w K mg base CX0 k f fd ps sp
  m : mg x = some (.ref f)
  k : PySem.W.keepIn K (.ref f) = true
  b : Binds K fd ps []
theorem pass_all {X : Cx} : Passes (L2.CX X.prog X.w) X E0 := fun pins σ H s e s' I h => pass_no (σ := σ) pins H s e s' I h
section
variable {P : Program} {w : World} {K : PySem.W.Frag} {mg : Str → Option Value} {base : Heap}
theorem scLaw : FnScope ["_law_script", "_law_k", "_law_box_here", "_law_every", "_law_roots_here", "_law_worths", "_law_much", "_law_given", "_law_setting", "_law_told_here", "_law_turn", "_law_one", "_law_far", "_law_low", "_law_high", "_law_due", "_law_root"] ["_law_script"] (defScope sLaw) := ⟨rfl, rfl, rfl, by decide +kernel, rfl, by decide +kernel, by decide +kernel⟩
theorem same_of6 {b : Addr} {H H' : Hp} (h : H b = none) (k : Kp b H H') : Same H H' := fun q o e => k q o (ne_of_none e h) e
theorem ok_law {f fC fB fR fSz fPr fWo fTo fIn fQ fI fZ fG fSm fP fE ft S C cS cI cX pp : Addr} {fd fdC fdB fdR fdSz fdPr fdWo fdTo fdIn fdQ fdI fdZ fdG fdSm fdP fdE fdt : FuncData} {g2 gm : List Value → List Value → List Value} {ds2 : List Value}
    (F : Fun K "law" "law" sLaw f fd) (B : Blt mg) (mR : mg "repr" = none) (mDct : mg "dict" = none) (mLst : mg "list" = none)
    (T : Tk P w K mg base ft fdt) (GC : C1 P w K mg base "_law_cell" 1 ["_law_script", "_law_k"] (spCell K) fC fdC) (GB : C1 P w K mg base "_law_box" 1 ["_law_cell_here"] spBox fB fdB) (GR : C1 P w K mg base "_law_roots" 2 ["_law_box_here"] spRoots6 fR fdR) (GSz : C1 P w K mg base "_law_size" 2 ["_law_box_here"] spSize6 fSz fdSz)
    (GPr : C1 P w K mg base "_law_pair" 2 ["_law_box_here", "_law_roots_here"] (spPair6 K) fPr fdPr) (GWo : C1 P w K mg base "_law_worth" 1 ["_law_worths", "_law_pair_here"] spWorth6 fWo fdWo) (GTo : C1 P w K mg base "_law_told" 6 ["_law_box_here", "_law_pair_here"] (spTold6 K C) fTo fdTo)
    (GIn : G1 P w K mg base "_law_in_right" 5 ["_law_setting", "_law_worths", "_law_roots_here"] (spInRight K S) fIn fdIn) (GQ : C1 P w K mg base "_law_equal_right" 6 ["_law_box_here", "_law_worths", "_law_roots_here", "_law_much"] (spEqRight K) fQ fdQ)
    (TT : Scl K mg S) (YS : Pty K S) (MS : Mk K S fI) (GIS : FnOk P w K mg base (L2.CX P w) 4 fI fdI ["self", "sizes", "page"] (spInitS K S cS cI)) (kS2 : KBn K fdI ["self", "sizes", "page"] 2 ["page"] g2 (fun vs zs => vs ++ zs)) (bS2 : Binds K fdI ["self", "sizes", "page"] ds2) (hds2 : Vals [.int 32] ds2)
    (GZ : FnOk P w K mg base CX0 1 fZ fdZ ["self"] (spSizesS S)) (bZ : Binds K fdZ ["self"] []) (mZ : Meth K S "sizes" fZ)
    (GG : FnOk P w K mg base (L2.CX P w) 6 fG fdG ["self", "at"] (spGetS K S C cX)) (bG : Binds K fdG ["self", "at"] []) (iG : PySem.W.findIn K (.ref S) "__getitem__" = some (some (.ref fG))) (fG2 : PySem.W.fnIn K fG = true) (jG : PySem.W.isFn K (.ref fG) = true)
    (GSm : FnOk P w K mg base (L2.CX P w) 8 fSm fdSm ["self", "place", "other"] (spSameS K S C cX)) (bSm : Binds K fdSm ["self", "place", "other"] []) (kSm : KBn K fdSm ["self", "place", "other"] 1 ["place", "other"] gm (fun vs zs => vs ++ zs)) (mS : Meth K S "same_page" fSm)
    (pP : PropOf K S "page" pp fP) (GP : FnOk P w K mg base CX0 1 fP fdP ["self"] (spPageS S)) (bP : Binds K fdP ["self"] [])
    (GE : FnOk P w K mg base CX0 1 fE fdE ["self", "other"] (spEqS K S)) (bE : Binds K fdE ["self", "other"] []) (iE : PySem.W.findIn K (.ref S) "__eq__" = some (some (.ref fE))) (jE : PySem.W.isFn K (.ref fE) = true) (nfD : PySem.W.subIn K (.type "dict") (.ref S) = some false) (kiD : PySem.W.kitOne K (.type "dict") (.ref S) = some false) (N : Npl K C) : FnG P w K mg base CX0 9 f fd ["_law_script"] (spLaw K) := by
  refine fun_okG F scLaw (fun vs H Q E h => ?_) (fun cdv A outer s H vs Q E hg hr h => ?_)
  · obtain ⟨a, ns, rfl, _⟩ := h
    rfl
  · obtain ⟨a, ns, rfl, hS, hlen, q⟩ := h
    have nd := scLaw.nd
    have hr1 : Room 1 _ := hr.mono (by decide)
    have hr2 : Room 2 _ := hr.mono (by decide)
    have hr5 : Room 5 _ := hr.mono (by decide)
    have hr6 : Room 6 _ := hr.mono (by decide)
    have hr7 : Room 7 _ := hr.mono (by decide)
    have hu := hu_of hr
    refine ⟨_, (pss_cons (ps_for PassesOwn.never rfl (pi_range1 rfl B.range (pa_cons (pe_callB (call_max2 rfl) (by rfl) B.max (by decide +kernel) (pa_cons pe_int (pa_cons (pe_callB (call_min2 rfl) (by rfl) B.min (by decide +kernel) (pa_cons pe_int (pa_cons (pe_callB call_len_seq (by rfl) B.len PySem.boot_len (pa_cons (pv 0) pa_nil)) pa_nil))) pa_nil))) pa_nil)) (pg_name (i := 1) nd rfl (Or.inl rfl))
      (pss_cons (ps_set (i := 2) nd rfl (Or.inr rfl) (pe_call GB.ok hr1 (by rfl) GB.m GB.k GB.b .nil pass0 (pa_cons (pe_call GC.ok hr1 (by rfl) GC.m GC.k GC.b .nil pass0 (pa_cons (pv 0) (pa_cons (pv 1) pa_nil))) pa_nil)))
      (pss_cons (ps_set (i := 3) nd rfl (Or.inl rfl) (pe_call GR.ok hr2 (by rfl) GR.m GR.k GR.b .nil pass0 (pa_cons (pv 2) pa_nil)))
      (pss_cons (ps_set (i := 4) nd rfl (Or.inl rfl) (pe_slice sl_list (pv 3) po_none (po_some (pe_call T.ok hr1 (by rfl) T.m T.k T.b .nil pass0 (pa_cons (pv 2) (pa_cons pe_int pa_nil))))))
      (pss_cons (ps_set (i := 5) nd rfl (Or.inl rfl) (pe_callTy (call_dictP rfl) (by rfl) mDct (by decide +kernel) (pa_cons (pe_lc (own := [("_law_root", 16)]) (g := gName 16) (tt := tYes) rfl nd (pi_list (pv 4)) (blkOk_by (N := ["_law_script", "_law_k", "_law_box_here", "_law_every", "_law_roots_here", "_law_worths", "_law_much", "_law_given", "_law_setting", "_law_told_here", "_law_turn", "_law_one", "_law_far", "_law_low", "_law_high", "_law_due", "_law_root"]) (sc := defScope sLaw) (by decide +kernel)) (fun _ _ _ _ _ => pg_name (i := 16) nd rfl (Or.inl rfl)) (fun _ _ _ _ _ => pts_nil) (fun _ _ _ _ _ => (pe_tup (pa_cons (pv 16) (pa_cons (pe_call GSz.ok hr2 (by rfl) GSz.m GSz.k GSz.b .nil pass0 (pa_cons (pv 2) pa_nil)) pa_nil))))) pa_nil)))
      (pss_cons (ps_set (i := 6) nd rfl (Or.inl rfl) (pe_ix ix_list (pe_lst (pa_cons (pe_op op_add pe_int (pe_call T.ok hr1 (by rfl) T.m T.k T.b .nil pass0 (pa_cons (pv 2) (pa_cons pe_int pa_nil)))) (pa_cons pe_int (pa_cons (pe_op op_add (pe_op op_pow pe_int pe_int) (pe_call T.ok hr1 (by rfl) T.m T.k T.b .nil pass0 (pa_cons (pv 2) (pa_cons pe_int pa_nil)))) pa_nil)))) (pe_call T.ok hr1 (by rfl) T.m T.k T.b .nil pass0 (pa_cons (pv 2) (pa_cons pe_int pa_nil))) (fun _ _ => rfl)))
      (pss_cons (ps_set (i := 7) nd rfl (Or.inl rfl) (pe_callTy (call_dictP rfl) (by rfl) mDct (by decide +kernel) (pa_cons (pe_revL (LiI.pe_listItems rfl (pv 5) (by rfl) mLst (by decide +kernel))) pa_nil)))
      (pss_cons (ps_set (i := 8) nd rfl (Or.inl rfl) (pe_makeKS MS GIS hr5 (by rfl) TT.mgS kS2 (fun σ => pass_no) (pa_cons (pv 7) pa_nil) (pk_cons (pv 6) pk_nil)))
      (pss_cons (ps_dput hu (pv 7) pe_str pe_int rfl)
      (pss_cons (ps_set (i := 9) nd rfl (Or.inl rfl) (pe_meth0 (pv 8) TT.cl mZ GZ hr1 bZ .nil pass0))
      (pss_cons (ps_dput hu (pv 9) pe_str pe_int rfl)
      (pss_cons (ps_if (PW.pt (pw_or (pt_cmpR (op_ne_dictA hr.units0) (pe_meth0 (pv 8) TT.cl mZ GZ hr1 bZ .nil pass0) (pv 5) (nomark _)) (pw_or1 (pt_cmpR op_ne (pe_callB (call_reprD hg hr.units) (by rfl) mR (by decide +kernel) (pa_cons (pe_prop (pv 8) TT.cl pP GP hr2 bP .nil pass0 rfl) pa_nil)) (pe_callB (call_reprD hg hr.units) (by rfl) mR (by decide +kernel) (pa_cons (pv 6) pa_nil)) (nomark _))))) (pss_one (ps_ret pe_bl)) pss_nil)
      (pss_cons (ps_if (pt_not (pt_val (pe_callG GIn.ok hg hr5 (by rfl) GIn.m GIn.k GIn.b .nil pass0 (pa_cons (pv 8) (pa_cons (pv 5) (pa_cons (pv 3) pa_nil)))))) (pss_one (ps_ret pe_bl)) pss_nil)
      (pss_cons (ps_for PassesOwn.never rfl (pi_range1 rfl B.range (pa_cons pe_int pa_nil)) (pg_name (i := 10) nd rfl (Or.inl rfl))
      (pss_cons (ps_par (i := 11) (j := 12) rfl nd rfl rfl (by decide) rfl rfl (pa_cons (pe_call GPr.ok hr2 (by rfl) GPr.m GPr.k GPr.b .nil pass0 (pa_cons (pv 2) (pa_cons (pv 4) pa_nil))) (pa_cons (pe_call GPr.ok hr2 (by rfl) GPr.m GPr.k GPr.b .nil pass0 (pa_cons (pv 2) (pa_cons (pv 4) pa_nil))) pa_nil)) (by rfl))
      (pss_cons (ps_par (i := 13) (j := 14) rfl nd rfl rfl (by decide) rfl rfl (pa_cons (pe_call GWo.ok hr1 (by rfl) GWo.m GWo.k GWo.b .nil pass0 (pa_cons (pv 5) (pa_cons (pv 11) pa_nil))) (pa_cons (pe_call GWo.ok hr1 (by rfl) GWo.m GWo.k GWo.b .nil pass0 (pa_cons (pv 5) (pa_cons (pv 12) pa_nil))) pa_nil)) (by rfl))
      (pss_cons (ps_if (pt_cmpR op_ne (pe_callB (call_reprD hg hr.units) (by rfl) mR (by decide +kernel) (pa_cons (pe_subS GG hr7 bG iG fG2 jG (fun σ => pass_no) (pv 8) (pe_call GTo.ok hr6 (by rfl) GTo.m GTo.k GTo.b .nil pass0 (pa_cons (pv 2) (pa_cons (pv 11) pa_nil)))) pa_nil)) (pe_callB (call_reprD hg hr.units) (by rfl) mR (by decide +kernel) (pa_cons (pv 13) pa_nil)) (nomark _)) (pss_one (ps_ret pe_bl)) pss_nil)
      (pss_cons (ps_set (i := 15) nd rfl (Or.inl rfl) (pe_cmpR op_eq (pe_op op_fdivW (pv 13) (pv 6)) (pe_op op_fdivW (pv 14) (pv 6)) (nomark _)))
      (pss_cons (ps_set (i := 9) nd rfl (Or.inl rfl) (pe_methSS (pv 8) TT.cl mS GSm hr (by exact bSm) (fun σ => pass_no) (pa_cons (pe_call GTo.ok hr6 (by rfl) GTo.m GTo.k GTo.b .nil pass0 (pa_cons (pv 2) (pa_cons (pv 11) pa_nil))) (pa_cons (pe_call GTo.ok hr6 (by rfl) GTo.m GTo.k GTo.b .nil pass0 (pa_cons (pv 2) (pa_cons (pv 12) pa_nil))) pa_nil))))
      (pss_one (ps_if (pt_cmpR op_ne (pe_callB (call_reprD hg hr.units) (by rfl) mR (by decide +kernel) (pa_cons (pv 9) pa_nil)) (pe_callB (call_reprD hg hr.units) (by rfl) mR (by decide +kernel) (pa_cons (pv 15) pa_nil)) (nomark _)) (pss_one (ps_ret pe_bl)) pss_nil))))))))
      (pss_cons (ps_if (PW.pt (pw_or (pt_cmpR (op_eqO GE hr1 bE iE jE) (pv 8) (pv 5) (nomark _)) (pw_or1 (pt_not (pt_val (pe_call GQ.ok hr6 (by rfl) GQ.m GQ.k GQ.b .nil pass0 (pa_cons (pv 2) (pa_cons (pv 5) (pa_cons (pv 3) (pa_cons (pv 6) pa_nil)))))))))) (pss_one (ps_ret pe_bl)) pss_nil)
      (pss_cons (ps_if (pt_cmpR op_ne (pe_methSK0 (pv 8) TT.cl mS GSm hr kSm (fun σ => pass_no) (pk_cons pe_int (pk_cons pe_int pk_nil))) (pe_cmpR op_gt (pv 6) pe_int (nomark _)) (nomark _)) (pss_one (ps_ret pe_bl)) pss_nil)
      (pss_one (ps_if (PW.pt (pw_or (pt_cmpR op_ne (pe_prop (pe_make MS GIS hr5 (by rfl) TT.mgS bS2 hds2 pass_all (pa_cons pe_dnewK pa_nil)) TT.cl pP GP hr2 bP .nil pass0 rfl) pe_int (nomark _)) (pw_or1 (pt_cmpR op_ne (pe_prop (pe_make MS GIS hr5 (by rfl) TT.mgS bS2 hds2 pass_all (pa_cons (pv 5) pa_nil)) TT.cl pP GP hr2 bP .nil pass0 rfl) pe_int (nomark _))))) (pss_one (ps_ret pe_bl)) pss_nil))))))))))))))))))
      (pss_one (ps_ret pe_bl))), ?_⟩
    have off : ∀ {G : Hp} {p b : Addr} {m : Nat}, Bx G b m → G p = none → p ≠ b := fun hb hp => by
      obtain ⟨_, _, _, e, _⟩ := hb
      exact (ne_of_none e hp).symm
    have one : ∀ {H1 : Hp} {p : Addr} (o : HO), H1 p = none → ∃ H2, H2 = upd H1 p o ∧ Same H1 H2 ∧ H2 p = some o := fun o n => ⟨_, rfl, same_nw n, upd_same⟩
    refine ⟨_, rfl, a, _, rfl, .inl hS, _, _, rfl, _, _, rfl, ?_⟩
    generalize hm : (if (if (((ns.map V.int).length : Nat) : Int) < 8 then (((ns.map V.int).length : Nat) : Int) else 8) > 2 then (if (((ns.map V.int).length : Nat) : Int) < 8 then (((ns.map V.int).length : Nat) : Int) else 8) else 2) = m
    have m0 : 2 ≤ m ∧ m ≤ 8 := by
      rw [← hm]
      split <;> split <;> omega
    refine ⟨m, rfl, by omega, by omega, for_range (lo := 0) (n := m.toNat) (fun _ σ H' => ∃ v1 v2 v3 v4 v5 v6 v7 v8 v9 v10 v11 v12 v13 v14 v15 v16 : Option V, σ = [some (.ref a), v1, v2, v3, v4, v5, v6, v7, v8, v9, v10, v11, v12, v13, v14, v15, v16] ∧ Same H H')
      ⟨_, _, _, _, _, _, _, _, _, _, _, _, _, _, _, _, rfl, Same.refl H⟩ ?_ fun σ H' _ => q H'⟩
    rintro i σ H0 hi ⟨v1, v2, v3, v4, v5, v6, v7, v8, v9, v10, v11, v12, v13, v14, v15, v16, rfl, s0⟩
    generalize hD : ({ nx := _, rt := _, bk := _, ct := _ } : Ends) = DD
    have dnx : ∀ σ' H', (∃ v1 v2 v3 v4 v5 v6 v7 v8 v9 v10 v11 v12 v13 v14 v15 v16 : Option V, σ' = [some (V.ref a), v1, v2, v3, v4, v5, v6, v7, v8, v9, v10, v11, v12, v13, v14, v15, v16] ∧ Same H H') → DD.nx σ' H' := fun σ' H' h => by
      rw [← hD]
      exact h
    clear hD
    have ei : (0 + (i : Int)) = ((i : Nat) : Int) := by omega
    rw [ei]
    refine ⟨_, rfl, _, rfl, a, ns, i, rfl, s0.seq hS, by omega, fun c => ?_⟩
    refine ⟨c, rfl, fun b H3 nb B3 K3 => ?_⟩
    refine ⟨_, rfl, b, 0, rfl, B3, by omega, fun pe y z H4 ry rz h4 ne4 peb B4 K4 => ?_⟩
    refine ⟨_, rfl, _, rfl, b, 15, 3, rfl, B4, by omega, by decide, by decide, fun r H5 r0 r1 B5 K5 => ?_⟩
    have h5 := K5 _ _ peb h4
    refine ⟨r, rfl, pe, _, rfl, SqL.of h5, fun p4 n4 => ?_⟩
    obtain ⟨rs, ers, hrs⟩ : ∃ rs : List Str, cutV [V.str y, V.str z] none (some r) = rs.map V.str ∧ (rs = [] ∨ rs = [y] ∨ rs = [y, z]) := by
      rcases (show r = 0 ∨ r = 1 ∨ r = 2 by omega) with rfl | rfl | rfl
      · exact ⟨[], rfl, .inl rfl⟩
      · exact ⟨[y], rfl, .inr (.inl rfl)⟩
      · exact ⟨[y, z], rfl, .inr (.inr rfl)⟩
    rw [ers]
    obtain ⟨H6, e, s6, t6⟩ := one (.lst (rs.map V.str)) n4
    rw [← e]
    clear e
    have lrs : rs.length ≤ 2 := by rcases hrs with rfl | rfl | rfl <;> simp
    have rrs : ∀ u ∈ rs, Rt u := by
      intro u hu
      rcases hrs with rfl | rfl | rfl
      · cases hu
      · rw [List.mem_singleton.mp hu]
        exact ry
      · rcases List.mem_cons.mp hu with rfl | hu
        · exact ry
        · rw [List.mem_singleton.mp hu]
          exact rz
    have B6 := B5.same s6
    have K36 : Kp b H0 H6 := K3.trans (K4.trans (K5.trans (Kp.same s6)))
    have p4b : p4 ≠ b := off B5 n4
    -- the sizes
    refine ⟨_, rfl, p4, rfl, ⟨_, SqL.of t6⟩, fun D nD => ?_⟩
    have Db : D ≠ b := off B6 nD
    refine lc_list (K := K) (a := p4) (xs := rs.map V.str) (fun i H' => Bx H' b (16 + 6 * i) ∧ Kp b H6 H' ∧ ∃ (ts : List Addr) (ps : List (Key × V)), H' D = some (.lst (ts.map V.ref)) ∧ ts.length = i ∧ Paired (fun (t : Addr) (q : Key × V) => H' t = some (.tup [kV q.1, q.2])) ts ps ∧
      ps.map (·.1) = (rs.take i).map (fun u => (Sum.inr u : Key)) ∧ ∀ p ∈ ps, ∃ n : Int, p.2 = .int n ∧ 0 ≤ n ∧ n < 10 ^ 50)
      ⟨B6.upd nD, Kp.fresh nD, [], [], upd_same, rfl, .nil, rfl, fun _ h => nomatch h⟩ (fun i H' _ h => SqL.of (h.2.1 _ _ p4b t6)) ?_ ?_
    · rintro i2 x H7 hx ⟨B7, K7, ts, ps, hD, lts, pr, ek, ips⟩
      have li : i2 < rs.length := by
        have := List.getElem?_eq_some_iff.mp hx
        obtain ⟨h, _⟩ := this
        rw [List.length_map] at h
        exact h
      have hrx : rs[i2]? = some rs[i2] := List.getElem?_eq_getElem li
      have ex : x = .str rs[i2] := by
        rw [List.getElem?_map, hrx] at hx
        exact (Option.some.inj hx).symm
      subst ex
      refine ⟨rfl, ?_⟩
      unfold tYes
      refine iteT ⟨_, rfl, _, rfl, b, 16 + 6 * i2, rfl, B7, by omega, fun k H8 k0 k1 B8 K8 => ⟨(by show 2 ≤ sizeLine; decide), fun T nT => ?_⟩⟩
      have hD8 := K8 _ _ Db hD
      have s9 : Same H8 (upd H8 T (.tup [.str rs[i2], .int k])) := same_nw nT
      have t9 : upd H8 T (.tup [.str rs[i2], .int k]) T = some (.tup [.str rs[i2], .int k]) := upd_same
      generalize upd H8 T (.tup [.str rs[i2], .int k]) = H9 at s9 t9
      have hD9 := s9 _ _ hD8
      have B9 := B8.same s9
      have TD : T ≠ D := fun z => by
        rw [z, hD9] at t9
        cases t9
      refine ⟨_, hD9, ?_, ?_, ?_, ts ++ [T], ps ++ [(.inr rs[i2], .int k)], ?_, ?_, ?_, ?_, ?_⟩
      · rw [List.length_map]
        exact Nat.lt_of_le_of_lt (show ts.length ≤ 2 by omega) (by decide)
      · obtain ⟨w1, w2, w3, e, h⟩ := B9.more (show 16 + 6 * i2 + 6 ≤ 16 + 6 * (i2 + 1) by omega)
        exact ⟨w1, w2, w3, by rw [upd_ne Db.symm]; exact e, h⟩
      · intro p o np e
        rw [upd_ne (fun z => by rw [z, nD] at e; cases e)]
        exact s9 _ _ (K8 p o np (K7 p o np e))
      · rw [upd_same, List.map_append]
        rfl
      · rw [List.length_append, lts]
        rfl
      · refine paired_snoc ?_ (paired_imp pr fun t q h => ?_)
        · rw [upd_ne TD]
          exact t9
        · have nt : t ≠ b := fun z => by
            obtain ⟨_, _, _, e, _⟩ := B7
            rw [z, e] at h
            cases h
          rw [upd_ne (fun z => by rw [z, hD] at h; cases h)]
          exact s9 _ _ (K8 _ _ nt h)
      · rw [List.map_append, ek, List.take_succ, hrx, List.map_append]
        rfl
      · intro p hp
        rcases List.mem_append.mp hp with h | h
        · exact ips p h
        · rw [List.mem_singleton.mp h]
          exact ⟨k, rfl, k0, k1⟩
    · rintro H7 ⟨B7, K7, ts, ps, hD, lts, pr, ek, ips⟩
      rw [List.length_map] at B7 lts ek
      rw [List.take_length] at ek
      refine ⟨D, ts, ps, rfl, SqL.of hD, paired_imp pr fun t q h => SqT.of h, fun dW nW => ?_⟩
      obtain ⟨shape, hts⟩ := shp6 hrs ek ips
      obtain ⟨H8, e, s8, t8⟩ := one (.dK (mergeK [] ps)) nW
      rw [← e]
      clear e
      generalize mergeK [] ps = kvs at shape hts t8
      clear ek ips pr hD lts
      have B8 := B7.same s8
      -- the page
      refine ⟨_, rfl, b, 16 + 6 * rs.length, 40, rfl, B8, by omega, by decide, by decide, fun g1 H9 a1 c1 B9 K9 => ⟨_, _, rfl, rfl, ?_⟩⟩
      refine ⟨_, _, rfl, rfl, ⟨by decide, by decide, by decide⟩, _, rfl, b, 16 + 6 * rs.length + 1, 99, rfl, B9, by omega, by decide, by decide, fun g2 H10 a2 c2 B10 K10 => ⟨_, _, rfl, rfl, (by show 3 ≤ sizeLine; decide), fun lp nlp => ?_⟩⟩
      obtain ⟨H11, e, s11, t11⟩ := one (.lst [V.int (1 + g1), V.int 32, V.int (10 ^ (20 : Int).toNat + g2)]) nlp
      rw [← e]
      clear e
      refine ⟨_, rfl, b, 16 + 6 * rs.length + 2, 3, rfl, B10.same s11, by omega, by decide, by decide, fun g3 H12 a3 c3 B12 K12 => ?_⟩
      obtain ⟨mv, hmv, hmm⟩ := atI_in (l := [V.int (1 + g1), V.int 32, V.int (10 ^ (20 : Int).toNat + g2)]) (i := g3) a3 c3
      refine ⟨lp, _, _, _, rfl, rfl, SqL.of (K12 _ _ (off B10 nlp) t11), hmv, ?_⟩
      obtain ⟨pg, rfl, pg1, pg2⟩ : ∃ pg : Int, mv = .int pg ∧ 1 ≤ pg ∧ pg < 10 ^ 30 := by
        have e20 : (10 : Int) ^ (20 : Int).toNat = 100000000000000000000 := by decide
        have e30 : (10 : Int) ^ 30 = 1000000000000000000000000000000 := by decide
        simp only [List.mem_cons, List.not_mem_nil, or_false] at hmm
        rcases hmm with rfl | rfl | rfl
        · exact ⟨_, rfl, by omega, by rw [e30]; omega⟩
        · exact ⟨_, rfl, by omega, by rw [e30]; omega⟩
        · exact ⟨_, rfl, by rw [e20]; omega, by rw [e20, e30]; omega⟩
      clear hmv hmm
      have dWb : dW ≠ b := off B7 nW
      have K812 : Kp b H8 H12 := K9.trans (K10.trans ((Kp.same s11).trans K12))
      have t12 := K812 _ _ dWb t8
      have B12' := B12
      have h12 : H12 p4 = some (.lst (rs.map V.str)) := K812 _ _ p4b (s8 _ _ (K7 _ _ p4b t6))
      have e12 : H12 pe = some (.lst [V.str y, V.str z]) := K812 _ _ peb (s8 _ _ (K7 _ _ peb (s6 _ _ h5)))
      -- what is given
      refine ⟨_, rfl, dW, kvs, rfl, t12, fun H13 lp2 ts2 s13 nlp2 nts2 lpts2 hlp2 hpair2 => ⟨lp2, _, rfl, SqL.of hlp2, fun rp nrp => ?_⟩⟩
      obtain ⟨H14, e, s14, t14⟩ := one (.lst (ts2.map V.ref).reverse) nrp
      rw [← e]
      clear e
      rw [← List.map_reverse] at t14
      refine ⟨rp, ts2.reverse, kvs.reverse, rfl, SqL.of t14, paired_rev (paired_imp hpair2 fun t q h => SqT.of (s14 _ _ h)), fun gv ngv => ?_⟩
      obtain ⟨H15, e, s15, t15⟩ := one (.dK (mergeK [] kvs.reverse)) ngv
      rw [← e]
      clear e
      have two := shp_two ry rz shape
      generalize mergeK [] kvs.reverse = gvs at two t15
      have s1215 : Same H12 H15 := Same.trans (fun q o h => s13 q o h) (s14.trans s15)
      -- the setting
      refine ⟨_, rfl, _, rfl, rfl, rfl, fun st dx nst ndx _ => ?_⟩
      have sM : Same H15 (upd (upd H15 dx (.own st)) st (.ins S dx [])) := fun r o h => by
        rw [upd_ne (ne_of_none h nst), upd_ne (ne_of_none h ndx)]
        exact h
      refine ⟨st, dx, .ref gv, .int pg, some (gv, gvs), rfl, upd_same, .inr ⟨gv, gvs, rfl, rfl, sM _ _ t15, two.szr.ok gv⟩, .int pg, .inl ⟨two.szr.good, pg, rfl, pg1, fun H16 u16 stn => ⟨rfl, ?_⟩⟩⟩
      obtain ⟨dx2, sd, st16, sd16, nsd⟩ := stn gv gvs rfl
      have s1516 : Same H15 H16 := fun r o h => u16 r o (ne_of_none h nst) (sM _ _ h)
      have sdgv : sd ≠ gv := fun z => by
        rw [z, sM _ _ t15] at nsd
        cases nsd
      have stgv : st ≠ gv := (ne_of_none t15 nst).symm
      clear stn u16
      have t16 := s1516 _ _ t15
      have lg := two.szr.1
      refine ⟨_, rfl, gv, _, rfl, DPut.k (k := .inr "Zz") t16 (Nat.lt_of_le_of_lt lg (by decide)), ?_⟩
      obtain ⟨H17, eH17⟩ : ∃ H17, H17 = upd H16 gv (.dK (putK gvs (.inr "Zz") (.int 5))) := ⟨_, rfl⟩
      rw [← eH17]
      have k17 : ∀ q o, q ≠ gv → H16 q = some o → H17 q = some o := fun q o n e => by
        rw [eH17, upd_ne n]
        exact e
      have st17 : H17 st = some (.ins S dx2 (stF sd pg)) := k17 _ _ stgv st16
      have sd17 : H17 sd = some (.dK gvs) := k17 _ _ sdgv sd16
      have old : ∀ q o, H12 q = some o → H17 q = some o := fun q o e => k17 q o (ne_of_none (Same.trans (fun q o h => s13 q o h) s14 _ _ e) ngv) (s1516 _ _ (s1215 _ _ e))
      have stg17 : Stg S H17 st gvs pg := ⟨dx2, sd, st17, sd17⟩
      clear eH17 k17
      refine ⟨_, rfl, st, dx2, _, rfl, st17, stl_no (by decide +kernel) (by decide +kernel), st, gvs, pg, rfl, stg17, fun td ntd => ?_⟩
      refine ⟨_, rfl, td, _, rfl, DPut.k (k := .inr "Zz") upd_same (Nat.lt_of_le_of_lt lg (by decide)), ?_⟩
      rw [upd_upd]
      have s18 : Same H17 (upd H17 td (.dK (putK gvs (.inr "Zz") (.int 6)))) := same_nw ntd
      generalize upd H17 td (.dK (putK gvs (.inr "Zz") (.int 6))) = H18 at s18
      have stg18 := stg17.same s18
      have old18 : ∀ q o, H12 q = some o → H18 q = some o := fun q o e => s18 _ _ (old q o e)
      refine ⟨_, rfl, st, dx2, _, rfl, s18 _ _ st17, stl_no (by decide +kernel) (by decide +kernel), st, gvs, pg, rfl, stg18, fun te nte => ?_⟩
      obtain ⟨H19, e, s19, t19⟩ := one (.dK gvs) nte
      rw [← e]
      clear e
      have old19 : Same H12 H19 := fun q o e => s19 _ _ (old18 q o e)
      have stg19 := stg18.same s19
      obtain ⟨dx3, sd3, st19, sd19⟩ := id stg19
      have lpg : pg.natAbs.log2 < 1920 := by
        have e30 : (10 : Int) ^ 30 = 1000000000000000000000000000000 := by decide
        rw [e30] at pg2
        exact log_small (by omega) (by omega)
      refine ⟨_, rfl, te, dW, gvs, kvs, rfl, rfl, t19, old19 _ _ t12, two.len, two.eqs, _, rfl, iteF ?_⟩
      refine ⟨_, rfl, st, dx3, _, rfl, st19, st, gvs, pg, rfl, stg19, ⟨_, .int _, rfl, .int _, by simpa [PyData.showable] using lpg, rfl, (by simp [PyData.depth]), int_text_fits lpg, ?_⟩⟩
      refine ⟨_, rfl, ⟨_, .int _, rfl, .int _, by simpa [PyData.showable] using lpg, rfl, (by simp [PyData.depth]), int_text_fits lpg, ⟨rfl, _, rfl, ?_⟩⟩⟩
      rw [ne_not6]
      refine iteF ?_
      -- what is in it
      refine ⟨_, rfl, _, rfl, _, rfl, st, dW, pe, gvs, kvs, pg, y, z, rfl, stg19, fun z => two.same _, old19 _ _ t12, old19 _ _ e12, ry, rz, fun H20 s20 => ?_⟩
      have s1220 : Same H12 H20 := Same.trans old19 s20
      have B20 := B12'.same s1220
      have stg20 := stg19.same s20
      have lpg2 : pg.natAbs.log2 < 9000 := Nat.lt_trans lpg (by decide)
      have LL := lrs
      refine ⟨_, rfl, iteF ⟨6, rfl, by decide, by decide, for_range (lo := 0) (n := 6) (fun j σ H' => ∃ x9 x10 x11 x12 x13 x14 x15 : Option V, σ = [some (.ref a), some (.int i), some (.ref b), some (.ref pe), some (.ref p4), some (.ref dW), some (.int pg), some (.ref gv), some (.ref st), x9, x10, x11, x12, x13, x14, x15, v16] ∧ Bx H' b (31 + 10 * j) ∧ Kp b H20 H')
        ⟨_, _, _, _, _, _, _, rfl, B20.more (by omega), fun q o _ e => e⟩ ?_ ?_⟩⟩
      · rintro j σ G0 hj ⟨x9, x10, x11, x12, x13, x14, x15, rfl, BG, KG⟩
        generalize hDE : ({ nx := _, rt := _, bk := _, ct := _ } : Ends) = DE
        have enx : ∀ σ' H', (∃ x9 x10 x11 x12 x13 x14 x15 : Option V, σ' = [some (.ref a), some (.int i), some (.ref b), some (.ref pe), some (.ref p4), some (.ref dW), some (.int pg), some (.ref gv), some (.ref st), x9, x10, x11, x12, x13, x14, x15, v16] ∧ Bx H' b (31 + 10 * (j + 1)) ∧ Kp b H20 H') → DE.nx σ' H' := fun σ' H' h => by
          rw [← hDE]
          exact h
        clear hDE
        have g4 := KG _ _ p4b (s1220 _ _ h12)
        refine ⟨_, rfl, _, rfl, b, p4, _, rs, rfl, BG, by omega, g4, lrs, p4b, fun q1 z1 k1 G1 P1 g1 n1 B1 K1 => ⟨_, rfl, _, rfl, b, p4, _, rs, rfl, B1, by omega, K1 _ _ p4b g4, lrs, p4b, fun q2 z2 k2 G2 P2 g2 n2 B2 K2 => ⟨_, _, rfl, ?_⟩⟩⟩
        obtain ⟨pr1, w1, wd1, wk1, lo1, hi1⟩ := wt6 two hts rrs P1
        obtain ⟨pr2, w2, wd2, wk2, lo2, hi2⟩ := wt6 two hts rrs P2
        have q1b : q1 ≠ b := off BG n1
        have q2b : q2 ≠ b := off B1 n2
        have K02 : Kp b H20 G2 := KG.trans (K1.trans K2)
        have gd2 := K02 _ _ dWb (s1220 _ _ t12)
        have g12 := K2 _ _ q1b g1
        refine ⟨_, rfl, _, rfl, dW, q1, kvs, z1, k1, w1, rfl, gd2, g12, wd1, _, rfl, _, rfl, dW, q2, kvs, z2, k2, w2, rfl, gd2, g2, wd2, _, _, rfl, ?_⟩
        have lw1 := log_small lo1 hi1
        have bst : st ≠ b := fun z => by
          obtain ⟨_, _, _, e, _⟩ := B20
          obtain ⟨_, _, h1, _⟩ := stg20
          rw [z, e] at h1
          cases h1
        have bsd : ∀ {d0 : Addr} {l : List (Key × V)}, H20 d0 = some (.dK l) → d0 ≠ b := fun h1 z => by
          obtain ⟨_, _, _, e, _⟩ := B20
          rw [z, e] at h1
          cases h1
        have stgK : ∀ {G : Hp}, Kp b H20 G → Stg S G st gvs pg := fun k => by
          obtain ⟨d1, d2, h1, h2⟩ := stg20
          exact ⟨d1, d2, k _ _ bst h1, k _ _ (bsd h2) h2⟩
        refine ⟨_, rfl, _, rfl, _, rfl, b, q1, _, z1, k1, rfl, B2, by omega, g12, pr1, fun v G3 pv3 fr3 B3 K3 => ?_⟩
        have K03 := K02.trans K3
        obtain ⟨e1, e2, h31, h32⟩ := stgK K03
        refine ⟨st, e1, _, rfl, h31, st, v, gvs, pg, some w1, rfl, stgK K03, two.kint, by rw [← wk1]; exact pv3.plv gvs, fun n en G4 s4 => ?_, fun en => nomatch en⟩
        cases en
        refine ⟨_, .int _, rfl, .int _, by simpa [PyData.showable] using lw1, rfl, (by simp [PyData.depth]), int_text_fits lw1, ⟨_, rfl, ⟨_, .int _, rfl, .int _, by simpa [PyData.showable] using lw1, rfl, (by simp [PyData.depth]), int_text_fits lw1, ⟨rfl, _, rfl, ?_⟩⟩⟩⟩
        rw [ne_not6]
        refine iteF ?_
        refine ⟨_, rfl, _, rfl, _, _, rfl, rfl, ⟨by omega, lpg2⟩, _, rfl, _, rfl, _, _, rfl, rfl, ⟨by omega, lpg2⟩, rfl, ?_⟩
        have ed : decide (V.int (w1 / pg) = V.int (w2 / pg)) = decide (w1 / pg = w2 / pg) := decide_eq_decide.mpr ⟨fun x => V.int.inj x, fun x => by rw [x]⟩
        rw [ed]
        have B4 := B3.same s4
        have K04 := K03.trans (Kp.same s4)
        have g14 := (K3.trans (Kp.same s4)) _ _ q1b g12
        have g24 := (K3.trans (Kp.same s4)) _ _ q2b g2
        obtain ⟨e1, e2, h31, h32⟩ := stgK K04
        refine ⟨_, rfl, st, e1, _, rfl, h31, stl_no (by decide +kernel) (by decide +kernel), ?_⟩
        refine ⟨_, rfl, _, rfl, b, q1, _, z1, k1, rfl, B4, by omega, g14, pr1, fun v5 G5 pv5 fr5 B5 K5 => ⟨_, rfl, _, rfl, b, q2, _, z2, k2, rfl, B5, by omega, K5 _ _ q2b g24, pr2, fun v6 G6 pv6 fr6 B6 K6 => ?_⟩⟩
        have K06 := K04.trans (K5.trans K6)
        have pv56 : Pv6 K C G6 v5 z1 k1 := pv5.at fun a e o h => K6 _ _ (fr5 a e).1 h
        refine ⟨st, v5, v6, gvs, pg, some w1, some w2, rfl, stgK K06, two.kint, by omega, lpg2, by rw [← wk1]; exact pv56.plv gvs, by rw [← wk2]; exact pv6.plv gvs, fun n m e1 e2 G7 s7 => ?_, fun e => (nomatch e), fun n e1 e2 => nomatch e2⟩
        cases e1
        cases e2
        have hb : ∀ {bb : Bool}, (PyData.shown (.bool bb)).length ≤ sizeLine := fun {bb} => by cases bb <;> decide +kernel
        refine ⟨_, rfl, ⟨_, .bool _, rfl, .bl _, rfl, rfl, (by simp [PyData.depth]), hb, _, rfl, ⟨_, .bool _, rfl, .bl _, rfl, rfl, (by simp [PyData.depth]), hb, ⟨rfl, _, rfl, ?_⟩⟩⟩⟩
        rw [ne_not6]
        exact iteF (enx _ _ ⟨_, _, _, _, _, _, _, rfl, (B6.same s7).more (by omega), K06.trans (Kp.same s7)⟩)
      · rintro σ G0 ⟨x9, x10, x11, x12, x13, x14, x15, rfl, BG, KG⟩
        have bst : st ≠ b := fun z => by
          obtain ⟨_, _, _, e, _⟩ := B20
          obtain ⟨_, _, h1, _⟩ := stg20
          rw [z, e] at h1
          cases h1
        have bsd : ∀ {d0 : Addr} {l : List (Key × V)}, H20 d0 = some (.dK l) → d0 ≠ b := fun h1 z => by
          obtain ⟨_, _, _, e, _⟩ := B20
          rw [z, e] at h1
          cases h1
        have stgK : ∀ {G : Hp}, Kp b H20 G → Stg S G st gvs pg := fun k => by
          obtain ⟨d1, d2, h1, h2⟩ := stg20
          exact ⟨d1, d2, k _ _ bst h1, k _ _ (bsd h2) h2⟩
        have stg0 := stgK KG
        have nfO : PySem.W.notFirst K S (.type "dict") = true := by
          unfold PySem.W.notFirst
          rw [nfD]
          simp
        obtain ⟨e1, e2, h31, h32⟩ := id stg0
        have d0 := KG _ _ dWb (s1220 _ _ t12)
        have p0 := KG _ _ peb (s1220 _ _ e12)
        refine ⟨_, rfl, _, rfl, st, e1, _, rfl, h31, ⟨_, .base (.dK d0), nfO⟩, st, gvs, pg, stg0, two.szr.ints, .inr ⟨.ref dW, rfl, ⟨_, .base (.dK d0), kiD⟩, _, rfl, _, rfl, iteF ?_⟩⟩
        refine ⟨_, rfl, _, rfl, _, rfl, _, rfl, b, dW, pe, kvs, pg, y, z, rfl, d0, p0, ry, rz, pg1, shp_eq shape, fun G1 s1 => ⟨_, rfl, iteF ?_⟩⟩
        have stg1 := stg0.same s1
        obtain ⟨e1, e2, h31, h32⟩ := id stg1
        refine ⟨_, rfl, st, e1, _, rfl, h31, stl_no (by decide +kernel) (by decide +kernel), rfl, st, .int 0, .int 1, gvs, pg, some 0, some 1, rfl, stg1, two.kint, by omega, lpg2, .inr ⟨⟨.int 0, _, .base (.int 0), N.int⟩, rfl⟩, .inr ⟨⟨.int 1, _, .base (.int 1), N.int⟩, rfl⟩, fun n m en em G2 s2 => ?_, fun e => (nomatch e), fun n e1 e2 => nomatch e2⟩
        cases en
        cases em
        refine ⟨_, rfl, _, _, rfl, rfl, rfl, _, rfl, ?_⟩
        have e01 : decide ((0 : Int) / pg = 1 / pg) = decide (pg > 1) := by
          refine decide_eq_decide.mpr ?_
          rw [Int.zero_ediv]
          by_cases x : pg = 1
          · rw [x]
            decide
          · rw [Int.ediv_eq_zero_of_lt (by omega) (by omega)]
            exact ⟨fun _ => by omega, fun _ => rfl⟩
        rw [e01, ne_not6]
        refine iteF ?_
        refine fun nd1 nnd1 => fun x1 dx1 nx1 ndx1 _ => ?_
        have mk : ∀ (e0 : Addr) (l0 : List (Key × V)) (G : Hp) (x d : Addr), G x = none → G d = none → G e0 = some (.dK l0) → upd (upd G d (.own x)) x (.ins S d []) e0 = some (.dK l0) := fun e0 l0 G x d nx nd h => by
          rw [upd_ne (ne_of_none h nx), upd_ne (ne_of_none h nd)]
          exact h
        have sm : ∀ {G G' : Hp} {x dx : Addr} {o o2 : HO}, G x = none → G dx = none → (∀ q u, q ≠ x → (upd (upd G dx o) x o2) q = some u → G' q = some u) → Same G G' := fun nx nd u r o h => u r o (ne_of_none h nx) (by
          rw [upd_ne (ne_of_none h nx), upd_ne (ne_of_none h nd)]
          exact h)
        refine ⟨x1, dx1, .ref nd1, .int 32, some (nd1, []), rfl, upd_same, .inr ⟨nd1, [], rfl, rfl, mk _ _ _ _ _ nx1 ndx1 upd_same, fun kv h => nomatch h⟩, .int 32, .inl ⟨(show sizesB [] = true by decide +kernel), 32, rfl, by decide, fun G3 u3 sn3 => ⟨rfl, ?_⟩⟩⟩
        have s3 : Same G2 G3 := Same.trans (same_nw nnd1) (sm nx1 ndx1 u3)
        have sg3 := (sn3 _ _ rfl).stg
        obtain ⟨f1, f2, h31, h32⟩ := id sg3
        refine ⟨x1, f1, _, rfl, h31, x1, [], 32, rfl, sg3, rfl, _, rfl, iteF ?_⟩
        have K03 : Kp b H20 G3 := KG.trans ((Kp.same s1).trans ((Kp.same s2).trans (Kp.same s3)))
        have d3 := K03 _ _ dWb (s1220 _ _ t12)
        refine ⟨_, rfl, fun x2 dx2 nx2 ndx2 _ => ?_⟩
        refine ⟨x2, dx2, .ref dW, .int 32, some (dW, kvs), rfl, upd_same, .inr ⟨dW, kvs, rfl, rfl, mk _ _ _ _ _ nx2 ndx2 d3, two.szk.ok dW⟩, .int 32, .inl ⟨two.szk.good, 32, rfl, by decide, fun G4 u4 sn4 => ⟨rfl, ?_⟩⟩⟩
        have s4 : Same G3 G4 := sm nx2 ndx2 u4
        have sg4 := (sn4 _ _ rfl).stg
        obtain ⟨f1, f2, h31, h32⟩ := id sg4
        refine ⟨x2, f1, _, rfl, h31, x2, kvs, 32, rfl, sg4, rfl, _, rfl, iteF ?_⟩
        refine dnx _ _ ⟨_, _, _, _, _, _, _, _, _, _, _, _, _, _, _, _, rfl, ?_⟩
        have KK : Kp b H0 G4 := K36.trans (K7.trans ((Kp.same s8).trans (K812.trans ((Kp.same s1220).trans (K03.trans (Kp.same s4))))))
        exact s0.trans (same_of6 nb KK)
end
end Mz
set_option Elab.async false
set_option linter.all false
set_option maxRecDepth 100000
set_option maxHeartbeats 4000000
namespace Mz
open PySem PySem.Spec PyProof.Rows L2
theorem kb_one {K : PySem.W.Frag} {x qual : Str} {st : Stmt} {f : Addr} {fd : FuncData} {ps : List Str} (F : Fun K x qual st f fd) (n : Nat) (ks : List Str)
    (h : ∀ (kV doc pm : Value) (an : Option Addr) (cdv ct : Value) (us ws : List Value), us.length = n → ws.length = ks.length → bindArgs (PySem.W.fnOf x qual (defArgs st) (defBody st) (defScope st) .none kV doc pm an cdv ct) ⟨us, ks.zip ws⟩ = pure (ps.zip (us ++ ws))) :
    KBn K fd ps n ks (fun us ws => us ++ ws) (fun vs zs => vs ++ zs) := by
  obtain ⟨oc, od, kV, doc, pm, an, cdv, ct, osl, rfl, lk, hcd⟩ := F.ex
  exact ⟨fun s us ws _ hu hw => .of_eq (h kV doc pm an cdv ct us ws hu hw), fun r1 r2 => r1.append r2⟩
theorem kb_rev {K : PySem.W.Frag} {x qual : Str} {st : Stmt} {f : Addr} {fd : FuncData} {ps : List Str} (F : Fun K x qual st f fd) (n : Nat) (ks : List Str)
    (h : ∀ (kV doc pm : Value) (an : Option Addr) (cdv ct : Value) (us ws : List Value), us.length = n → ws.length = ks.length → bindArgs (PySem.W.fnOf x qual (defArgs st) (defBody st) (defScope st) .none kV doc pm an cdv ct) ⟨us, ks.zip ws⟩ = pure (ps.zip (us ++ ws.reverse))) :
    KBn K fd ps n ks (fun us ws => us ++ ws.reverse) (fun vs zs => vs ++ zs.reverse) := by
  obtain ⟨oc, od, kV, doc, pm, an, cdv, ct, osl, rfl, lk, hcd⟩ := F.ex
  exact ⟨fun s us ws _ hu hw => .of_eq (h kV doc pm an cdv ct us ws hu hw), fun r1 r2 => r1.append r2.reverse⟩
theorem kit_own {K : PySem.W.Frag} {C : Addr} {T : String} (hm : PySem.W.mroIn K C (.type T) = some false) (h2 : PySem.W.kitMeta T = true) : PySem.W.kitOne K (.ref C) (.type T) = some false := by
  unfold PySem.W.kitOne
  rw [if_neg (by intro e; cases e)]
  show (if PySem.W.kitMeta T = true then PySem.W.mroIn K C (.type T) else none) = some false
  rw [if_pos h2, hm]
theorem kit_ref {K : PySem.W.Frag} {C : Addr} {T : String} {b : Bool} (hdct : PySem.W.hasDictIn K C = true) (ht : PySem.W.typeIn K (.ref C) = some (.type "type")) (h4 : PySem.W.subIn K (.type T) (.ref C) = some b) : PySem.W.kitOne K (.type T) (.ref C) = some b := by
  obtain ⟨cd, hc, _⟩ := PySem.W.any_some hdct
  unfold PySem.W.kitOne
  rw [if_neg (by intro e; cases e)]
  show (if ((PySem.W.clsIn K C).isSome && PySem.W.typeIn K (.ref C) == some (.type "type")) = true then PySem.W.subIn K (.type T) (.ref C) else none) = some b
  rw [if_pos (by rw [hc, ht] <;> rfl)]
  exact h4
/-! a written dict from texts to ints -/
def entOf (P : Params) (q : Str × Int × Tok × Tok) : DictEntry := ⟨PyData.keyHash P q.1, .str q.1 q.2.2.1, .int q.2.1 q.2.2.2⟩
def lookF (z : Str) : List (Str × Int × Tok × Tok) → Option Int
  | [] => none
  | q :: r => if z = q.1 then some q.2.1 else lookF z r
theorem lit_of {P : Params} : ∀ l : List (Str × Int × Tok × Tok), PySem.W.KeysLit P (l.map (entOf P))
  | [] => trivial
  | q :: r => ⟨⟨q.1, q.2.2.1, rfl, rfl⟩, lit_of r⟩
theorem find_ent {P : Params} {z : Str} : ∀ l : List (Str × Int × Tok × Tok), (lookF z l = none ∧ (l.map (entOf P)).find? (fun x => x.key.isStr z) = none) ∨
    ∃ i t e, lookF z l = some i ∧ (l.map (entOf P)).find? (fun x => x.key.isStr z) = some e ∧ e.val = .int i t
  | [] => .inl ⟨rfl, rfl⟩
  | q :: r => by
    by_cases h : z = q.1
    · refine .inr ⟨q.2.1, q.2.2.2, entOf P q, if_pos h, ?_, rfl⟩
      rw [List.map_cons, List.find?_cons_of_pos]
      show (q.1 == z) = true
      rw [h]
      exact beq_self_eq_true _
    · have e1 : lookF z (q :: r) = lookF z r := if_neg h
      have e2 : ((q :: r).map (entOf P)).find? (fun x => x.key.isStr z) = (r.map (entOf P)).find? (fun x => x.key.isStr z) := by
        rw [List.map_cons, List.find?_cons_of_neg]
        show ¬ (q.1 == z) = true
        intro x
        exact h (beq_iff_eq.mp x).symm
      rw [e1, e2]
      exact find_ent r
theorem tab_of {K : PySem.W.Frag} {w : World} {d : Addr} {es : Array DictEntry} {n : Nat} {l : List (Str × Int × Tok × Tok)} {f : Str → Option Int} (h : K.lookup d = some ⟨.type "dict", none, .dict es n, #[]⟩) (hl : es.toList = l.map (entOf w.params)) (low : (d == sysModules) = false)
    (hf : ∀ z, f z = lookF z l) : Tab K w d f := by
  refine ⟨es, n, ⟨h, by rw [hl]; exact lit_of l, low⟩, fun z => ?_⟩
  have nr : (es.toList.any fun x => x.refKey) = false := by
    rw [hl]
    rw [List.any_eq_false]
    intro e he
    obtain ⟨q, _, rfl⟩ := List.mem_map.mp he
    exact Bool.false_ne_true
  unfold PySem.W.nsIn
  rw [h]
  dsimp only
  rcases find_ent (P := w.params) (z := z) l with ⟨e1, e2⟩ | ⟨i, t, e, e1, e2, e3⟩
  · rw [hl, e2]
    rw [hl] at nr
    refine ⟨none, ?_, .inl ⟨(hf z).trans e1, rfl⟩⟩
    dsimp only
    rw [nr]
    rfl
  · rw [hl, e2]
    exact ⟨some (.int i t), by rw [← e3], .inr ⟨i, t, (hf z).trans e1, rfl⟩⟩
theorem all_mk {l : PySem.W.OpenLaw} {w : World} {K : PySem.W.Frag} {h : Heap} {mg : Str → Option Value} {fa : Addr} (X : K.In h) (G : h.Ns mainGlobals mg) (hfa : mg "law" = some (.ref fa))
    {cP cX cI cS cG cM po pb ph pg2 fI tD kD kG fra dtn dts : Addr} {ro rb rh rg : List Value} {fi ri : Option Value}
    {fwh : Addr} {odwh anwh : Option Addr} {slwh : Array (Option Value)} {ocwh kVwh dcwh pmwh cdwh ctwh : Value}
    {fii : Addr} {odii anii : Option Addr} {slii : Array (Option Value)} {ocii kVii dcii pmii cdii ctii : Value}
    {ffr : Addr} {odfr anfr : Option Addr} {slfr : Array (Option Value)} {ocfr kVfr dcfr pmfr cdfr ctfr : Value}
    {fna : Addr} {odna anna : Option Addr} {slna : Array (Option Value)} {ocna kVna dcna pmna cdna ctna : Value}
    {fle : Addr} {odle anle : Option Addr} {slle : Array (Option Value)} {ocle kVle dcle pmle cdle ctle : Value}
    {fpt : Addr} {odpt anpt : Option Addr} {slpt : Array (Option Value)} {ocpt kVpt dcpt pmpt cdpt ctpt : Value}
    {far : Addr} {odar anar : Option Addr} {slar : Array (Option Value)} {ocar kVar dcar pmar cdar ctar : Value}
    {fce : Addr} {odce ance : Option Addr} {slce : Array (Option Value)} {occe kVce dcce pmce cdce ctce : Value}
    {fbo : Addr} {odbo anbo : Option Addr} {slbo : Array (Option Value)} {ocbo kVbo dcbo pmbo cdbo ctbo : Value}
    {fta : Addr} {odta anta : Option Addr} {slta : Array (Option Value)} {octa kVta dcta pmta cdta ctta : Value}
    {fpr : Addr} {odpr anpr : Option Addr} {slpr : Array (Option Value)} {ocpr kVpr dcpr pmpr cdpr ctpr : Value}
    {fto : Addr} {odto anto : Option Addr} {slto : Array (Option Value)} {octo kVto dcto pmto cdto ctto : Value}
    {frt : Addr} {odrt anrt : Option Addr} {slrt : Array (Option Value)} {ocrt kVrt dcrt pmrt cdrt ctrt : Value}
    {fsz : Addr} {odsz ansz : Option Addr} {slsz : Array (Option Value)} {ocsz kVsz dcsz pmsz cdsz ctsz : Value}
    {fwo : Addr} {odwo anwo : Option Addr} {slwo : Array (Option Value)} {ocwo kVwo dcwo pmwo cdwo ctwo : Value}
    {fir : Addr} {odir anir : Option Addr} {slir : Array (Option Value)} {ocir kVir dcir pmir cdir ctir : Value}
    {fer : Addr} {oder aner : Option Addr} {sler : Array (Option Value)} {ocer kVer dcer pmer cder cter : Value}
    {fla : Addr} {odla anla : Option Addr} {slla : Array (Option Value)} {ocla kVla dcla pmla cdla ctla : Value}
    {fmo : Addr} {odmo anmo : Option Addr} {slmo : Array (Option Value)} {ocmo kVmo dcmo pmmo cdmo ctmo : Value}
    {fmb : Addr} {odmb anmb : Option Addr} {slmb : Array (Option Value)} {ocmb kVmb dcmb pmmb cdmb ctmb : Value}
    {fmh : Addr} {odmh anmh : Option Addr} {slmh : Array (Option Value)} {ocmh kVmh dcmh pmmh cdmh ctmh : Value}
    {fmd : Addr} {odmd anmd : Option Addr} {slmd : Array (Option Value)} {ocmd kVmd dcmd pmmd cdmd ctmd : Value}
    {fmx : Addr} {odmx anmx : Option Addr} {slmx : Array (Option Value)} {ocmx kVmx dcmx pmmx cdmx ctmx : Value}
    {fmi : Addr} {odmi anmi : Option Addr} {slmi : Array (Option Value)} {ocmi kVmi dcmi pmmi cdmi ctmi : Value}
    {fmt : Addr} {odmt anmt : Option Addr} {slmt : Array (Option Value)} {ocmt kVmt dcmt pmmt cdmt ctmt : Value}
    {fg0 : Addr} {odg0 ang0 : Option Addr} {slg0 : Array (Option Value)} {ocg0 kVg0 dcg0 pmg0 cdg0 ctg0 : Value}
    {fg1 : Addr} {odg1 ang1 : Option Addr} {slg1 : Array (Option Value)} {ocg1 kVg1 dcg1 pmg1 cdg1 ctg1 : Value}
    {fg2 : Addr} {odg2 ang2 : Option Addr} {slg2 : Array (Option Value)} {ocg2 kVg2 dcg2 pmg2 cdg2 ctg2 : Value}
    {fg5 : Addr} {odg5 ang5 : Option Addr} {slg5 : Array (Option Value)} {ocg5 kVg5 dcg5 pmg5 cdg5 ctg5 : Value}
    {fg7 : Addr} {odg7 ang7 : Option Addr} {slg7 : Array (Option Value)} {ocg7 kVg7 dcg7 pmg7 cdg7 ctg7 : Value}
    {fg3 : Addr} {odg3 ang3 : Option Addr} {slg3 : Array (Option Value)} {ocg3 kVg3 dcg3 pmg3 cdg3 ctg3 : Value}
    {fg6 : Addr} {odg6 ang6 : Option Addr} {slg6 : Array (Option Value)} {ocg6 kVg6 dcg6 pmg6 cdg6 ctg6 : Value}
    (awh : PySem.W.nsIn K mainGlobals "_is_whole" = some (some (.ref fwh))) (lwh : K.lookup fwh = some ⟨ocwh, odwh, .func (PySem.W.fnOf "_is_whole" "_is_whole" (defArgs sWhole) (defBody sWhole) (defScope sWhole) .none kVwh dcwh pmwh anwh cdwh ctwh), slwh⟩) (cwh : PySem.W.codeIn K cdwh "_is_whole" = true) (kwh : PySem.W.keepIn K (.ref fwh) = true)
    (aii : PySem.W.nsIn K mainGlobals "is_integer" = some (some (.ref fii))) (lii : K.lookup fii = some ⟨ocii, odii, .func (PySem.W.fnOf "is_integer" "is_integer" (defArgs sIsInt) (defBody sIsInt) (defScope sIsInt) .none kVii dcii pmii anii cdii ctii), slii⟩) (cii : PySem.W.codeIn K cdii "is_integer" = true) (kii : PySem.W.keepIn K (.ref fii) = true)
    (afr : PySem.W.nsIn K mainGlobals "is_integer_from" = some (some (.ref ffr))) (lfr : K.lookup ffr = some ⟨ocfr, odfr, .func (PySem.W.fnOf "is_integer_from" "is_integer_from" (defArgs sIsFrom) (defBody sIsFrom) (defScope sIsFrom) .none kVfr dcfr pmfr anfr cdfr ctfr), slfr⟩) (cfr : PySem.W.codeIn K cdfr "is_integer_from" = true) (kfr : PySem.W.keepIn K (.ref ffr) = true)
    (ana : PySem.W.nsIn K mainGlobals "is_name" = some (some (.ref fna))) (lna : K.lookup fna = some ⟨ocna, odna, .func (PySem.W.fnOf "is_name" "is_name" (defArgs sIsName) (defBody sIsName) (defScope sIsName) .none kVna dcna pmna anna cdna ctna), slna⟩) (cna : PySem.W.codeIn K cdna "is_name" = true) (kna : PySem.W.keepIn K (.ref fna) = true)
    (ale : PySem.W.nsIn K mainGlobals "_least_shift" = some (some (.ref fle))) (lle : K.lookup fle = some ⟨ocle, odle, .func (PySem.W.fnOf "_least_shift" "_least_shift" (defArgs sLeast) (defBody sLeast) (defScope sLeast) .none kVle dcle pmle anle cdle ctle), slle⟩) (cle : PySem.W.codeIn K cdle "_least_shift" = true) (kle : PySem.W.keepIn K (.ref fle) = true)
    (apt : PySem.W.nsIn K mainGlobals "_parts_of_text" = some (some (.ref fpt))) (lpt : K.lookup fpt = some ⟨ocpt, odpt, .func (PySem.W.fnOf "_parts_of_text" "_parts_of_text" (defArgs sParts) (defBody sParts) (defScope sParts) .none kVpt dcpt pmpt anpt cdpt ctpt), slpt⟩) (cpt : PySem.W.codeIn K cdpt "_parts_of_text" = true) (kpt : PySem.W.keepIn K (.ref fpt) = true)
    (aar : PySem.W.nsIn K mainGlobals "_are_sizes" = some (some (.ref far))) (lar : K.lookup far = some ⟨ocar, odar, .func (PySem.W.fnOf "_are_sizes" "_are_sizes" (defArgs sAreSizes) (defBody sAreSizes) (defScope sAreSizes) .none kVar dcar pmar anar cdar ctar), slar⟩) (car : PySem.W.codeIn K cdar "_are_sizes" = true) (kar : PySem.W.keepIn K (.ref far) = true)
    (ace : PySem.W.nsIn K mainGlobals "_law_cell" = some (some (.ref fce))) (lce : K.lookup fce = some ⟨occe, odce, .func (PySem.W.fnOf "_law_cell" "_law_cell" (defArgs sCell) (defBody sCell) (defScope sCell) .none kVce dcce pmce ance cdce ctce), slce⟩) (cce : PySem.W.codeIn K cdce "_law_cell" = true) (kce : PySem.W.keepIn K (.ref fce) = true)
    (abo : PySem.W.nsIn K mainGlobals "_law_box" = some (some (.ref fbo))) (lbo : K.lookup fbo = some ⟨ocbo, odbo, .func (PySem.W.fnOf "_law_box" "_law_box" (defArgs sBox) (defBody sBox) (defScope sBox) .none kVbo dcbo pmbo anbo cdbo ctbo), slbo⟩) (cbo : PySem.W.codeIn K cdbo "_law_box" = true) (kbo : PySem.W.keepIn K (.ref fbo) = true)
    (ata : PySem.W.nsIn K mainGlobals "_law_take" = some (some (.ref fta))) (lta : K.lookup fta = some ⟨octa, odta, .func (PySem.W.fnOf "_law_take" "_law_take" (defArgs sTake) (defBody sTake) (defScope sTake) .none kVta dcta pmta anta cdta ctta), slta⟩) (cta : PySem.W.codeIn K cdta "_law_take" = true) (kta : PySem.W.keepIn K (.ref fta) = true)
    (apr : PySem.W.nsIn K mainGlobals "_law_pair" = some (some (.ref fpr))) (lpr : K.lookup fpr = some ⟨ocpr, odpr, .func (PySem.W.fnOf "_law_pair" "_law_pair" (defArgs sPair6) (defBody sPair6) (defScope sPair6) .none kVpr dcpr pmpr anpr cdpr ctpr), slpr⟩) (cpr : PySem.W.codeIn K cdpr "_law_pair" = true) (kpr : PySem.W.keepIn K (.ref fpr) = true)
    (ato : PySem.W.nsIn K mainGlobals "_law_told" = some (some (.ref fto))) (lto : K.lookup fto = some ⟨octo, odto, .func (PySem.W.fnOf "_law_told" "_law_told" (defArgs sTold6) (defBody sTold6) (defScope sTold6) .none kVto dcto pmto anto cdto ctto), slto⟩) (cto : PySem.W.codeIn K cdto "_law_told" = true) (kto : PySem.W.keepIn K (.ref fto) = true)
    (art : PySem.W.nsIn K mainGlobals "_law_roots" = some (some (.ref frt))) (lrt : K.lookup frt = some ⟨ocrt, odrt, .func (PySem.W.fnOf "_law_roots" "_law_roots" (defArgs sRoots6) (defBody sRoots6) (defScope sRoots6) .none kVrt dcrt pmrt anrt cdrt ctrt), slrt⟩) (crt : PySem.W.codeIn K cdrt "_law_roots" = true) (krt : PySem.W.keepIn K (.ref frt) = true)
    (asz : PySem.W.nsIn K mainGlobals "_law_size" = some (some (.ref fsz))) (lsz : K.lookup fsz = some ⟨ocsz, odsz, .func (PySem.W.fnOf "_law_size" "_law_size" (defArgs sSize6) (defBody sSize6) (defScope sSize6) .none kVsz dcsz pmsz ansz cdsz ctsz), slsz⟩) (csz : PySem.W.codeIn K cdsz "_law_size" = true) (ksz : PySem.W.keepIn K (.ref fsz) = true)
    (awo : PySem.W.nsIn K mainGlobals "_law_worth" = some (some (.ref fwo))) (lwo : K.lookup fwo = some ⟨ocwo, odwo, .func (PySem.W.fnOf "_law_worth" "_law_worth" (defArgs sWorth6) (defBody sWorth6) (defScope sWorth6) .none kVwo dcwo pmwo anwo cdwo ctwo), slwo⟩) (cwo : PySem.W.codeIn K cdwo "_law_worth" = true) (kwo : PySem.W.keepIn K (.ref fwo) = true)
    (air : PySem.W.nsIn K mainGlobals "_law_in_right" = some (some (.ref fir))) (lir : K.lookup fir = some ⟨ocir, odir, .func (PySem.W.fnOf "_law_in_right" "_law_in_right" (defArgs sInRight) (defBody sInRight) (defScope sInRight) .none kVir dcir pmir anir cdir ctir), slir⟩) (cir : PySem.W.codeIn K cdir "_law_in_right" = true) (kir : PySem.W.keepIn K (.ref fir) = true)
    (aer : PySem.W.nsIn K mainGlobals "_law_equal_right" = some (some (.ref fer))) (ler : K.lookup fer = some ⟨ocer, oder, .func (PySem.W.fnOf "_law_equal_right" "_law_equal_right" (defArgs sEqRight) (defBody sEqRight) (defScope sEqRight) .none kVer dcer pmer aner cder cter), sler⟩) (cer : PySem.W.codeIn K cder "_law_equal_right" = true) (ker : PySem.W.keepIn K (.ref fer) = true)
    (ala : PySem.W.nsIn K mainGlobals "law" = some (some (.ref fla))) (lla : K.lookup fla = some ⟨ocla, odla, .func (PySem.W.fnOf "law" "law" (defArgs sLaw) (defBody sLaw) (defScope sLaw) .none kVla dcla pmla anla cdla ctla), slla⟩) (cla : PySem.W.codeIn K cdla "law" = true) (kla : PySem.W.keepIn K (.ref fla) = true)
    (aCP : PySem.W.nsIn K mainGlobals "Place" = some (some (.ref cP)))
    (aCX : PySem.W.nsIn K mainGlobals "InvalidPlace" = some (some (.ref cX)))
    (aCI : PySem.W.nsIn K mainGlobals "InvalidInteger" = some (some (.ref cI)))
    (aCS : PySem.W.nsIn K mainGlobals "InvalidSetting" = some (some (.ref cS)))
    (aCG : PySem.W.nsIn K mainGlobals "Setting" = some (some (.ref cG)))
    (aCM : PySem.W.nsIn K mainGlobals "MapError" = some (some (.ref cM)))
    (amo : PySem.W.findCls K (.ref cP) (.type "type") "of" = some (.get (.builtin "classmethod.__get__") (.ref po) .none (.ref cP))) (amo2 : PySem.W.recIn K po "classmethod" = some (.ref fmo :: ro)) (lmo : K.lookup fmo = some ⟨ocmo, odmo, .func (PySem.W.fnOf "of" "Place.of" (defArgs (inClass sPlace 1)) (defBody (inClass sPlace 1)) (defScope (inClass sPlace 1)) .none kVmo dcmo pmmo anmo cdmo ctmo), slmo⟩) (cmo : PySem.W.codeIn K cdmo "Place.of" = true) (kmo : PySem.W.keepIn K (.ref fmo) = true)
    (amb : PySem.W.findIn K (.ref cP) "base" = some (some (.ref pb))) (amb1 : PySem.W.specialIn K (.ref pb) "__get__" = some (some (.builtin "property.__get__"))) (amb2 : PySem.W.takesIn K (.ref pb) = some true) (amb3 : PySem.W.recIn K pb "property" = some (.ref fmb :: rb)) (lmb : K.lookup fmb = some ⟨ocmb, odmb, .func (PySem.W.fnOf "base" "Place.base" (defArgs (inClass sPlace 2)) (defBody (inClass sPlace 2)) (defScope (inClass sPlace 2)) .none kVmb dcmb pmmb anmb cdmb ctmb), slmb⟩) (cmb : PySem.W.codeIn K cdmb "Place.base" = true) (kmb : PySem.W.keepIn K (.ref fmb) = true)
    (amh : PySem.W.findIn K (.ref cP) "shift" = some (some (.ref ph))) (amh1 : PySem.W.specialIn K (.ref ph) "__get__" = some (some (.builtin "property.__get__"))) (amh2 : PySem.W.takesIn K (.ref ph) = some true) (amh3 : PySem.W.recIn K ph "property" = some (.ref fmh :: rh)) (lmh : K.lookup fmh = some ⟨ocmh, odmh, .func (PySem.W.fnOf "shift" "Place.shift" (defArgs (inClass sPlace 3)) (defBody (inClass sPlace 3)) (defScope (inClass sPlace 3)) .none kVmh dcmh pmmh anmh cdmh ctmh), slmh⟩) (cmh : PySem.W.codeIn K cdmh "Place.shift" = true) (kmh : PySem.W.keepIn K (.ref fmh) = true)
    (amd : PySem.W.findIn K (.ref cP) "__add__" = some (some (.ref fmd))) (lmd : K.lookup fmd = some ⟨ocmd, odmd, .func (PySem.W.fnOf "__add__" "Place.__add__" (defArgs (inClass sPlace 7)) (defBody (inClass sPlace 7)) (defScope (inClass sPlace 7)) .none kVmd dcmd pmmd anmd cdmd ctmd), slmd⟩) (cmd : PySem.W.codeIn K cdmd "Place.__add__" = true) (kmd : PySem.W.keepIn K (.ref fmd) = true)
    (amx : PySem.W.findIn K (.ref cX) "__init__" = some (some (.ref fmx))) (lmx : K.lookup fmx = some ⟨ocmx, odmx, .func (PySem.W.fnOf "__init__" "InvalidPlace.__init__" (defArgs (inClass sInvPlace 0)) (defBody (inClass sInvPlace 0)) (defScope (inClass sInvPlace 0)) .none kVmx dcmx pmmx anmx cdmx ctmx), slmx⟩) (cmx : PySem.W.codeIn K cdmx "InvalidPlace.__init__" = true) (kmx : PySem.W.keepIn K (.ref fmx) = true)
    (ami : PySem.W.findIn K (.ref cI) "__init__" = some (some (.ref fmi))) (lmi : K.lookup fmi = some ⟨ocmi, odmi, .func (PySem.W.fnOf "__init__" "InvalidInteger.__init__" (defArgs (inClass sInvInt 0)) (defBody (inClass sInvInt 0)) (defScope (inClass sInvInt 0)) .none kVmi dcmi pmmi anmi cdmi ctmi), slmi⟩) (cmi : PySem.W.codeIn K cdmi "InvalidInteger.__init__" = true) (kmi : PySem.W.keepIn K (.ref fmi) = true)
    (amt : PySem.W.findIn K (.ref cS) "__init__" = some (some (.ref fmt))) (lmt : K.lookup fmt = some ⟨ocmt, odmt, .func (PySem.W.fnOf "__init__" "InvalidSetting.__init__" (defArgs (inClass sInvSet 0)) (defBody (inClass sInvSet 0)) (defScope (inClass sInvSet 0)) .none kVmt dcmt pmmt anmt cdmt ctmt), slmt⟩) (cmt : PySem.W.codeIn K cdmt "InvalidSetting.__init__" = true) (kmt : PySem.W.keepIn K (.ref fmt) = true)
    (ag0 : PySem.W.findIn K (.ref cG) "__init__" = some (some (.ref fg0))) (lg0 : K.lookup fg0 = some ⟨ocg0, odg0, .func (PySem.W.fnOf "__init__" "Setting.__init__" (defArgs (inClass sSetting 0)) (defBody (inClass sSetting 0)) (defScope (inClass sSetting 0)) .none kVg0 dcg0 pmg0 ang0 cdg0 ctg0), slg0⟩) (cg0 : PySem.W.codeIn K cdg0 "Setting.__init__" = true) (kg0 : PySem.W.keepIn K (.ref fg0) = true)
    (ag1 : PySem.W.findIn K (.ref cG) "sizes" = some (some (.ref fg1))) (lg1 : K.lookup fg1 = some ⟨ocg1, odg1, .func (PySem.W.fnOf "sizes" "Setting.sizes" (defArgs (inClass sSetting 1)) (defBody (inClass sSetting 1)) (defScope (inClass sSetting 1)) .none kVg1 dcg1 pmg1 ang1 cdg1 ctg1), slg1⟩) (cg1 : PySem.W.codeIn K cdg1 "Setting.sizes" = true) (kg1 : PySem.W.keepIn K (.ref fg1) = true)
    (ag2 : PySem.W.findIn K (.ref cG) "page" = some (some (.ref pg2))) (ag21 : PySem.W.specialIn K (.ref pg2) "__get__" = some (some (.builtin "property.__get__"))) (ag22 : PySem.W.takesIn K (.ref pg2) = some true) (ag23 : PySem.W.recIn K pg2 "property" = some (.ref fg2 :: rg)) (lg2 : K.lookup fg2 = some ⟨ocg2, odg2, .func (PySem.W.fnOf "page" "Setting.page" (defArgs (inClass sSetting 2)) (defBody (inClass sSetting 2)) (defScope (inClass sSetting 2)) .none kVg2 dcg2 pmg2 ang2 cdg2 ctg2), slg2⟩) (cg2 : PySem.W.codeIn K cdg2 "Setting.page" = true) (kg2 : PySem.W.keepIn K (.ref fg2) = true)
    (ag5 : PySem.W.findIn K (.ref cG) "__contains__" = some (some (.ref fg5))) (lg5 : K.lookup fg5 = some ⟨ocg5, odg5, .func (PySem.W.fnOf "__contains__" "Setting.__contains__" (defArgs (inClass sSetting 5)) (defBody (inClass sSetting 5)) (defScope (inClass sSetting 5)) .none kVg5 dcg5 pmg5 ang5 cdg5 ctg5), slg5⟩) (cg5 : PySem.W.codeIn K cdg5 "Setting.__contains__" = true) (kg5 : PySem.W.keepIn K (.ref fg5) = true)
    (ag7 : PySem.W.findIn K (.ref cG) "__eq__" = some (some (.ref fg7))) (lg7 : K.lookup fg7 = some ⟨ocg7, odg7, .func (PySem.W.fnOf "__eq__" "Setting.__eq__" (defArgs (inClass sSetting 7)) (defBody (inClass sSetting 7)) (defScope (inClass sSetting 7)) .none kVg7 dcg7 pmg7 ang7 cdg7 ctg7), slg7⟩) (cg7 : PySem.W.codeIn K cdg7 "Setting.__eq__" = true) (kg7 : PySem.W.keepIn K (.ref fg7) = true)
    (ag3 : PySem.W.findIn K (.ref cG) "__getitem__" = some (some (.ref fg3))) (lg3 : K.lookup fg3 = some ⟨ocg3, odg3, .func (PySem.W.fnOf "__getitem__" "Setting.__getitem__" (defArgs (inClass sSetting 3)) (defBody (inClass sSetting 3)) (defScope (inClass sSetting 3)) .none kVg3 dcg3 pmg3 ang3 cdg3 ctg3), slg3⟩) (cg3 : PySem.W.codeIn K cdg3 "Setting.__getitem__" = true) (kg3 : PySem.W.keepIn K (.ref fg3) = true)
    (ag6 : PySem.W.findIn K (.ref cG) "same_page" = some (some (.ref fg6))) (lg6 : K.lookup fg6 = some ⟨ocg6, odg6, .func (PySem.W.fnOf "same_page" "Setting.same_page" (defArgs (inClass sSetting 6)) (defBody (inClass sSetting 6)) (defScope (inClass sSetting 6)) .none kVg6 dcg6 pmg6 ang6 cdg6 ctg6), slg6⟩) (cg6 : PySem.W.codeIn K cdg6 "Setting.same_page" = true) (kg6 : PySem.W.keepIn K (.ref fg6) = true)
    (jmd : PySem.W.isFn K (.ref fmd) = true)
    (jg0 : PySem.W.isFn K (.ref fg0) = true)
    (jg1 : PySem.W.isFn K (.ref fg1) = true)
    (jg3 : PySem.W.isFn K (.ref fg3) = true)
    (jg5 : PySem.W.isFn K (.ref fg5) = true)
    (jg6 : PySem.W.isFn K (.ref fg6) = true)
    (jg7 : PySem.W.isFn K (.ref fg7) = true)
    (fo : PySem.W.fnIn K fmo = true)
    (fog : PySem.W.fnIn K fg3 = true)
    (tfX : PySem.W.typeIn K (.ref fmx) = some (.type "function"))
    (tfI : PySem.W.typeIn K (.ref fmi) = some (.type "function"))
    (tfS : PySem.W.typeIn K (.ref fmt) = some (.type "function"))
    {odI anI odT : Option Addr} {slI slT : Array (Option Value)} {ocI dcI pmI cdI ctI : Value} {nT : Nat} {kT kS kL kA kM kU kP : Tok}
    (eG : kVg0 = .ref kG)
    (iI : PySem.W.findIn K (.ref cP) "__init__" = some (some (.ref fI)))
    (jI : PySem.W.isFn K (.ref fI) = true)
    (lI : K.lookup fI = some ⟨ocI, odI, .func (PySem.W.fnOf "__init__" "Place.__init__" (defArgs (inClass sPlace 0)) (defBody (inClass sPlace 0)) (defScope (inClass sPlace 0)) (.ref tD) (.ref kD) dcI pmI anI cdI ctI), slI⟩)
    (cI_ : PySem.W.codeIn K cdI "Place.__init__" = true)
    (kI : PySem.W.keepIn K (.ref fI) = true)
    (lT : K.lookup tD = some ⟨.type "tuple", odT, .seq #[.str "" kT] nT, slT⟩)
    (sD : PySem.W.nsIn K kD "shift" = some (some (.int 0 kS)))
    (pg : PySem.W.plainGet K cP Str.empty = true)
    (hd : PySem.W.hasDictIn K cP = true)
    (pv_ : PySem.W.plainOver K cP = true)
    (sa : PySem.W.findIn K (.ref cP) "__setattr__" = some (some (.builtin "object.__setattr__")))
    (mk : PySem.W.makesIn K cP = true)
    (kc : PySem.W.keepIn K (.ref cP) = true)
    (nB : PySem.W.findIn K (.ref cP) "_base" = some none)
    (nS : PySem.W.findIn K (.ref cP) "_shift" = some none)
    (ha : PySem.W.findIn K (.ref cP) "__class__" = some (some (.builtin "object.__class__")))
    (hn : PySem.W.specialIn K (.builtin "object.__class__") "__get__" = some (some (.builtin "getset_descriptor.__get__")))
    (htk : PySem.W.takesIn K (.builtin "object.__class__") = some true)
    (hm : PySem.W.mroIn K cP (.type "object") = some true)
    (tP : PySem.W.typeIn K (.ref cP) = some (.type "type"))
    (rdP : PySem.W.readsIn K cP (.type "type") = true)
    (gaP : PySem.W.specialIn K (.ref cP) "__getattribute__" = some (some (.builtin "type.__getattribute__")))
    (pgG : PySem.W.plainGet K cG Str.empty = true)
    (hdG : PySem.W.hasDictIn K cG = true)
    (pvG : PySem.W.plainOver K cG = true)
    (saG : PySem.W.findIn K (.ref cG) "__setattr__" = some (some (.builtin "object.__setattr__")))
    (mkG : PySem.W.makesIn K cG = true)
    (kcG : PySem.W.keepIn K (.ref cG) = true)
    (nZG : PySem.W.findIn K (.ref cG) "_sizes" = some none)
    (nPG : PySem.W.findIn K (.ref cG) "_page" = some none)
    (haG : PySem.W.findIn K (.ref cG) "__class__" = some (some (.builtin "object.__class__")))
    (hmG : PySem.W.mroIn K cG (.type "object") = some true)
    (hneG : PySem.W.findIn K (.ref cG) "__ne__" = some (some (.builtin "object.__ne__")))
    (xiP : PySem.W.mroIn K cP (.type "int") = some false)
    (xsP : PySem.W.mroIn K cP (.type "str") = some false)
    (xiG : PySem.W.mroIn K cG (.type "int") = some false)
    (xsG : PySem.W.mroIn K cG (.type "str") = some false)
    (tG : PySem.W.typeIn K (.ref cG) = some (.type "type"))
    (sG : PySem.W.nsIn K kG "page" = some (some (.int 32 kP)))
    (sf : PySem.W.selfFirst K cP = true)
    (ra : PySem.W.findIn K (.ref cP) "__radd__" = some (some (.ref fra)))
    (ia : PySem.W.findIn K (.type "int") "__add__" = some fi)
    (ira : PySem.W.findIn K (.type "int") "__radd__" = some ri)
    {nmX qqX : Str} {NNX : Addr} {bsX bmX : List Value} {snX : List Str} {subX : List Value} {abX : Bool} {colX : Option Bool} {ddX : Option Addr} {k0X k1X k2X k3X k5X : Option Value}
    (lXx : K.lookup cX = some (excClassObj nmX qqX cX NNX bsX bmX true snX subX abX colX ddX k0X k1X k2X k3X k5X "ValueError.__new__"))
    (rX : PySem.HandSPX.refsVE bmX = true)
    (saXe : PySem.W.findIn K (.ref cX) "__setattr__" = some (some (.builtin "object.__setattr__")))
    (exXe : PySem.W.subIn K (.ref cX) (.type "BaseException") = some true)
    (tyXe : PySem.W.typeIn K (.ref cX) = some (.type "type"))
    (kXe : PySem.W.keepIn K (.ref cX) = true)
    (gaXe : PySem.W.findIn K (.ref cX) "__getattribute__" = some (some (.builtin "BaseException.__getattribute__")))
    (ggXe : PySem.W.findIn K (.ref cX) "__getattr__" = some none)
    (hdXe : PySem.W.hasDictIn K cX = true)
    (suXe : PySem.W.subIn K (.ref cX) (.ref cX) = some true)
    (noXe : PySem.W.findIn K (.ref cX) "value" = some none)
    {nmI qqI : Str} {NNI : Addr} {bsI bmI : List Value} {snI : List Str} {subI : List Value} {abI : Bool} {colI : Option Bool} {ddI : Option Addr} {k0I k1I k2I k3I k5I : Option Value}
    (lIx : K.lookup cI = some (excClassObj nmI qqI cI NNI bsI bmI true snI subI abI colI ddI k0I k1I k2I k3I k5I "ValueError.__new__"))
    (rI : PySem.HandSPX.refsVE bmI = true)
    (saIe : PySem.W.findIn K (.ref cI) "__setattr__" = some (some (.builtin "object.__setattr__")))
    (exIe : PySem.W.subIn K (.ref cI) (.type "BaseException") = some true)
    (tyIe : PySem.W.typeIn K (.ref cI) = some (.type "type"))
    (kIe : PySem.W.keepIn K (.ref cI) = true)
    (gaIe : PySem.W.findIn K (.ref cI) "__getattribute__" = some (some (.builtin "BaseException.__getattribute__")))
    (ggIe : PySem.W.findIn K (.ref cI) "__getattr__" = some none)
    (hdIe : PySem.W.hasDictIn K cI = true)
    (suIe : PySem.W.subIn K (.ref cI) (.ref cI) = some true)
    (noIe : PySem.W.findIn K (.ref cI) "value" = some none)
    {nmS qqS : Str} {NNS : Addr} {bsS bmS : List Value} {snS : List Str} {subS : List Value} {abS : Bool} {colS : Option Bool} {ddS : Option Addr} {k0S k1S k2S k3S k5S : Option Value}
    (lSx : K.lookup cS = some (excClassObj nmS qqS cS NNS bsS bmS true snS subS abS colS ddS k0S k1S k2S k3S k5S "ValueError.__new__"))
    (rS : PySem.HandSPX.refsVE bmS = true)
    (saSe : PySem.W.findIn K (.ref cS) "__setattr__" = some (some (.builtin "object.__setattr__")))
    (exSe : PySem.W.subIn K (.ref cS) (.type "BaseException") = some true)
    (tySe : PySem.W.typeIn K (.ref cS) = some (.type "type"))
    (kSe : PySem.W.keepIn K (.ref cS) = true)
    (gaSe : PySem.W.findIn K (.ref cS) "__getattribute__" = some (some (.builtin "BaseException.__getattribute__")))
    (ggSe : PySem.W.findIn K (.ref cS) "__getattr__" = some none)
    (hdSe : PySem.W.hasDictIn K cS = true)
    (suSe : PySem.W.subIn K (.ref cS) (.ref cS) = some true)
    (noSe : PySem.W.findIn K (.ref cS) "value" = some none)
    (rdM : PySem.W.readsIn K cM (.type "type") = true)
    (gaM : PySem.W.specialIn K (.ref cM) "__getattribute__" = some (some (.builtin "type.__getattribute__")))
    (fcM : PySem.W.findCls K (.ref cM) (.type "type") "__init__" = some (.val (.builtin "ValueError.__init__")))
    (gL : PySem.W.nsIn K mainGlobals "_LONGEST_NAME" = some (some (.int 6 kL)))
    (gA : PySem.W.nsIn K mainGlobals "_LETTERS" = some (some (.str abc kA)))
    (gM : PySem.W.nsIn K mainGlobals "_MOST" = some (some (.int 3 kM)))
    (gU : PySem.W.nsIn K mainGlobals "MOST_UNKNOWNS" = some (some (.int 2 kU)))
    {zntn : Nat} {utn0 utn1 utn2 utn3 : Int} {ptn0 qtn0 ptn1 qtn1 ptn2 qtn2 ptn3 qtn3 : Tok}
    (gtn : PySem.W.nsIn K mainGlobals "_NUMBERS" = some (some (.ref dtn)))
    (ttn : K.lookup dtn = some ⟨.type "dict", none, .dict #[⟨utn0, .str "0" ptn0, .int 0 qtn0⟩, ⟨utn1, .str "1" ptn1, .int 1 qtn1⟩, ⟨utn2, .str "2" ptn2, .int 2 qtn2⟩, ⟨utn3, .str "3" ptn3, .int 3 qtn3⟩] zntn, #[]⟩)
    (etn0 : utn0 = PyData.keyHash w.params "0")
    (etn1 : utn1 = PyData.keyHash w.params "1")
    (etn2 : utn2 = PyData.keyHash w.params "2")
    (etn3 : utn3 = PyData.keyHash w.params "3")
    (wtn : (dtn == sysModules) = false)
    {znts : Nat} {uts0 uts1 uts2 uts3 uts4 uts5 : Int} {pts0 qts0 pts1 qts1 pts2 qts2 pts3 qts3 pts4 qts4 pts5 qts5 : Tok}
    (gts : PySem.W.nsIn K mainGlobals "_SHIFTS" = some (some (.ref dts)))
    (tts : K.lookup dts = some ⟨.type "dict", none, .dict #[⟨uts0, .str "-3" pts0, .int (-3) qts0⟩, ⟨uts1, .str "-2" pts1, .int (-2) qts1⟩, ⟨uts2, .str "-1" pts2, .int (-1) qts2⟩, ⟨uts3, .str "+1" pts3, .int 1 qts3⟩, ⟨uts4, .str "+2" pts4, .int 2 qts4⟩, ⟨uts5, .str "+3" pts5, .int 3 qts5⟩] znts, #[]⟩)
    (ets0 : uts0 = PyData.keyHash w.params "-3")
    (ets1 : uts1 = PyData.keyHash w.params "-2")
    (ets2 : uts2 = PyData.keyHash w.params "-1")
    (ets3 : uts3 = PyData.keyHash w.params "+1")
    (ets4 : uts4 = PyData.keyHash w.params "+2")
    (ets5 : uts5 = PyData.keyHash w.params "+3")
    (wts : (dts == sysModules) = false)
    (zlen : PySem.W.nsIn K mainGlobals "len" = some none)
    (zmax : PySem.W.nsIn K mainGlobals "max" = some none)
    (zmin : PySem.W.nsIn K mainGlobals "min" = some none)
    (zint : PySem.W.nsIn K mainGlobals "int" = some none)
    (zrange : PySem.W.nsIn K mainGlobals "range" = some none)
    (zisinstance : PySem.W.nsIn K mainGlobals "isinstance" = some none)
    (zbool : PySem.W.nsIn K mainGlobals "bool" = some none)
    (zstr : PySem.W.nsIn K mainGlobals "str" = some none)
    (zall : PySem.W.nsIn K mainGlobals "all" = some none)
    (zrepr : PySem.W.nsIn K mainGlobals "repr" = some none)
    (zdict : PySem.W.nsIn K mainGlobals "dict" = some none)
    (zlist : PySem.W.nsIn K mainGlobals "list" = some none)
    : ∃ fd : FuncData, (∀ (s : Shared) (v : Value), BindsTo s fd ⟨[v], []⟩ [("_law_script", v)]) ∧ ∀ base : Heap, K.In base → base.Ns mainGlobals mg → FnG l.prog w K mg base CX0 9 fa fd ["_law_script"] (spLaw K) := by
  have e := hfa.symm.trans (PySem.W.mg_of X G ala)
  cases e
  have B : Blt mg := ⟨PySem.W.mg_none_of X G zlen, PySem.W.mg_none_of X G zmax, PySem.W.mg_none_of X G zmin, PySem.W.mg_none_of X G zint, PySem.W.mg_none_of X G zrange⟩
  have D : Blp mg := ⟨PySem.W.mg_none_of X G zisinstance, PySem.W.mg_none_of X G zbool, PySem.W.mg_none_of X G zstr, PySem.W.mg_none_of X G zall⟩
  have Fwh := fun_mk (st := sWhole) lwh cwh kwh
  have bwh := Fwh.binds (ps := ["value"]) fun _ _ _ _ _ _ us hl => match us, hl with | [_], _ => rfl
  have mwh := PySem.W.mg_of X G awh
  have Fii := fun_mk (st := sIsInt) lii cii kii
  have bii := Fii.binds (ps := ["value", "low", "high"]) fun _ _ _ _ _ _ us hl => match us, hl with | [_, _, _], _ => rfl
  have mii := PySem.W.mg_of X G aii
  have Ffr := fun_mk (st := sIsFrom) lfr cfr kfr
  have bfr := Ffr.binds (ps := ["value", "low"]) fun _ _ _ _ _ _ us hl => match us, hl with | [_, _], _ => rfl
  have mfr := PySem.W.mg_of X G afr
  have Fna := fun_mk (st := sIsName) lna cna kna
  have bna := Fna.binds (ps := ["value"]) fun _ _ _ _ _ _ us hl => match us, hl with | [_], _ => rfl
  have mna := PySem.W.mg_of X G ana
  have Fle := fun_mk (st := sLeast) lle cle kle
  have ble := Fle.binds (ps := ["base"]) fun _ _ _ _ _ _ us hl => match us, hl with | [_], _ => rfl
  have mle := PySem.W.mg_of X G ale
  have Fpt := fun_mk (st := sParts) lpt cpt kpt
  have bpt := Fpt.binds (ps := ["text"]) fun _ _ _ _ _ _ us hl => match us, hl with | [_], _ => rfl
  have mpt := PySem.W.mg_of X G apt
  have Far := fun_mk (st := sAreSizes) lar car kar
  have bar := Far.binds (ps := ["value"]) fun _ _ _ _ _ _ us hl => match us, hl with | [_], _ => rfl
  have mar := PySem.W.mg_of X G aar
  have Fce := fun_mk (st := sCell) lce cce kce
  have bce := Fce.binds (ps := ["_law_script", "_law_k"]) fun _ _ _ _ _ _ us hl => match us, hl with | [_, _], _ => rfl
  have mce := PySem.W.mg_of X G ace
  have Fbo := fun_mk (st := sBox) lbo cbo kbo
  have bbo := Fbo.binds (ps := ["_law_cell_here"]) fun _ _ _ _ _ _ us hl => match us, hl with | [_], _ => rfl
  have mbo := PySem.W.mg_of X G abo
  have Fta := fun_mk (st := sTake) lta cta kta
  have bta := Fta.binds (ps := ["_law_box_here", "_law_many"]) fun _ _ _ _ _ _ us hl => match us, hl with | [_, _], _ => rfl
  have mta := PySem.W.mg_of X G ata
  have Fpr := fun_mk (st := sPair6) lpr cpr kpr
  have bpr := Fpr.binds (ps := ["_law_box_here", "_law_roots_here"]) fun _ _ _ _ _ _ us hl => match us, hl with | [_, _], _ => rfl
  have mpr := PySem.W.mg_of X G apr
  have Fto := fun_mk (st := sTold6) lto cto kto
  have bto := Fto.binds (ps := ["_law_box_here", "_law_pair_here"]) fun _ _ _ _ _ _ us hl => match us, hl with | [_, _], _ => rfl
  have mto := PySem.W.mg_of X G ato
  have Frt := fun_mk (st := sRoots6) lrt crt krt
  have brt := Frt.binds (ps := ["_law_box_here"]) fun _ _ _ _ _ _ us hl => match us, hl with | [_], _ => rfl
  have mrt := PySem.W.mg_of X G art
  have Fsz := fun_mk (st := sSize6) lsz csz ksz
  have bsz := Fsz.binds (ps := ["_law_box_here"]) fun _ _ _ _ _ _ us hl => match us, hl with | [_], _ => rfl
  have msz := PySem.W.mg_of X G asz
  have Fwo := fun_mk (st := sWorth6) lwo cwo kwo
  have bwo := Fwo.binds (ps := ["_law_worths", "_law_pair_here"]) fun _ _ _ _ _ _ us hl => match us, hl with | [_, _], _ => rfl
  have mwo := PySem.W.mg_of X G awo
  have Fir := fun_mk (st := sInRight) lir cir kir
  have bir := Fir.binds (ps := ["_law_setting", "_law_worths", "_law_roots_here"]) fun _ _ _ _ _ _ us hl => match us, hl with | [_, _, _], _ => rfl
  have mir := PySem.W.mg_of X G air
  have Fer := fun_mk (st := sEqRight) ler cer ker
  have ber := Fer.binds (ps := ["_law_box_here", "_law_worths", "_law_roots_here", "_law_much"]) fun _ _ _ _ _ _ us hl => match us, hl with | [_, _, _, _], _ => rfl
  have mer := PySem.W.mg_of X G aer
  have Fla := fun_mk (st := sLaw) lla cla kla
  have bla := Fla.binds (ps := ["_law_script"]) fun _ _ _ _ _ _ us hl => match us, hl with | [_], _ => rfl
  have mla := PySem.W.mg_of X G ala
  have Fmo := fun_mk (st := (inClass sPlace 1)) lmo cmo kmo
  have bmo := Fmo.binds (ps := ["cls", "value"]) fun _ _ _ _ _ _ us hl => match us, hl with | [_, _], _ => rfl
  have Fmb := fun_mk (st := (inClass sPlace 2)) lmb cmb kmb
  have bmb := Fmb.binds (ps := ["self"]) fun _ _ _ _ _ _ us hl => match us, hl with | [_], _ => rfl
  have Fmh := fun_mk (st := (inClass sPlace 3)) lmh cmh kmh
  have bmh := Fmh.binds (ps := ["self"]) fun _ _ _ _ _ _ us hl => match us, hl with | [_], _ => rfl
  have Fmd := fun_mk (st := (inClass sPlace 7)) lmd cmd kmd
  have bmd := Fmd.binds (ps := ["self", "other"]) fun _ _ _ _ _ _ us hl => match us, hl with | [_, _], _ => rfl
  have Fmx := fun_mk (st := (inClass sInvPlace 0)) lmx cmx kmx
  have bmx := Fmx.binds (ps := ["self", "value"]) fun _ _ _ _ _ _ us hl => match us, hl with | [_, _], _ => rfl
  have Fmi := fun_mk (st := (inClass sInvInt 0)) lmi cmi kmi
  have bmi := Fmi.binds (ps := ["self", "value"]) fun _ _ _ _ _ _ us hl => match us, hl with | [_, _], _ => rfl
  have Fmt := fun_mk (st := (inClass sInvSet 0)) lmt cmt kmt
  have bmt := Fmt.binds (ps := ["self", "value"]) fun _ _ _ _ _ _ us hl => match us, hl with | [_, _], _ => rfl
  have Fg0 := fun_mk (st := (inClass sSetting 0)) lg0 cg0 kg0
  have Fg1 := fun_mk (st := (inClass sSetting 1)) lg1 cg1 kg1
  have bg1 := Fg1.binds (ps := ["self"]) fun _ _ _ _ _ _ us hl => match us, hl with | [_], _ => rfl
  have Fg2 := fun_mk (st := (inClass sSetting 2)) lg2 cg2 kg2
  have bg2 := Fg2.binds (ps := ["self"]) fun _ _ _ _ _ _ us hl => match us, hl with | [_], _ => rfl
  have Fg5 := fun_mk (st := (inClass sSetting 5)) lg5 cg5 kg5
  have bg5 := Fg5.binds (ps := ["self", "x"]) fun _ _ _ _ _ _ us hl => match us, hl with | [_, _], _ => rfl
  have Fg7 := fun_mk (st := (inClass sSetting 7)) lg7 cg7 kg7
  have bg7 := Fg7.binds (ps := ["self", "other"]) fun _ _ _ _ _ _ us hl => match us, hl with | [_, _], _ => rfl
  have Fg3 := fun_mk (st := (inClass sSetting 3)) lg3 cg3 kg3
  have bg3 := Fg3.binds (ps := ["self", "at"]) fun _ _ _ _ _ _ us hl => match us, hl with | [_, _], _ => rfl
  have Fg6 := fun_mk (st := (inClass sSetting 6)) lg6 cg6 kg6
  have bg6 := Fg6.binds (ps := ["self", "place", "other"]) fun _ _ _ _ _ _ us hl => match us, hl with | [_, _, _], _ => rfl
  have FI : FunD K "__init__" "Place.__init__" (defArgs (inClass sPlace 0)) (defBody (inClass sPlace 0)) (defScope (inClass sPlace 0)) [.str ""] [("shift", .int 0)] fI _ :=
    ⟨⟨ocI, odI, .ref tD, .ref kD, dcI, pmI, anI, cdI, ctI, slI, rfl, lI, cI_, .inr ⟨by simp, tD, _, [.str "" kT], nT, rfl, lT, rfl, .cons ⟨kT, rfl⟩ .nil⟩, .inr ⟨kD, rfl, fun q hq => by
      rw [List.mem_singleton.mp hq]
      exact ⟨_, sD, ⟨kS, rfl⟩⟩⟩⟩, kI⟩
  obtain ⟨ds2, hds2, bI2⟩ := FunD.binds (ps := ["self", "base", "shift"]) FI 2 1 (by simp) rfl (fun T D doc pm an cdv ct us its ks l1 l2 l3 => match us, its, ks, l1, l2, l3 with
    | [_, _], [_], [_], _, _, _ => ⟨_, rfl, ⟨_, _, _, _, _, _, rfl, rfl, rfl⟩⟩) (by simp)
  obtain ⟨its1, mv1, kb1⟩ := FunD.kbinds (ps := ["self", "base", "shift"]) FI 1 ["shift"] [] (fun us its _ ws => us ++ its ++ ws) (by simp) (by simp) (fun q hq => nomatch hq) (fun r1 r2 _ r4 => (r1.append r2).append r4)
    (fun T D doc pm an cdv ct us its mv ws l1 l2 l3 l4 => match us, its, mv, ws, l1, l2, l3, l4 with
    | [_], [_], [], [_], _, _, _, _ => ⟨_, rfl, rfl⟩)
  obtain ⟨its2, mv2, kb2⟩ := FunD.kbinds (ps := ["self", "base", "shift"]) FI 2 ["shift"] [] (fun us _ _ ws => us ++ ws) (by simp) (by simp) (fun q hq => nomatch hq) (fun r1 _ _ r4 => r1.append r4)
    (fun T D doc pm an cdv ct us its mv ws l1 l2 l3 l4 => match us, its, mv, ws, l1, l2, l3, l4 with
    | [_, _], [_], [], [_], _, _, _, _ => ⟨_, rfl, rfl⟩)
  subst eG
  have FS : FunD K "__init__" "Setting.__init__" (defArgs (inClass sSetting 0)) (defBody (inClass sSetting 0)) (defScope (inClass sSetting 0)) [] [("page", .int 32)] fg0 _ :=
    ⟨⟨ocg0, odg0, .none, .ref kG, dcg0, pmg0, ang0, cdg0, ctg0, slg0, rfl, lg0, cg0, .inl ⟨rfl, rfl⟩, .inr ⟨kG, rfl, fun q hq => by
      rw [List.mem_singleton.mp hq]
      exact ⟨_, sG, ⟨kP, rfl⟩⟩⟩⟩, kg0⟩
  obtain ⟨dsS, hdsS, bS2⟩ := FunD.binds0 (ps := ["self", "sizes", "page"]) FS 2 (by simp) rfl (fun D doc pm an cdv ct us ks l1 l2 => match us, ks, l1, l2 with
    | [_, _], [_], _, _ => ⟨_, _, _, _, _, _, rfl, rfl, rfl⟩)
  have kS0 := kb_rev (ps := ["self", "sizes", "page"]) Fg0 1 ["page", "sizes"] fun _ _ _ _ _ _ us ws hu hw => match us, ws, hu, hw with | [_], [_, _], _, _ => rfl
  have kSm := kb_one (ps := ["self", "place", "other"]) Fg6 1 ["place", "other"] fun _ _ _ _ _ _ us ws hu hw => match us, ws, hu, hw with | [_], [_, _], _, _ => rfl
  have kS2 := kb_one (ps := ["self", "sizes", "page"]) Fg0 2 ["page"] fun _ _ _ _ _ _ us ws hu hw => match us, ws, hu, hw with | [_, _], [_], _, _ => rfl
  have Z : Cpl K mg cP := ⟨⟨pg, hd, pv_, sa⟩, nB, nS, PySem.W.mg_of X G aCP⟩
  have Y : Pty K cP := ⟨⟨pg, hd, pv_, sa⟩, ha, hn, htk, hm⟩
  have N1 : Npl K cP := ⟨kit_ref hd tP rfl, kit_ref hd tP rfl, kit_ref hd tP rfl, kit_ref hd tP rfl⟩
  have M : Mk K cP fI := ⟨mk, iI, jI, kc⟩
  have YS : Pty K cG := ⟨⟨pgG, hdG, pvG, saG⟩, haG, hn, htk, hmG⟩
  have pP : PropOf K cG "page" pg2 fg2 := ⟨ag2, ag21, ag22, rg, ag23⟩
  have TA : Arith K cP .Add fmd := ⟨sf, amd, jmd, ⟨_, ra, .inr ⟨_, rfl⟩⟩, ⟨_, ia⟩, ⟨_, ira⟩, rfl⟩
  have MS : Mk K cG fg0 := ⟨mkG, ag0, jg0, kcG⟩
  have TT : Scl K mg cG := ⟨⟨pgG, hdG, pvG, saG⟩, nZG, nPG, PySem.W.mg_of X G aCG⟩
  have TX : Xcl K mg "InvalidPlace" cX "value" := ⟨⟨⟨nmX, qqX, NNX, bsX, bmX, snX, subX, abX, colX, ddX, k0X, k1X, k2X, k3X, k5X, lXx, rX⟩, saXe, exXe, tyXe, kXe⟩, noXe, PySem.W.mg_of X G aCX, ⟨gaXe, ggXe, exXe, hdXe⟩⟩
  have TI : Xcl K mg "InvalidInteger" cI "value" := ⟨⟨⟨nmI, qqI, NNI, bsI, bmI, snI, subI, abI, colI, ddI, k0I, k1I, k2I, k3I, k5I, lIx, rI⟩, saIe, exIe, tyIe, kIe⟩, noIe, PySem.W.mg_of X G aCI, ⟨gaIe, ggIe, exIe, hdIe⟩⟩
  have TS : Xcl K mg "InvalidSetting" cS "value" := ⟨⟨⟨nmS, qqS, NNS, bsS, bmS, snS, subS, abS, colS, ddS, k0S, k1S, k2S, k3S, k5S, lSx, rS⟩, saSe, exSe, tySe, kSe⟩, noSe, PySem.W.mg_of X G aCS, ⟨gaSe, ggSe, exSe, hdSe⟩⟩
  have pB : PropOf K cP "base" pb fmb := ⟨amb, amb1, amb2, rb, amb3⟩
  have pS : PropOf K cP "shift" ph fmh := ⟨amh, amh1, amh2, rh, amh3⟩
  subst etn0 etn1 etn2 etn3 ets0 ets1 ets2 ets3 ets4 ets5
  have Ttn : Tab K w dtn numS := tab_of (l := [("0", 0, ptn0, qtn0), ("1", 1, ptn1, qtn1), ("2", 2, ptn2, qtn2), ("3", 3, ptn3, qtn3)]) ttn rfl wtn fun z => rfl
  have Tts : Tab K w dts shS := tab_of (l := [("-3", (-3), pts0, qts0), ("-2", (-2), pts1, qts1), ("-1", (-1), pts2, qts2), ("+1", 1, pts3, qts3), ("+2", 2, pts4, qts4), ("+3", 3, pts5, qts5)]) tts rfl wts fun z => rfl
  refine ⟨PySem.W.fnOf "law" "law" (defArgs sLaw) (defBody sLaw) (defScope sLaw) .none kVla dcla pmla anla cdla ctla, fun s v => .of_eq rfl, fun base _ _ => ?_⟩
  have gm := PySem.W.mg_of X G gM
  have mDct := PySem.W.mg_none_of X G zdict
  have Gwh : FnOk l.prog w K mg base CX0 1 _ _ ["value"] (spWhole K) := ok_whole Fwh B D
  have Gii : FnOk l.prog w K mg base CX0 2 _ _ ["value", "low", "high"] (spIsInt K) := ok_isInt Fii Gwh mwh kwh bwh
  have Gfr : FnOk l.prog w K mg base CX0 2 _ _ ["value", "low"] (spIsFrom K) := ok_isFrom Ffr Gwh mwh kwh bwh
  have Gna : FnOk l.prog w K mg base CX0 1 _ _ ["value"] (spIsName K) := ok_isName Fna B D (PySem.W.mg_of X G gL) (PySem.W.mg_of X G gA)
  have Gle : FnOk l.prog w K mg base CX0 1 _ _ ["base"] spLeast := ok_least Fle gm
  have Gar : FnOk l.prog w K mg base CX0 3 _ _ ["value"] (spAre K) := ok_are Far B D mDct (PySem.W.mg_of X G gU) Gna mna kna bna Gfr mfr kfr bfr
  have GI : FnOk l.prog w K mg base CX0 3 fI _ ["self", "base", "shift"] (spInit cP) := ok_init FI Z Gna mna kna bna Gii mii kii bii Gle mle kle ble gm
  have T : Tk l.prog w K mg base fta _ := ⟨ok_take Fta B, mta, kta, bta⟩
  have Gpt : FnOk l.prog w K mg base CX0 2 _ _ ["text"] spParts := ok_parts Fpt Gna mna kna bna (PySem.W.mg_of X G gtn) (PySem.W.mg_of X G gts) Ttn Tts
  have GX : FnOk l.prog w K mg base CX0 1 fmx _ ["self", "value"] (spX1 K cX "value") := ok_xinit Fmx TX (PySem.W.mg_of X G aCM) ⟨rdM, gaM⟩ fcM
  have GXI : FnOk l.prog w K mg base CX0 1 fmi _ ["self", "value"] (spX1 K cI "value") := ok_xinitI Fmi TI (PySem.W.mg_of X G aCM) ⟨rdM, gaM⟩ fcM
  have GXS : FnOk l.prog w K mg base CX0 1 fmt _ ["self", "value"] (spX1 K cS "value") := ok_xinitS Fmt TS (PySem.W.mg_of X G aCM) ⟨rdM, gaM⟩ fcM
  have GO : FnOk l.prog w K mg base (L2.CX l.prog w) 5 fmo _ ["cls", "value"] (spOf K cP cX) := ok_of Fmo Z Y N1 B D Gii mii kii bii Gpt mpt kpt bpt gm M GI kb1 kb2 TX GX amx tfX bmx
  have O : OfM l.prog w K mg base cP cX po fmo _ := ⟨GO, ⟨rdP, gaP⟩, ⟨amo, ⟨_, amo2⟩, fo⟩, bmo⟩
  have Gb : FnOk l.prog w K mg base CX0 1 fmb _ ["self"] (spBase cP) := ok_base Fmb Z
  have Gs : FnOk l.prog w K mg base CX0 1 fmh _ ["self"] (spShift cP) := ok_shift Fmh Z
  have GIS : FnOk l.prog w K mg base (L2.CX l.prog w) 4 fg0 _ ["self", "sizes", "page"] (spInitS K cG cS cI) := ok_initS FS TT mDct Gar mar kar bar Gfr mfr kfr bfr TS GXS amt tfS bmt TI GXI ami tfI bmi
  have GG : FnOk l.prog w K mg base (L2.CX l.prog w) 6 fg3 _ ["self", "at"] (spGetS K cG cP cX) := ok_getS Fg3 Z TT O TX GX amx tfX bmx pB Gb bmb pS Gs bmh
  have GP : FnOk l.prog w K mg base (L2.CX l.prog w) 8 fg6 _ ["self", "place", "other"] (spSameS K cG cP cX) := ok_sameS Fg6 TT GG bg3 ag3 fog jg3
  have GZ : FnOk l.prog w K mg base CX0 1 fg1 _ ["self"] (spSizesS cG) := ok_sizesS Fg1 TT mDct
  have GA : FnOk l.prog w K mg base CX0 5 fmd _ ["self", "other"] (spAdd cP) := ok_add Fmd Z Gii mii kii bii Gle mle kle ble gm M GI kb2
  have GPg : FnOk l.prog w K mg base CX0 1 fg2 _ ["self"] (spPageS cG) := ok_pageS Fg2 TT
  have GC : FnOk l.prog w K mg base CX0 1 fg5 _ ["self", "x"] (spContS K cG) := ok_contS Fg5 TT D
  have GE : FnOk l.prog w K mg base CX0 1 fg7 _ ["self", "other"] (spEqS K cG) := ok_eqS Fg7 TT YS D
  have mR := PySem.W.mg_none_of X G zrepr
  have mLst := PySem.W.mg_none_of X G zlist
  have GEq : FnOk l.prog w K mg base CX0 6 fer _ ["_law_box_here", "_law_worths", "_law_roots_here", "_law_much"] (spEqRight K) := ok_eqRight Fer B mDct mLst YS TT MS GIS kS2 kS0 GE bg7 ag7 jg7 hneG
  have GIr : FnG l.prog w K mg base CX0 5 fir _ ["_law_setting", "_law_worths", "_law_roots_here"] (spInRight K cG) := ok_inRight Fir B D mR Z Y YS M (kit_own xiP (by decide +kernel)) (kit_own xsP (by decide +kernel)) (kit_own xiG (by decide +kernel)) (kit_own xsG (by decide +kernel)) GI hds2 bI2 kb1 GC bg5 ag5 jg5
  exact ok_law Fla B mR mDct mLst T ⟨ok_cell Fce B, mce, kce, bce⟩ ⟨ok_box Fbo B, mbo, kbo, bbo⟩ ⟨ok_roots6 Frt T B, mrt, krt, brt⟩ ⟨ok_size6 Fsz T, msz, ksz, bsz⟩ ⟨ok_pair6 Fpr T B, mpr, kpr, bpr⟩ ⟨ok_worth6 Fwo, mwo, kwo, bwo⟩
    ⟨ok_told6 Fto T Z M N1 GI hds2 bI2 kb2 GA bmd TA, mto, kto, bto⟩ ⟨GIr, mir, kir, bir⟩ ⟨GEq, mer, ker, ber⟩ TT YS MS GIS kS2 bS2 hdsS GZ bg1 ⟨ag1, jg1, kg1⟩ GG bg3 ag3 fog jg3 GP bg6 kSm ⟨ag6, jg6, kg6⟩ pP GPg bg2 GE bg7 ag7 jg7 rfl (kit_ref hdG tG rfl) N1
theorem walk {l : PySem.W.OpenLaw} {q : Program} {loose : List Str} {XP : (Str → Option Value) → Heap → Prop} {YP : World → Heap → Prop} {d : DefRec} {K : Params → PySem.W.Frag} (hn : l.most = some 63) (hdf : d.params.defaults = [])
    (hY : ∀ (w : World) (h : Heap), YP w h → (K w.params).In h)
    (F : ∀ (w : World) (mg : Str → Option Value) (fa : Addr) (h : Heap), (K w.params).In h → h.Ns mainGlobals mg → mg d.name = some (.ref fa) →
      ∃ fd : FuncData, (∀ (s : Shared) (u : Value), BindsTo s fd ⟨[u], []⟩ [("_law_script", u)]) ∧ ∀ base : Heap, (K w.params).In base → base.Ns mainGlobals mg → FnG l.prog w (K w.params) mg base CX0 9 fa fd ["_law_script"] (spLaw (K w.params))) :
    PySem.W.WalkO q loose XP YP l.row.toRowW d [] (fun f vs => PySem.call f vs) :=
  walk_G (n := 63) (k := 9) (x := "_law_script") (CX := fun _ => CX0) (sp := fun w => spLaw (K w.params)) hn (by decide) hdf ⟨rfl, by decide, by decide⟩ hY F (fun _ _ a ns hl _ _ hS => ⟨a, ns, rfl, hS, hl, fun _ => rfl⟩) fun _ _ _ _ _ z => z
end Mz
set_option Elab.async false
set_option linter.all false
set_option maxRecDepth 100000
open PySem PySem.W PyProof.Rows in
set_option maxRecDepth 100000 in
set_option maxHeartbeats 0 in
theorem PySem.Challenge.cw_mapsizes_k06_settings_told_holds : PySem.Challenge.rw_mapsizes_k06_settings_told.Holds := by
  w_on; o_law; k_head; (case hw => w_witness2)
  k_fill
  refine Mz.walk (l := PySem.Challenge.rw_mapsizes_k06_settings_told) rfl rfl (fun w h Y => PySem.W.kIn_of Y) ?F
  case F =>
    intro w mg fa h KX G hmg
    refine' Mz.all_mk (w := w) KX G hmg ?awh ?lwh ?cwh ?kwh ?aii ?lii ?cii ?kii ?afr ?lfr ?cfr ?kfr ?ana ?lna ?cna ?kna ?ale ?lle ?cle ?kle ?apt ?lpt ?cpt ?kpt ?aar ?lar ?car ?kar ?ace ?lce ?cce ?kce ?abo ?lbo ?cbo ?kbo ?ata ?lta ?cta ?kta ?apr ?lpr ?cpr ?kpr ?ato ?lto ?cto ?kto ?art ?lrt ?crt ?krt ?asz ?lsz ?csz ?ksz ?awo ?lwo ?cwo ?kwo ?air ?lir ?cir ?kir ?aer ?ler ?cer ?ker ?ala ?lla ?cla ?kla ?aCP ?aCX ?aCI ?aCS ?aCG ?aCM ?amo ?amo2 ?lmo ?cmo ?kmo ?amb ?amb1 ?amb2 ?amb3 ?lmb ?cmb ?kmb ?amh ?amh1 ?amh2 ?amh3 ?lmh ?cmh ?kmh ?amd ?lmd ?cmd ?kmd ?amx ?lmx ?cmx ?kmx ?ami ?lmi ?cmi ?kmi ?amt ?lmt ?cmt ?kmt ?ag0 ?lg0 ?cg0 ?kg0 ?ag1 ?lg1 ?cg1 ?kg1 ?ag2 ?ag21 ?ag22 ?ag23 ?lg2 ?cg2 ?kg2 ?ag5 ?lg5 ?cg5 ?kg5 ?ag7 ?lg7 ?cg7 ?kg7 ?ag3 ?lg3 ?cg3 ?kg3 ?ag6 ?lg6 ?cg6 ?kg6 ?jmd ?jg0 ?jg1 ?jg3 ?jg5 ?jg6 ?jg7 ?fo ?fog ?tfX ?tfI ?tfS ?eG ?iI ?jI ?lI ?cI_ ?kI ?lT ?sD ?pg ?hd ?pv_ ?sa ?mk ?kc ?nB ?nS ?ha ?hn ?htk ?hm ?tP ?rdP ?gaP ?pgG ?hdG ?pvG ?saG ?mkG ?kcG ?nZG ?nPG ?haG ?hmG ?hneG ?xiP ?xsP ?xiG ?xsG ?tG ?sG ?sf ?ra ?ia ?ira ?lXx ?rX ?saXe ?exXe ?tyXe ?kXe ?gaXe ?ggXe ?hdXe ?suXe ?noXe ?lIx ?rI ?saIe ?exIe ?tyIe ?kIe ?gaIe ?ggIe ?hdIe ?suIe ?noIe ?lSx ?rS ?saSe ?exSe ?tySe ?kSe ?gaSe ?ggSe ?hdSe ?suSe ?noSe ?rdM ?gaM ?fcM ?gL ?gA ?gM ?gU ?gtn ?ttn ?etn0 ?etn1 ?etn2 ?etn3 ?wtn ?gts ?tts ?ets0 ?ets1 ?ets2 ?ets3 ?ets4 ?ets5 ?wts ?zlen ?zmax ?zmin ?zint ?zrange ?zisinstance ?zbool ?zstr ?zall ?zrepr ?zdict ?zlist
    (case awh => k_is)
    (case lwh => k_is)
    (case cwh => k_is)
    (case kwh => k_is)
    (case aii => k_is)
    (case lii => k_is)
    (case cii => k_is)
    (case kii => k_is)
    (case afr => k_is)
    (case lfr => k_is)
    (case cfr => k_is)
    (case kfr => k_is)
    (case ana => k_is)
    (case lna => k_is)
    (case cna => k_is)
    (case kna => k_is)
    (case ale => k_is)
    (case lle => k_is)
    (case cle => k_is)
    (case kle => k_is)
    (case apt => k_is)
    (case lpt => k_is)
    (case cpt => k_is)
    (case kpt => k_is)
    (case aar => k_is)
    (case lar => k_is)
    (case car => k_is)
    (case kar => k_is)
    (case ace => k_is)
    (case lce => k_is)
    (case cce => k_is)
    (case kce => k_is)
    (case abo => k_is)
    (case lbo => k_is)
    (case cbo => k_is)
    (case kbo => k_is)
    (case ata => k_is)
    (case lta => k_is)
    (case cta => k_is)
    (case kta => k_is)
    (case apr => k_is)
    (case lpr => k_is)
    (case cpr => k_is)
    (case kpr => k_is)
    (case ato => k_is)
    (case lto => k_is)
    (case cto => k_is)
    (case kto => k_is)
    (case art => k_is)
    (case lrt => k_is)
    (case crt => k_is)
    (case krt => k_is)
    (case asz => k_is)
    (case lsz => k_is)
    (case csz => k_is)
    (case ksz => k_is)
    (case awo => k_is)
    (case lwo => k_is)
    (case cwo => k_is)
    (case kwo => k_is)
    (case air => k_is)
    (case lir => k_is)
    (case cir => k_is)
    (case kir => k_is)
    (case aer => k_is)
    (case ler => k_is)
    (case cer => k_is)
    (case ker => k_is)
    (case ala => k_is)
    (case lla => k_is)
    (case cla => k_is)
    (case kla => k_is)
    (case aCP => k_is)
    (case aCX => k_is)
    (case aCI => k_is)
    (case aCS => k_is)
    (case aCG => k_is)
    (case aCM => k_is)
    (case amo => k_is)
    (case amo2 => k_is)
    (case lmo => k_is)
    (case cmo => k_is)
    (case kmo => k_is)
    (case amb => k_is)
    (case amb1 => k_is)
    (case amb2 => k_is)
    (case amb3 => k_is)
    (case lmb => k_is)
    (case cmb => k_is)
    (case kmb => k_is)
    (case amh => k_is)
    (case amh1 => k_is)
    (case amh2 => k_is)
    (case amh3 => k_is)
    (case lmh => k_is)
    (case cmh => k_is)
    (case kmh => k_is)
    (case amd => k_is)
    (case lmd => k_is)
    (case cmd => k_is)
    (case kmd => k_is)
    (case amx => k_is)
    (case lmx => k_is)
    (case cmx => k_is)
    (case kmx => k_is)
    (case ami => k_is)
    (case lmi => k_is)
    (case cmi => k_is)
    (case kmi => k_is)
    (case amt => k_is)
    (case lmt => k_is)
    (case cmt => k_is)
    (case kmt => k_is)
    (case ag0 => k_is)
    (case lg0 => k_is)
    (case cg0 => k_is)
    (case kg0 => k_is)
    (case ag1 => k_is)
    (case lg1 => k_is)
    (case cg1 => k_is)
    (case kg1 => k_is)
    (case ag2 => k_is)
    (case ag21 => k_is)
    (case ag22 => k_is)
    (case ag23 => k_is)
    (case lg2 => k_is)
    (case cg2 => k_is)
    (case kg2 => k_is)
    (case ag5 => k_is)
    (case lg5 => k_is)
    (case cg5 => k_is)
    (case kg5 => k_is)
    (case ag7 => k_is)
    (case lg7 => k_is)
    (case cg7 => k_is)
    (case kg7 => k_is)
    (case ag3 => k_is)
    (case lg3 => k_is)
    (case cg3 => k_is)
    (case kg3 => k_is)
    (case ag6 => k_is)
    (case lg6 => k_is)
    (case cg6 => k_is)
    (case kg6 => k_is)
    (case jmd => k_is)
    (case jg0 => k_is)
    (case jg1 => k_is)
    (case jg3 => k_is)
    (case jg5 => k_is)
    (case jg6 => k_is)
    (case jg7 => k_is)
    (case fo => k_is)
    (case fog => k_is)
    (case tfX => k_is)
    (case tfI => k_is)
    (case tfS => k_is)
    (case eG => rfl)
    (case iI => k_is)
    (case jI => k_is)
    (case lI => k_is)
    (case cI_ => k_is)
    (case kI => k_is)
    (case lT => k_is)
    (case sD => k_is)
    (case pg => k_is)
    (case hd => k_is)
    (case pv_ => k_is)
    (case sa => k_is)
    (case mk => k_is)
    (case kc => k_is)
    (case nB => k_is)
    (case nS => k_is)
    (case ha => k_is)
    (case hn => k_is)
    (case htk => k_is)
    (case hm => k_is)
    (case tP => k_is)
    (case rdP => k_is)
    (case gaP => k_is)
    (case pgG => k_is)
    (case hdG => k_is)
    (case pvG => k_is)
    (case saG => k_is)
    (case mkG => k_is)
    (case kcG => k_is)
    (case nZG => k_is)
    (case nPG => k_is)
    (case haG => k_is)
    (case hmG => k_is)
    (case hneG => k_is)
    (case xiP => k_is)
    (case xsP => k_is)
    (case xiG => k_is)
    (case xsG => k_is)
    (case tG => k_is)
    (case sG => k_is)
    (case sf => k_is)
    (case ra => k_is)
    (case ia => k_is)
    (case ira => k_is)
    (case lXx => k_is)
    (case rX => rfl)
    (case saXe => k_is)
    (case exXe => k_is)
    (case tyXe => k_is)
    (case kXe => k_is)
    (case gaXe => k_is)
    (case ggXe => k_is)
    (case hdXe => k_is)
    (case suXe => k_is)
    (case noXe => k_is)
    (case lIx => k_is)
    (case rI => rfl)
    (case saIe => k_is)
    (case exIe => k_is)
    (case tyIe => k_is)
    (case kIe => k_is)
    (case gaIe => k_is)
    (case ggIe => k_is)
    (case hdIe => k_is)
    (case suIe => k_is)
    (case noIe => k_is)
    (case lSx => k_is)
    (case rS => rfl)
    (case saSe => k_is)
    (case exSe => k_is)
    (case tySe => k_is)
    (case kSe => k_is)
    (case gaSe => k_is)
    (case ggSe => k_is)
    (case hdSe => k_is)
    (case suSe => k_is)
    (case noSe => k_is)
    (case rdM => k_is)
    (case gaM => k_is)
    (case fcM => k_is)
    (case gL => k_is)
    (case gA => k_is)
    (case gM => k_is)
    (case gU => k_is)
    (case gtn => k_is)
    (case ttn => k_is)
    (case etn0 => rfl)
    (case etn1 => rfl)
    (case etn2 => rfl)
    (case etn3 => rfl)
    (case wtn => first | rfl | k_is)
    (case gts => k_is)
    (case tts => k_is)
    (case ets0 => rfl)
    (case ets1 => rfl)
    (case ets2 => rfl)
    (case ets3 => rfl)
    (case ets4 => rfl)
    (case ets5 => rfl)
    (case wts => first | rfl | k_is)
    (case zlen => k_is)
    (case zmax => k_is)
    (case zmin => k_is)
    (case zint => k_is)
    (case zrange => k_is)
    (case zisinstance => k_is)
    (case zbool => k_is)
    (case zstr => k_is)
    (case zall => k_is)
    (case zrepr => k_is)
    (case zdict => k_is)
    (case zlist => k_is)
