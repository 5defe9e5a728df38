import PyProof.Rows.All
import Wide.All
import OpenK.AllK
import Wide.FinOn
import PyProof.ReprRoads
import HandS.ForMost
import HandS.EndBits
import HandS.ForExc
import HandS.TryMany
import HandS.ExcInit
import HandS.ExcField
import HandS.ClsMeth
import HandS.IsInst
import KE.KCallOwn
import KE.KFmtOwn
import KE.KOpsOwn
import HandS.FStr
import KE.KxField
import HandS.MakeKwOnly
import HandS.ExcOwn
import PyProof.StrLawsRepr
import PyProof.TwoTypes
import PyProof.FactsAll.bool
import PyProof.FactsAll.int
import OpenK.KMeth
import KE.KEqNest
import HandS.DictComp
import HandS.Set
import HandS.SetBool
import HandS.Walk
import HandS.Star
import OpenK.KOps
import HandS.Wide
import HandS.Property
import HandS.TupAny
import HandS.Zip
import HandS.AnyAll
import HandS.StrMore
import PySem.Challenge.RW_mapsizes_k69_texts_of_none
import HandS.More
import HandS.Dict
import HandS.SetFor
import PyProof.SeqRoads2
import HandS.SetKeys
import HandS.Style
import HandS.WordsDict
import HandS.ListItems
import KE.KDictList
import HandS.OwnEq
import HandS.ListEq
import PyProof.NeKinds
import HandS.MapJoin
import HandS.FStrTup
import HandS.HotCalls
import HandS.TryOnly
import HandS.ExcIs
set_option Elab.async false
set_option linter.all false
set_option maxRecDepth 100000
set_option maxHeartbeats 4000000
/-! calls under which no container is being shown: the promises of defs that show lists -/
namespace Mz
open PySem PySem.Spec PyProof.Rows L2
section
variable {P : Program} {w : World} {K : PySem.W.Frag} {mg : Str → Option Value} {base : Heap} {CX : CXT} {k : Nat} {f : Addr} {fd : FuncData} {ps : List Str} {sp : Sp}
theorem quiet_deeper {A : Around} {env : Env} (h : A.guards = some []) : (A.deeper env).guards = some [] := h
theorem quiet_make {A : Around} {c : Addr} {us : List Value} {kw : List (Str × Value)} (h : A.guards = some []) : (A.under (.builtin "type.__call__" ⟨.ref c :: us, kw⟩)).guards = some [] := by
  have e : (Code.builtin "type.__call__" ⟨.ref c :: us, kw⟩).guards = [] := by
    have e2 : (Code.builtin "type.__call__" ⟨.ref c :: us, kw⟩).isGuard = false := by
      show guardIds.contains "type.__call__" = false
      decide +kernel
    unfold Code.guards
    rw [e2]
    rfl
  show pushGuards (Code.builtin "type.__call__" ⟨.ref c :: us, kw⟩).guards A.guards = some []
  rw [e, h]
  rfl
/-- a def's promise where nothing is being shown around it -/
structure FnG (P : Program) (w : World) (K : PySem.W.Frag) (mg : Str → Option Value) (base : Heap) (CX : CXT) (k : Nat) (f : Addr) (fd : FuncData) (ps : List Str) (sp : Sp) : Prop where
  lenG : ∀ vs H Q E, sp vs H Q E → vs.length = ps.length
  runG : ∀ (A : Around) (outer : List Env) (s : Shared) (H : Hp) (args : Args) (us : List Value) (vs : List V) (Q : VK) (E : XK),
    A.guards = some [] → Room k A → Env0 P w K mg base A outer s H → BindsTo s fd args (ps.zip us) → Vals vs us → sp vs H Q E →
    codeAny (model P w) A (.call (.ref f) args) (CR CX outer P w H s Q E) s
theorem FnG.of (F : FnOk P w K mg base CX k f fd ps sp) : FnG P w K mg base CX k f fd ps sp :=
  ⟨F.len, fun A outer s H args us vs Q E _ => F.run A outer s H args us vs Q E⟩
theorem FnG.mono {j : Nat} (F : FnG P w K mg base CX j f fd ps sp) (h : j ≤ k) : FnG P w K mg base CX k f fd ps sp :=
  ⟨F.lenG, fun A outer s H args us vs Q E g r => F.runG A outer s H args us vs Q E g (r.mono h)⟩
/-- the def by its body, told that nothing is being shown -/
theorem fnG_of {name qual : Str} {params : Arguments} {body : List Stmt} {scope : Scope} {dV kV doc pm cdv ct oc : Value} {an od : Option Addr} {osl : Array (Option Value)} {N : List Str}
    (lk : K.lookup f = some ⟨oc, od, .func (PySem.W.fnOf name qual params body scope dV kV doc pm an cdv ct), osl⟩) (hcd : PySem.W.codeIn K cdv qual = true) (S : FnScope N ps scope)
    (len : ∀ vs H Q E, sp vs H Q E → vs.length = ps.length)
    (hb : ∀ (A : Around) (outer : List Env) (s : Shared) (H : Hp) (vs : List V) (Q : VK) (E : XK), A.guards = some [] → Room k (A.deeper (envOfC qual scope s.heap.objs.size f cdv)) → sp vs H Q E →
      ∃ t, PSs (cxOf CX P w K mg base N qual scope f cdv A outer s H E) body t ∧ t { nx := fun _ H' => Q .non H', rt := Q } (start N vs) H) :
    FnG P w K mg base CX (k + 1) f (PySem.W.fnOf name qual params body scope dV kV doc pm an cdv ct) ps sp := by
  refine ⟨len, fun A outer s H args us vs Q E hg hr e0 hbi r hsp => ?_⟩
  -- the promise of the same def at this very place alone: whoever runs it stands at A
  have spA : ∀ (A2 : Around), A2 = A → A2.guards = some [] := fun A2 e => by
    rw [e]
    exact hg
  have lenv := len _ _ _ _ hsp
  have KX : K.In s.heap := e0.mod.kin.keeps fun b o e => (e0.bs b o e).1
  have lim : s.heap.NoLimit := e0.mod.nolimit.keeps fun b o e => (e0.bs b o e).1
  have kinds : ∀ y ∈ ps.zip us, scope.names.lookup y.1 = some .local ∨ (scope.names.lookup y.1 = some .cell ∧ ((cellsFrom (s.heap.objs.size + 1) scope.names []).lookup y.1).isSome = true) := by
    intro y hy
    obtain ⟨n, v⟩ := y
    rcases S.par n (List.of_mem_zip hy).1 with q | q
    · exact .inl q
    · exact .inr ⟨q, PySem.W.cellsFrom_some _ _ _ (.inl q)⟩
  refine codeAny_call_function hr.depth (KX _ _ lk) rfl S.co S.gen rfl (PySem.W.codeRec_of KX hcd) (hbi _ _ _ _ ?_)
  refine wpAny_newFunctionEnv_cells S.kind kinds fun env he s1 x => ?_
  subst he
  refine ⟨lim.keeps x.toInCall.keep, codeAny_func ?_⟩
  obtain ⟨t, ht, hq⟩ := hb A outer s H vs Q E hg (hr.deeper _) hsp
  have I : Inv (cxOf CX P w K mg base N qual scope f cdv A outer s H E) [] (start N vs) H s1 := inv_start S hr.hd e0 lenv r x
  refine wpAny_mono (ht.run [] s1 (start N vs) H _ I hq) (fun fl s' hs => ?_) fun e s' hs => hs
  cases fl with
  | ret u =>
    obtain ⟨v, σ', H', J, rv, q⟩ := hs
    exact ⟨v, H', J.os, J.bare, J.base, J.hok, rv, q⟩
  | next =>
    obtain ⟨σ', H', J, q⟩ := hs
    exact ⟨V.non, H', J.os, J.bare, J.base, J.hok, rfl, q⟩
  | brk =>
    obtain ⟨_, _, _, q⟩ := hs
    exact q.elim
  | cont =>
    obtain ⟨_, _, _, q⟩ := hs
    exact q.elim
end
section
variable {P : Program} {w : World} {K : PySem.W.Frag} {mg : Str → Option Value} {base : Heap}
theorem fun_okG {x qual : Str} {st : Stmt} {f : Addr} {fd : FuncData} {N ps : List Str} {k : Nat} {sp : Sp} (F : Fun K x qual st f fd) (S : FnScope N ps (defScope st)) (len : ∀ vs H Q E, sp vs H Q E → vs.length = ps.length)
    (hb : ∀ (cdv : Value) (A : Around) (outer : List Env) (s : Shared) (H : Hp) (vs : List V) (Q : VK) (E : XK), A.guards = some [] → Room k (A.deeper (envOfC qual (defScope st) s.heap.objs.size f cdv)) → sp vs H Q E →
      ∃ t, PSs (cxOf CX0 P w K mg base N qual (defScope st) f cdv A outer s H E).nox (defBody st) t ∧ t { nx := fun _ H' => Q .non H', rt := Q } (start N vs) H) : FnG P w K mg base CX0 (k + 1) f fd ps sp := by
  obtain ⟨oc, od, kV, doc, pm, an, cdv, ct, osl, rfl, lk, hcd⟩ := F.ex
  refine fnG_of lk hcd S len fun A outer s H vs Q E hg hr hsp => ?_
  obtain ⟨t, h, q⟩ := hb cdv A outer s H vs Q E hg hr hsp
  exact ⟨t, h.nox, q⟩
end
section
variable {X : Cx} {CX : CXT} {k : Nat} {f : Addr} {fd : FuncData} {ps : List Str} {sp : Sp} {dvs : List V} {ds : List Value} {E : XK} {x : Str} {p pos : Pos} {e : Expr} {es : List Expr} {t : TA}
/-- a call of such a def -/
theorem pe_callG (F : FnG X.prog X.w X.K X.mg X.base CX k f fd ps sp) (g0 : X.A.guards = some []) (hr : Room k X.A) (hg : Gl X x) (hm : X.mg x = some (.ref f)) (hk : PySem.W.keepIn X.K (.ref f) = true) (hb : Binds X.K fd ps ds) (hd : Vals dvs ds) (hx : Passes CX X E)
    (ha : PA X (e :: es) t) (hdb : (x == ("__debug__" : Str)) = false := by decide) (he : starEach (e :: es) X.env = (false, eval e X.env) :: starEach es X.env := by rfl) (hpl : (backTo pos (starEach es X.env)).any (·.1) = false := by rfl) :
    PE X (.Call (.Name x p) (e :: es) [] pos) (tCall sp dvs E t) := by
  refine ⟨fun pins s σ H Q I h => wpAny_Call_Name_kw (ld_glob I hg hm ?_ hdb)⟩
  refine PySem.W.callWith_K (h₀ := X.base) I.ok.mod.kin hk (thn (ha.run pos pins s σ H _ I h) fun us s1 hv => ?_) he hpl
  obtain ⟨vs, H1, I1, r, q⟩ := hv
  refine ⟨I1.kIn, ?_⟩
  have r2 : Vals (vs ++ dvs) (us ++ ds) := r.append hd
  have hl : (us ++ ds).length = ps.length := r2.length.symm.trans (F.lenG _ _ _ _ q)
  refine wpAny_call (codeAny_mono (F.runG X.A X.stack s1 H1 ⟨us, []⟩ (us ++ ds) (vs ++ dvs) Q E g0 hr I1.env0 (hb s1 us I1.kIn hl) r2 q) fun r s' hq => ?_)
  cases r with
  | error e => exact hx pins σ H1 s1 e s' I1 hq
  | ok fl =>
    cases fl with
    | ret u => exact I1.after hq
    | next => exact hq.elim
    | brk => exact hq.elim
    | cont => exact hq.elim
end
/-! ### repr of data -/
section
variable {X : Cx}
/-- repr(x), x a bool, None, an int of some size, a text, a list or a tuple of these -/
def rReprD (K : PySem.W.Frag) : List V → Hp → VK → Prop := fun xs H Q => ∃ x d, xs = [x] ∧ Dp K H x d ∧ PyData.showable d = true ∧ PyData.hasDict d = false ∧ PyData.depth d < 60 ∧ (PyData.shown d).length ≤ sizeLine ∧ Q (.str (PyData.shown d)) H
theorem call_reprD (g0 : X.A.guards = some []) (hu : X.A.units + 64 < cLine) : CallR X (.builtin "repr") (rReprD X.K) := by
  intro pins s σ H xs us Q I r h
  obtain ⟨x, d, rfl, hd, hs, hno, hdp, hz, q⟩ := h
  obtain ⟨u, rfl, rx⟩ := vals1 r
  have ends : ∀ h' t tk, (∀ b o, s.heap.get? b = some o → h'.get? b = some o) → EP X pins σ Q (.str (PyData.shown d) t) { s with heap := h', toks := tk } :=
    fun h' t tk hk => ⟨.str _, H, I.kept hk, ⟨_, rfl⟩, q⟩
  have keep : ∀ b o, s.heap.get? b = some o → s.heap.get? b = some o := fun _ _ z => z
  obtain ⟨as, rd⟩ := Dp.reads I d x u hd rx
  cases hd with
  | non =>
    cases rx
    exact PySem.P.repr_of_none (by simpa only [PyData.shown] using ends s.heap _ _ keep)
  | bl b =>
    cases rx
    exact PySem.P.repr_of_bool (by simpa only [PyData.shown] using ends s.heap _ _ keep)
  | int i =>
    obtain ⟨t, rfl⟩ := rx
    have hs' : i.natAbs.log2 < 1920 := by simpa [PyData.showable] using hs
    exact PySem.P.repr_of_int hs' (by simpa only [PyData.shown] using ends s.heap _ _ keep)
  | str z =>
    obtain ⟨t, rfl⟩ := rx
    exact PySem.P.repr_of_str (by simpa only [PyData.shown] using ends s.heap _ _ keep) (by simpa only [PyData.shown] using hz)
  | lst h1 h2 =>
    cases rx
    exact repr_of_reads' rd hs (fun z => by rw [hno] at z; cases z) g0 (by omega) keep (fun h' t tk hk => ends h' t tk hk) hz
  | tup h1 h2 =>
    cases rx
    exact repr_of_reads' rd hs (fun z => by rw [hno] at z; cases z) g0 (by omega) keep (fun h' t tk hk => ends h' t tk hk) hz
end
end Mz
set_option Elab.async false
set_option linter.all false
set_option maxRecDepth 100000
set_option maxHeartbeats 4000000
/-! the end of a row for a law whose promise wants that nothing is being shown -/
namespace Mz
open PySem PySem.Spec PyProof.Rows L2
theorem law_callG {P : Program} {w : World} {K : PySem.W.Frag} {mg mb : Str → Option Value} {CX : CXT} {k : Nat} {fa a : Addr} {fd : FuncData} {x : Str} {sp : Sp} {s1 : Shared} {vs : List Value} {ns : List Int}
    (KX : K.In s1.heap) (hns : s1.heap.Ns mainGlobals mg) (hb : s1.heap.Ns builtinsNs mb) (hbb : ∀ x : Str, x ≠ "__name__" → mb x = bootBuiltins x) (hlim : s1.heap.NoLimit) (hgen : s1.gens = #[])
    (ha : s1.heap.get? a = some { cls := .type "list", data := .seq vs.toArray }) (hi : IntsAre vs ns) (hl : ns.length ≤ sizeLine) (hr : Room k callerA)
    (F : ∀ base : Heap, K.In base → base.Ns mainGlobals mg → FnG P w K mg base CX k fa fd [x] sp) (hbind : ∀ (s : Shared) (u : Value), BindsTo s fd ⟨[u], []⟩ [(x, u)])
    (hsp : ∀ H : Hp, Only H → SqL K H a (ns.map V.int) → sp [.ref a] H (fun v _ => v = .bl true) fun _ _ _ => False)
    (hCX : ∀ H e s', CX [] H s1 (fun _ _ _ => False) e s' → False) :
    codeAny (model P w) callerA (.call (.ref fa) ⟨[.ref a], []⟩) (fun r s' => r = .ok (.ret (.bool true)) ∧ OldK s1.heap s'.heap ∧ s'.os = s1.os ∧ AllBare s'.gens) s1 := by
  have rv := vals_ints hi
  have lenV := hi.length
  have way : ∀ H : Hp, Only H → SqL K H a (ns.map V.int) → HOk P w H s1.heap → (∀ b u, H b = some u → b = a) → (∀ u, H a = some u → K.lookup a = none) →
      codeAny (model P w) callerA (.call (.ref fa) ⟨[.ref a], []⟩) (fun r s' => r = .ok (.ret (.bool true)) ∧ OldK s1.heap s'.heap ∧ s'.os = s1.os ∧ AllBare s'.gens) s1 := by
    intro H hO hS hok hA hK
    have untr : ∀ {b : Addr} {o : Obj} {es : Array DictEntry} {ep : Nat}, s1.heap.get? b = some o → o.data = .dict es ep → H b = none := by
      intro b o es ep e d
      rcases q : H b with _ | u
      · rfl
      · obtain rfl := hA b u q
        rw [ha] at e
        cases e
        exact nomatch (show Data.seq vs.toArray _ = Data.dict es ep from d)
    have nsK : ∀ {b : Addr} {m : Str → Option Value}, s1.heap.Ns b m → (hidT s1.heap H).Ns b m := by
      rintro b m ⟨o, es, ep, e, d, r⟩
      exact ⟨o, es, ep, hidT_get e (untr e d), d, r⟩
    have hKb : K.In (hidT s1.heap H) := by
      intro b o e
      refine hidT_get (KX b o e) ?_
      rcases q : H b with _ | u
      · rfl
      · obtain rfl := hA b u q
        have z := hK u q
        rw [z] at e
        cases e
    have hM : Mod K mg (hidT s1.heap H) := by
      obtain ⟨mc, h1, h2⟩ := hlim
      exact ⟨hKb, nsK hns, ⟨mb, nsK hb, hbb⟩, ⟨mc, nsK h1, h2⟩⟩
    have e0 : Env0 P w K mg (hidT s1.heap H) callerA [] s1 H :=
      ⟨rfl, hM, fun b o e => of_hidT e, Nat.le_of_eq (hidT_size _ _), trivial, fun b z => (nomatch (show b ∈ ([] : List Addr) from z)), hok, .of_eq hgen⟩
    have run := (F _ hKb (nsK hns)).runG callerA [] s1 H ⟨[.ref a], []⟩ [.ref a] [.ref a] _ _ rfl hr e0 (hbind s1 (.ref a)) (.cons rfl .nil) (hsp H hO hS)
    refine codeAny_mono run fun r s' h => ?_
    match r, h with
    | .error e, h => exact (hCX H e s' h).elim
    | .ok .next, h => exact h.elim
    | .ok .brk, h => exact h.elim
    | .ok .cont, h => exact h.elim
    | .ok (.ret u), h =>
      obtain ⟨v, H', os, bare, un, hok2, r2, q⟩ := h
      obtain rfl : v = .bl true := q
      obtain rfl : u = Value.bool true := r2
      refine ⟨rfl, OldK.of_keep fun b o e => ?_, os, bare⟩
      rcases q : H b with _ | u
      · exact un.keep b o e q (fun z => (nomatch (show b ∈ ([] : List Addr) from z))) (by simp)
      · rcases hO b with z | ⟨ob, xs, z⟩
        · rw [q] at z
          cases z
        · have z2 := un.frzs b ob _ z
          obtain ⟨e1, _⟩ := hok b _ z
          obtain ⟨e2, _⟩ := hok2 b _ z2
          rw [e] at e1
          cases e1
          exact e2
  rcases hk : K.lookup a with _ | o
  · have at_a : ∀ {b : Addr} {u : HO}, (if b = a then some (HO.frz { cls := .type "list", data := .seq vs.toArray } (.lst (ns.map V.int))) else none) = some u → b = a ∧ u = .frz { cls := .type "list", data := .seq vs.toArray } (.lst (ns.map V.int)) := by
      intro b u z
      by_cases hba : b = a
      · rw [if_pos hba] at z
        exact ⟨hba, (Option.some.inj z).symm⟩
      · rw [if_neg hba] at z
        cases z
    refine way (fun b => if b = a then some (.frz { cls := .type "list", data := .seq vs.toArray } (.lst (ns.map V.int))) else none) (fun b => ?_) (.inl (.inr ⟨{ cls := .type "list", data := .seq vs.toArray }, if_pos rfl⟩)) (fun b u z => ?_) (fun b u z => (at_a z).1) fun u _ => hk
    · by_cases hba : b = a
      · exact .inr ⟨_, _, if_pos hba⟩
      · exact .inl (if_neg hba)
    · obtain ⟨rfl, rfl⟩ := at_a z
      exact ⟨ha, by rw [List.length_map]; exact hl, vs, _, rv, ha⟩
  · have e := KX a o hk
    rw [ha] at e
    cases e
    refine way (fun _ => none) (fun _ => .inl rfl) (.inr ⟨_, vs.toArray, _, hk, rfl, rfl, rfl, by rw [List.size_toArray, lenV]; exact hl, by simpa using rv⟩) (fun b u z => ?_) (fun b u z => ?_) fun u z => ?_
    · exact nomatch (show (none : Option HO) = some u from z)
    · exact nomatch (show (none : Option HO) = some u from z)
    · exact nomatch (show (none : Option HO) = some u from z)
theorem walk_G {l : PySem.W.OpenLaw} {n k : Nat} {q : Program} {loose : List Str} {XP : (Str → Option Value) → Heap → Prop} {YP : World → Heap → Prop} {d : DefRec} {K : Params → PySem.W.Frag} {CX : World → CXT} {sp : World → Sp} {x : Str}
    (hn : l.most = some n) (hn2 : n ≤ sizeLine) (hdf : d.params.defaults = []) (hr : Room k callerA)
    (hY : ∀ (w : World) (h : Heap), YP w h → (K w.params).In h)
    (F : ∀ (w : World) (mg : Str → Option Value) (fa : Addr) (h : Heap), (K w.params).In h → h.Ns mainGlobals mg → mg d.name = some (.ref fa) →
      ∃ fd : FuncData, (∀ (s : Shared) (u : Value), BindsTo s fd ⟨[u], []⟩ [(x, u)]) ∧ ∀ base : Heap, (K w.params).In base → base.Ns mainGlobals mg → FnG l.prog w (K w.params) mg base (CX w) k fa fd [x] (sp w))
    (hsp : ∀ (w : World) (H : Hp) (a : Addr) (ns : List Int), ns.length ≤ n → (∀ z ∈ ns, Builtin.Int.intBits z ≤ 1048576) → Only H → SqL (K w.params) H a (ns.map V.int) → sp w [.ref a] H (fun v _ => v = .bl true) fun _ _ _ => False)
    (hCX : ∀ (w : World) (H : Hp) (s : Shared) (e : Value) (s' : Shared), CX w [] H s (fun _ _ _ => False) e s' → False) :
    PySem.W.WalkO q loose XP YP l.row.toRowW d [] (fun f vs => PySem.call f vs) := by
  refine Att.attach_callB hn hdf fun w s0 s1 mg mb fa o pm cd doc a vs ns G Y ho hd hcd hmg hobj hints hlen hbits hgen => ?_
  obtain ⟨fd, hb, hF⟩ := F w mg fa _ (hY w _ Y) G.T.g hmg
  exact law_callG (hY w _ Y) G.T.g G.T.b G.T.builtins G.T.nolimit hgen hobj hints (Nat.le_trans hlen hn2) hr hF hb (fun H hO hS => hsp w H a ns hlen hbits hO hS) fun H e s' => hCX w H s1 e s'
end Mz
set_option Elab.async false
set_option linter.all false
set_option maxRecDepth 100000
set_option maxHeartbeats 4000000
/-! try with several clauses «except X as n», the exception met by one of them; what else stands behind these clauses is never looked at -/
namespace Mz
open PySem PySem.Spec PyProof.Rows L2
/-- a clause: the class, the slot of its name, its suite -/
abbrev Cl := Value × Nat × (Addr → Value → Option Addr → TS)
def endsAs (i : Nat) (D : Ends) : Ends := { nx := fun t G => D.nx (t.set i none) G, rt := D.rt, bk := fun t G => D.bk (t.set i none) G, ct := fun t G => D.ct (t.set i none) G }
def wNam (K : PySem.W.Frag) (D : Ends) : List Cl → WX
  | [] => fun _ _ _ _ => False
  | (c, i, ts) :: r => fun cls d t G => ∃ b, PySem.W.exmOne K cls c = some b ∧ (b = true → ∀ a, G a = none → ts a cls d (endsAs i D) (t.set i (some (.ref a))) G) ∧ (b = false → wNam K D r cls d t G)
inductive Cls_ (X : Cx) : List ExceptHandler → List Cl → Prop
  | any (l : List ExceptHandler) : Cls_ X l []
  | one {x n : Str} {c : Value} {i : Nat} {ts : Addr → Value → Option Addr → TS} {st : Stmt} {suite : List Stmt} {p1 p2 : Pos} {hs : List ExceptHandler} {l : List Cl} (hi : X.N[i]? = some n) (hl : X.env.kindOf n = some .local) (hc : Names X x c)
      (hsu : ∀ (a : Addr) (oe : Obj) (cls : Value) (d : Option Addr) (pn : List (Addr × Obj)), Zc cls d oe → (∃ vs, oe.data = .fields vs) → PSs (X.suite a ((a, oe) :: pn)) (st :: suite) (ts a cls d)) (r : Cls_ X hs l) :
      Cls_ X (.ExceptHandler (some (.Name x p1)) (some n) (st :: suite) p2 :: hs) ((c, i, ts) :: l)
section
variable {X : Cx} {body : List Stmt} {hd0 : ExceptHandler} {hds : List ExceptHandler} {tb : WX → TS} {l : List Cl} {pos : Pos}
theorem ps_try_named (hst : X.stack = X.env :: X.outer) (hfr : X.env.frame = some X.env.locals) (hN : X.N.Nodup)
    (hb : ∀ (W : WX) (pn : List (Addr × Obj)) (xe : Value → Shared → Prop), Takes (X.tr pn xe) W → PassesOwn (model X.prog X.w) X.A X.env xe → PSs (X.tr pn xe) body (tb W))
    (hh : Cls_ X (hd0 :: hds) l) : PS X (.Try body (hd0 :: hds) [] [] pos) (fun D σ H => tb (wNam X.K D l) D σ H) := by
  refine ⟨fun pins s σ H D I h => ?_⟩
  have ok := I.ok
  have frames : X.A.frames = some (X.env :: X.outer) := ok.frames.trans (congrArg some hst)
  refine wpAny_Try_except (wpAny_mono ((hb (wNam X.K D l) (X.pn ++ pins) (fun e q1 => wpAny (model X.prog X.w) X.A (noteFrame e X.env) (fun _ q2 => wpAny (model X.prog X.w) X.A (setFlight e none) (fun _ q3 =>
    wpAny (model X.prog X.w) X.A (handleBy e X.env (hd0 :: hds)) (SP X pins D) X.xe q3) X.xe q2) X.xe q1) (fun u s' xx => ?_) PassesOwn.looking).run [] s σ H D (I.toTry _) h) (fun f q1 hsp => ?_) fun e q1 he => he)
  · obtain ⟨a, B, sI, pins2, t, G, cls, d, rfl, JT, nb, up, sky, na, os, ag, wish⟩ := xx
    have J : Inv X pins t G sI := JT.ofTry ok
    have sky2 : Sky B (X.env :: X.outer) a (Zc cls d) X.env.locals s'.heap := hst ▸ sky
    show wpAny (model X.prog X.w) X.A (noteFrame (.ref a) X.env) _ _ _
    refine Sky.land Zc.steady frames hfr sky2 fun g3 fl3 up3 => ?_
    have J3 : Inv X pins t G { s' with heap := g3 } := J.landed nb fl3.1 (up.trans up3) os ag
    obtain ⟨oe3, vs3, he3, hz3, hd3⟩ := fl3.there
    have off : a ∉ frs (X.env :: X.outer) := by
      intro hm
      obtain ⟨_, o2, e2, hnf⟩ := fl3.2.2.1.mem hm
      rw [he3] at e2
      cases e2
      exact hnf _ hd3
    have nL : a ≠ X.env.locals := fun z => off (List.mem_filterMap.mpr ⟨X.env, List.mem_cons_self, by rw [hfr, z]⟩)
    have nF : a ∉ X.fs := by
      intro hm
      obtain ⟨e, he, q⟩ := List.mem_filterMap.mp hm
      exact off (List.mem_filterMap.mpr ⟨e, List.mem_cons_of_mem _ he, q⟩)
    have S3 := J3.suite he3 hd3 na nL nF
    have go : ∀ {k : List ExceptHandler} {m : List Cl}, Cls_ X k m → wNam X.K D m cls d t G → wpAny (model X.prog X.w) X.A (handleBy (.ref a) X.env k) (SP X pins D) X.xe { s' with heap := g3 } := by
      intro k m hk
      induction hk with
      | any k => exact fun z => z.elim
      | @one x n c i ts st suite p1 p2 k2 m2 hi hl hc hsu r ih =>
        rintro ⟨b, hb1, hyes, hno⟩
        have locn : Loc X.env.scope n := .inl hl
        refine wpAny_handleBy_cons (codeAny_handlers_test ?_) (by intro q; cases q)
        have typ : PySem.W.Looks (model X.prog X.w) g3 (typeOf (.ref a)) cls := fun A Q E s k q => wpAny_typeOf_ref (k _ _ he3) (by rw [hz3.1]; exact q)
        have met := PySem.W.exm_one (M := model X.prog X.w) (J3.kIn) typ hb1
        have load : ∀ {Q : Value → Shared → Prop} {E : Value → Shared → Prop}, Q c { s' with heap := g3 } → wpAny (model X.prog X.w) (X.A.mark (some (.ref a))) (eval (.Name x p1) X.env) Q E { s' with heap := g3 } := by
          intro Q E q
          obtain ⟨h1, h2, h3 | ⟨h3, h4, h5⟩⟩ := hc
          · exact ld_glob (X := X.suite a ((a, oe3) :: (X.pn ++ pins))) S3 h1 h3 q h2
          · exact ld_blt (X := X.suite a ((a, oe3) :: (X.pn ++ pins))) S3 h1 h3 h4 q h5 h2
        refine load (met.here ?_)
        cases b with
        | false => exact ih (hno rfl)
        | true =>
          refine codeAny_handlers_suite_as (HandSPX.lands_againZ fl3 fun g4 fl4 up4 => ?_)
          have J4 : Inv X pins t G { s' with heap := g4 } := J.landed nb fl4.1 ((up.trans up3).trans up4) os ag
          obtain ⟨oe4, vs4, he4, hz4, hd4⟩ := fl4.there
          have S4 := J4.suite he4 hd4 na nL nF
          refine store_ok (X := X.suite a ((a, oe4) :: (X.pn ++ pins))) (v := .ref a) S4 hN hi locn rfl (fun q5 S5 => ?_) (.inr hl)
          refine wpAny_mono ((hsu a oe4 cls d (X.pn ++ pins) hz4 ⟨_, hd4⟩).run [] q5 _ G _ S5 (hyes rfl a na)) (fun f q6 hsp => ?_) (fun _ _ z => z.elim)
          have fin : ∀ {t6 : L2.St} {G6 : Hp} {Q : Shared → Prop}, Inv (X.suite a ((a, oe4) :: (X.pn ++ pins))) [] t6 G6 q6 → (∀ q7, Inv X pins (t6.set i none) G6 q7 → Q q7) →
              wpAny (model X.prog X.w) X.A (do bindName X.env n .none; unbindBehindTheSuite X.env n p2) (fun _ q7 => Q q7) X.xe q6 := fun S6 hq => gone_ok (S6.unsuite ok) hN hi hl hq
          match f, hsp with
          | .next, ⟨t6, G6, S6, q6⟩ => exact fin S6 fun _ J7 => ⟨_, _, J7, q6⟩
          | .brk, ⟨t6, G6, S6, q6⟩ => exact fin S6 fun _ J7 => ⟨_, _, J7, q6⟩
          | .cont, ⟨t6, G6, S6, q6⟩ => exact fin S6 fun _ J7 => ⟨_, _, J7, q6⟩
          | .ret u, ⟨v6, t6, G6, S6, r6, q6⟩ => exact fin S6 fun _ J7 => ⟨_, _, _, J7, r6, q6⟩
    first
      | exact go hh wish
      | exact HandSPX.setFlight_upZ fl3 fun h4 hh4 up4 => go hh wish
  · match f, hsp with
    | .next, ⟨t, G, J, q⟩ => exact wpAny_execs_nil ⟨t, G, J.ofTry ok, q⟩
    | .brk, ⟨t, G, J, q⟩ => exact ⟨t, G, J.ofTry ok, q⟩
    | .cont, ⟨t, G, J, q⟩ => exact ⟨t, G, J.ofTry ok, q⟩
    | .ret u, ⟨v, t, G, J, r, q⟩ => exact ⟨v, t, G, J.ofTry ok, r, q⟩
end
end Mz
set_option Elab.async false
set_option linter.all false
set_option maxRecDepth 100000
set_option maxHeartbeats 4000000
/-! own exceptions whose __init__ calls the __init__ of an own base by its name -/
namespace Mz
open PySem PySem.Spec PyProof.Rows L2
section
variable {X : Cx} {o e : Expr} {es : List Expr} {ta : TA} {x : Str} {cM : Addr} {p1 p2 pos : Pos}
/-- MapError.__init__(self, ..): what stands there is the built-in one -/
theorem pe_meinit {pl : Sem Bool} (hg : Gl X x) (hm : X.mg x = some (.ref cM)) (rd : ClX.CRead X.K cM (.type "type")) (fc : PySem.W.findCls X.K (.ref cM) (.type "type") "__init__" = some (.val (.builtin "ValueError.__init__"))) (ha : PA X (e :: es) ta)
    (hc : eval (.Call (.Attribute (.Name x p1) "__init__" p2) (e :: es) [] pos) X.env = (do
      let ov ← eval (.Name x p1) X.env
      standAt p2.atName
      let (f, first) ← holding [ov] (getMethod ov "__init__" pl)
      callWith pos f first (backTo pos (starEach (e :: es) X.env)) (backToKw pos (keywordEach [] X.env))) := by rfl)
    (hdb : (x == ("__debug__" : Str)) = false := by decide) (he : starEach (e :: es) X.env = (false, eval e X.env) :: starEach es X.env := by rfl) (hpl : (backTo pos (starEach es X.env)).any (·.1) = false := by rfl) :
    PE X (.Call (.Attribute (.Name x p1) "__init__" p2) (e :: es) [] pos) (tVeI X.K ta) := by
  refine ⟨fun pins s σ H Q I h => PySem.W.methodCall_KW (ld_glob I hg hm ?_ hdb) hc⟩
  refine PySem.W.method_cls I.kIn rd.ga (PySem.W.cls_value I.kIn rd.rd fc (by decide +kernel) ?_)
  show wpAny _ _ (callWith pos (Value.builtin "ValueError.__init__") [] (backTo pos (starEach (e :: es) X.env)) []) _ _ _
  refine PyProof.Rows.callWith_method1 (thn (ha.run pos pins _ σ H _ (I.tok _) h) fun us s1 hv => ?_) he hpl
  obtain ⟨vs, H1, I1, r1, a, C, ws, rfl, hl, T, ea, q⟩ := hv
  cases r1 with
  | @cons _ u0 _ ur ra rw2 =>
    obtain rfl : u0 = Value.ref a := ra
    have short : ur.length ≤ sizeLine := by
      have e2 := Paired.length rw2
      have e3 := sizeLine_eq
      omega
    exact oinit_ok T I1 ea short fun s2 J => ⟨.non, H1, J, rfl, q⟩
end
/-- an exception of one field that is being made: it is at a, no dict as yet; behind __init__ its dict holds the field -/
def spX1 (K : PySem.W.Frag) (C : Addr) (f : Str) : Sp := fun vs H Q _ => ∃ (a : Addr) (v : V), vs = [.ref a, v] ∧ H a = some (exo a C none) ∧
  ∀ dx, H dx = none → dx ≠ a → Q .non (upd (upd H dx (exd dx [(f, v)])) a (exo a C (some dx)))
end Mz
set_option Elab.async false
set_option linter.all false
set_option maxRecDepth 100000
set_option maxHeartbeats 4000000
/-! what an own class says of str, ==, !=, + -/
namespace Mz
open PySem PySem.Spec PyProof.Rows L2
section
variable {X : Cx} {CX : CXT} {k : Nat} {f C : Addr} {fd : FuncData} {ps : List Str} {sp : Sp} {E : XK}
/-- a def of the text called at another place of the same run -/
theorem run_at {pins : List (Addr × Obj)} {σ : L2.St} {H : Hp} {s : Shared} {A : Around} {Q : VK} {us : List Value} {vs : List V} {E2 : Value → Shared → Prop} (F : FnOk X.prog X.w X.K X.mg X.base CX k f fd ps sp) (hr : Room k A) (e0 : Env0 X.prog X.w X.K X.mg X.base A X.stack s H)
    (hb : Binds X.K fd ps []) (hx : ∀ e s2, CX X.stack H s E e s2 → E2 e s2) (I : Inv X pins σ H s) (r : Vals vs us) (h : sp vs H Q E) : wpAny (model X.prog X.w) A (call (.ref f) us) (EP X pins σ Q) E2 s := by
  have hl : (us ++ []).length = ps.length := by
    rw [List.append_nil]
    exact r.length.symm.trans (F.len _ _ _ _ h)
  have hbi := hb s us I.kIn hl
  rw [List.append_nil] at hbi
  refine wpAny_call (codeAny_mono (F.run A X.stack s H ⟨us, []⟩ us vs Q E hr e0 hbi r h) fun r s2 hq => ?_)
  match r, hq with
  | .error e, hq => exact hx e s2 hq
  | .ok (.ret u), hq => exact I.after hq
  | .ok .next, hq => exact hq.elim
  | .ok .brk, hq => exact hq.elim
  | .ok .cont, hq => exact hq.elim
/-- str(x) by the own __str__ -/
theorem call_strO (F : FnOk X.prog X.w X.K X.mg X.base CX0 k f fd ps sp) (hr : Room (k + 2) X.A) (hb : Binds X.K fd ps []) (hs : PySem.W.findIn X.K (.ref C) "__str__" = some (some (.ref f))) (hf : PySem.W.isFn X.K (.ref f) = true) :
    CallR X (.type "str") (fun xs H Q => ∃ a dx fs, xs = [.ref a] ∧ H a = some (.ins C dx fs) ∧ sp [.ref a] H (fun v H2 => ∃ z : Str, v = .str z ∧ Q (.str z) H2) E0) := by
  intro pins s σ H xs us Q I r h
  obtain ⟨a, dx, fs, rfl, ha, q⟩ := h
  obtain ⟨u, rfl, rx⟩ := vals1 r
  obtain rfl : u = Value.ref a := rx
  obtain ⟨mA, O, _⟩ := ins_get I.hok ha
  obtain ⟨od, J, _⟩ := O.look
  refine PySem.W.kso_call hr.in1.in1.units0 I.kIn J hs hf (wpAny_mono (run_at (E := E0) (vs := [.ref a]) (us := [.ref a]) F hr.in1.in1 I.env0.in1.in1 hb (fun _ _ z => z.elim) I (.cons rfl .nil) q) (fun u s2 hv => ?_) fun _ _ z => z)
  obtain ⟨v, H2, I2, rv, z, rfl, q2⟩ := hv
  obtain ⟨t, rfl⟩ := rv
  exact ⟨.str z, H2, I2, ⟨t, rfl⟩, q2⟩
/-- what stands on the other side of == : its type, no class below C -/
def Oth (K : PySem.W.Frag) (C : Addr) (H : Hp) (y : V) : Prop := ∃ t, TyX K H y t ∧ PySem.W.notFirst K C t = true
theorem op_eqO (F : FnOk X.prog X.w X.K X.mg X.base CX0 k f fd ps sp) (hr : Room k X.A) (hb : Binds X.K fd ps []) (hs : PySem.W.findIn X.K (.ref C) "__eq__" = some (some (.ref f))) (hf : PySem.W.isFn X.K (.ref f) = true) :
    OpR X (compareOp .Eq) (fun x y H Q => ∃ a dx fs, x = .ref a ∧ H a = some (.ins C dx fs) ∧ Oth X.K C H y ∧ sp [.ref a, y] H (fun v H2 => ∃ b : Bool, v = .bl b ∧ Q (.bl b) H2) E0) := by
  intro pins s σ H x y v u Q I rx ry h
  obtain ⟨a, dx, fs, rfl, ha, ⟨t, ty, nf⟩, q⟩ := h
  obtain rfl : v = Value.ref a := rx
  obtain ⟨mA, O, _⟩ := ins_get I.hok ha
  obtain ⟨od, J, _⟩ := O.look
  obtain ⟨m, hF⟩ := I.fr
  obtain ⟨P, Z, hp, _⟩ := kit_of I ry ty
  refine PySem.W.cmp_ofEq (PySem.W.cmp_K (op := .Eq) hr.units0 hF I.ok.mod.kin J (Z.ty _ _ I.kIn hp) nf hs hf (wpAny_mono (run_at (E := E0) (vs := [.ref a, y]) (us := [.ref a, u]) F hr I.env0 hb (fun _ _ z => z.elim) I (.cons rfl (.cons ry .nil)) q) (fun u s2 hv => ?_) fun _ _ z => z))
  obtain ⟨v, H2, I2, rv, b, rfl, q2⟩ := hv
  obtain rfl : u = Value.bool b := rv
  exact ⟨.bl b, H2, I2, rfl, q2⟩
/-- object.__ne__ by the own __eq__ -/
theorem op_neO (F : FnOk X.prog X.w X.K X.mg X.base CX0 k f fd ps sp) (hr : Room (k + 1) X.A) (hb : Binds X.K fd ps []) (hs : PySem.W.findIn X.K (.ref C) "__eq__" = some (some (.ref f))) (hf : PySem.W.isFn X.K (.ref f) = true)
    (hn : PySem.W.findIn X.K (.ref C) "__ne__" = some (some (.builtin "object.__ne__"))) (hm : PySem.W.mroIn X.K C (.type "object") = some true) :
    OpR X (compareOp .NotEq) (fun x y H Q => ∃ a dx fs, x = .ref a ∧ H a = some (.ins C dx fs) ∧ Oth X.K C H y ∧ sp [.ref a, y] H (fun v H2 => ∃ b : Bool, v = .bl b ∧ Q (.bl (!b)) H2) E0) := by
  intro pins s σ H x y v u Q I rx ry h
  obtain ⟨a, dx, fs, rfl, ha, ⟨t, ty, nf⟩, q⟩ := h
  obtain rfl : v = Value.ref a := rx
  obtain ⟨mA, O, _⟩ := ins_get I.hok ha
  obtain ⟨od, J, _⟩ := O.look
  obtain ⟨m, hF⟩ := I.fr
  obtain ⟨P, Z, hp, _⟩ := kit_of I ry ty
  have back : wpAny (model X.prog X.w) X.A.in1 (call (.ref f) [.ref a, u]) (fun r s2 => ∃ b, r = .bool b ∧ EP X pins σ Q (.bool (!b)) s2) X.xe s :=
    wpAny_mono (run_at (E := E0) (vs := [.ref a, y]) (us := [.ref a, u]) F hr.in1 I.env0.in1 hb (fun _ _ z => z.elim) I (.cons rfl (.cons ry .nil)) q) (fun r s2 hv => by
      obtain ⟨v, H2, I2, rv, b, rfl, q2⟩ := hv
      obtain rfl : r = Value.bool b := rv
      exact ⟨b, rfl, .bl (!b), H2, I2, rfl, q2⟩) fun _ _ z => z
  have body : wpAny (model X.prog X.w) X.A.in1 (Builtin.«object.__ne__» ⟨[.ref a, u], []⟩) (fun fin s2 => ∃ b : Bool, fin = .done (.ret (.bool b)) ∧ EP X pins σ Q (.bool b) s2) X.xe s := by
    unfold Builtin.«object.__ne__»
    refine wpAny_bind (m := slotArgs "__ne__" 1 _) (wpAny_pure ?_)
    refine wpAny_bind (m := cRoomFor _ _) (wpAny_cRoomFor hr.in1.units0 ?_)
    refine wpAny_bind (m := callSpecialIfBound? (.ref a) "__eq__" [u]) (PySem.W.ifBound_K I.kIn J hs hf (wpAny_mono back (fun r s2 hv => ?_) fun _ _ z => z))
    obtain ⟨b, rfl, e⟩ := hv
    exact wpAny_bind (wpAny_pure (wpAny_pure ⟨!b, rfl, e⟩))
  have sub : PySem.W.Looks (model X.prog X.w) s.heap (isInstance (.ref a) (.type "object")) true := J.type.andThen (PySem.W.looks_mroIn I.kIn hm)
  have ran : wpAny (model X.prog X.w) X.A (call (.builtin "object.__ne__") [.ref a, u]) (fun r s2 => ∃ b : Bool, r = .bool b ∧ EP X pins σ Q (.bool b) s2) X.xe s := by
    refine wpAny_call (codeAny_call_builtin PySem.F.slot_object_ne.plain PySem.F.entry_object_ne (PySem.W.check_slot (i := "object.__ne__") (owner := "object") (n := "__ne__") (by decide +kernel) (by decide +kernel) sub (PySem.F.args_object_ne_2 _ _) ?_))
    refine wpAny_mono body (fun fin s2 hv => ?_) fun _ _ z => z
    obtain ⟨b, rfl, e⟩ := hv
    exact ⟨b, rfl, e⟩
  have ask : wpAny (model X.prog X.w) X.A (callSpecialIfBound? (.ref a) "__ne__" [u]) (fun r s2 => ∃ b : Bool, r = some (.bool b) ∧ EP X pins σ Q (.bool b) s2) X.xe s := by
    simp only [callSpecialIfBound?, bindSpecialIfBound?]
    refine wpAny_holding (wpAny_bind (wpAny_bind (wpAny_bind (J.type.here ((PySem.W.looks_findIn I.kIn hn).here ?_)))))
    refine wpAny_bind (wpAny_askSetting (wpAny_ite ?_))
    have fin : wpAny (model X.prog X.w) X.A (call (.builtin "object.__ne__") ([.ref a] ++ [u]) >>= fun v => pure (some v)) (fun r s2 => ∃ b : Bool, r = some (.bool b) ∧ EP X pins σ Q (.bool b) s2) X.xe s :=
      wpAny_bind (wpAny_mono ran (fun v s2 hv => by
        obtain ⟨b, rfl, e⟩ := hv
        exact wpAny_pure ⟨b, rfl, e⟩) fun _ _ z => z)
    split
    · exact wpAny_bind ((PySem.W.Looks.of_pure (PySem.F.slot_object_ne.bind _)).here (wpAny_pure (by exact fin)))
    · exact wpAny_tryCatch (wpAny_bind ((PySem.W.Looks.of_pure (PySem.F.slot_object_ne.bind _)).here (wpAny_pure (by exact fin))))
  have one : wpAny (model X.prog X.w) X.A (tryCompare (.ref a) (cmpInfo .NotEq).2.1 u) (fun r s2 => ∃ v, r = some v ∧ EP X pins σ Q v s2) X.xe s := by
    unfold tryCompare
    refine wpAny_bind (wpAny_mono ask (fun r s2 hv => ?_) fun _ _ z => z)
    obtain ⟨b, rfl, e⟩ := hv
    exact wpAny_pure ⟨_, rfl, e⟩
  refine PySem.W.cmp_ofNotEq ?_
  unfold richCompare
  simp only [oneThing_ref]
  refine wpAny_holding (wpAny_bind (wpAny_cRoomFor (Nat.lt_of_lt_of_le hr.in1.units0 (Nat.le_refl _) |> fun z => Nat.lt_of_le_of_lt (Nat.le_succ _) z) ?_))
  refine wpAny_bind (J.type.here (wpAny_bind ((Z.ty _ _ I.kIn hp).here ?_)))
  have last : wpAny (model X.prog X.w) X.A (tryCompare (.ref a) (cmpInfo .NotEq).2.1 u) (fun r s2 => ∃ v, r = some v ∧ EP X pins σ Q v s2) X.xe s := one
  split
  · rename_i qn
    have e : PySem.W.subIn X.K t (.ref C) = some false := by
      rcases Bool.or_eq_true_iff.mp nf with e | e
      · rw [beq_iff_eq.mp e] at qn
        simp at qn
      · exact beq_iff_eq.mp e
    refine wpAny_bind ((PySem.W.looks_subIn I.kIn e).here ?_)
    simp only [Bool.false_eq_true, if_false]
    refine wpAny_bind (wpAny_mono last (fun r s2 z => ?_) fun _ _ e => e)
    obtain ⟨v, rfl, hq⟩ := z
    exact wpAny_pure hq
  · refine wpAny_bind (wpAny_pure ?_)
    simp only [Bool.false_eq_true, if_false]
    refine wpAny_bind (wpAny_mono last (fun r s2 z => ?_) fun _ _ e => e)
    obtain ⟨v, rfl, hq⟩ := z
    exact wpAny_pure hq
/-- what the class says of +, - with an int on the right -/
structure Arith (K : PySem.W.Frag) (C : Addr) (op : Operator) (f : Addr) : Prop where
  first : PySem.W.selfFirst K C = true
  own : PySem.W.findIn K (.ref C) (PySem.dunder op.info.2) = some (some (.ref f))
  fn : PySem.W.isFn K (.ref f) = true
  back : ∃ rc, PySem.W.findIn K (.ref C) (dunderR op.info.2) = some rc ∧ (rc = none ∨ ∃ g : Addr, rc = some (.ref g))
  io : ∃ fo, PySem.W.findIn K (.type "int") (PySem.dunder op.info.2) = some fo
  ir : ∃ ro, PySem.W.findIn K (.type "int") (dunderR op.info.2) = some ro
  sub : PySem.W.subIn K (.type "int") (.ref C) = some false
theorem op_binO {op : Operator} (F : FnOk X.prog X.w X.K X.mg X.base CX0 k f fd ps sp) (hr : Room k X.A) (hb : Binds X.K fd ps []) (T : Arith X.K C op f) :
    OpR X (binaryOp op) (fun x y H Q => ∃ a dx fs i, x = .ref a ∧ y = .int i ∧ H a = some (.ins C dx fs) ∧ sp [.ref a, y] H (fun v H2 => (∃ p, v = .ref p) ∧ Q v H2) E0) := by
  intro pins s σ H x y v u Q I rx ry h
  obtain ⟨a, dx, fs, i, rfl, rfl, ha, q⟩ := h
  obtain rfl : v = Value.ref a := rx
  obtain ⟨t, rfl⟩ := ry
  obtain ⟨mA, O, _⟩ := ins_get I.hok ha
  obtain ⟨od, J, _⟩ := O.look
  obtain ⟨m, hF⟩ := I.fr
  obtain ⟨rc, b1, b2⟩ := T.back
  obtain ⟨fo, c1⟩ := T.io
  obtain ⟨ro, c2⟩ := T.ir
  refine PySem.W.ksp_binT (T := "int") hF I.ok.mod.kin J rfl T.first T.own T.fn b1 b2 c1 c2 T.sub (wpAny_mono (run_at (E := E0) (vs := [.ref a, .int i]) (us := [.ref a, .int i t]) F hr I.env0 hb (fun _ _ z => z.elim) I (.cons rfl (.cons ⟨t, rfl⟩ .nil)) q) (fun r s2 hv => ?_) fun _ _ z => z)
  obtain ⟨v, H2, I2, rv, ⟨p, rfl⟩, q2⟩ := hv
  obtain rfl : r = Value.ref p := rv
  exact ⟨.ref p, H2, I2, rfl, q2⟩
end
end Mz
set_option Elab.async false
set_option linter.all false
set_option maxRecDepth 100000
set_option maxHeartbeats 4000000
/-! a small int in a field of an f-string with its sign written -/
namespace Mz
open PySem PySem.Spec PyProof.Rows L2 PySem.W
def signS (i : Int) : Str := if i = 1 then "+1" else if i = 2 then "+2" else if i = 3 then "+3" else if i = -1 then "-1" else if i = -2 then "-2" else "-3"
theorem small_six {i : Int} (h0 : -3 ≤ i) (h1 : i ≤ 3) (h : i ≠ 0) : i = 1 ∨ i = 2 ∨ i = 3 ∨ i = -1 ∨ i = -2 ∨ i = -3 := by omega
theorem fmt_plus {prog : Program} {w : World} {A : Around} {E : Value → Shared → Prop} {s : Shared} {i : Int} {t : Tok} {Q : Value → Shared → Prop} (h0 : -3 ≤ i) (h1 : i ≤ 3) (hz : i ≠ 0) (h : ∀ u k, Q (.str (signS i) u) { s with toks := k }) :
    wpAny (model prog w) A (formatField (.int i t) ("+d" : Str)) Q E s := by
  rcases small_six h0 h1 hz with rfl | rfl | rfl | rfl | rfl | rfl
  · exact KXf.field_int (y := "+1") rfl (by decide +kernel) (by decide +kernel) (by kxf_run_i) h
  · exact KXf.field_int (y := "+2") rfl (by decide +kernel) (by decide +kernel) (by kxf_run_i) h
  · exact KXf.field_int (y := "+3") rfl (by decide +kernel) (by decide +kernel) (by kxf_run_i) h
  · exact KXf.field_int (y := "-1") rfl (by decide +kernel) (by decide +kernel) (by kxf_run_i) h
  · exact KXf.field_int (y := "-2") rfl (by decide +kernel) (by decide +kernel) (by kxf_run_i) h
  · exact KXf.field_int (y := "-3") rfl (by decide +kernel) (by decide +kernel) (by kxf_run_i) h
section
variable {X : Cx}
theorem pe_fmtP {e : Expr} {te : TE} {j : Nat} {p1 p2 pos : Pos} (he : PE X e te) : PE X (.FormattedValue e (-1) (some (.JoinedStr [.Constant (.str "+d") j p1] p2)) pos)
    (fun σ H Q => te σ H fun x H1 => ∃ i : Int, x = .int i ∧ -3 ≤ i ∧ i ≤ 3 ∧ i ≠ 0 ∧ Q (.str (signS i)) H1) := by
  refine ⟨fun pins s σ H Q I h => ?_⟩
  refine wpAny_FormattedValue_spec (thn (he.run pins s σ H _ I h) fun v s1 hv => ?_)
  obtain ⟨x, H1, I1, r1, i, rfl, h0, h1, hz, q⟩ := hv
  obtain ⟨t, rfl⟩ := r1
  have sp : PE X (.JoinedStr [.Constant (.str "+d") j p1] p2) (tC (.str "+d")) := pe_joined1 pe_str
  refine wpAny_mono (sp.run pins s1 σ H1 (fun y H2 => y = .str "+d" ∧ Q (.str (signS i)) H2) I1 ⟨rfl, q⟩) (fun u s2 hv => ?_) fun _ _ z => z
  obtain ⟨y, H2, I2, r2, rfl, q2⟩ := hv
  obtain ⟨u2, rfl⟩ := r2
  exact ⟨_, u2, rfl, fmt_plus h0 h1 hz fun u k => ⟨.str (signS i), H2, I2.tok _, ⟨u, rfl⟩, q2⟩⟩
end
end Mz
set_option Elab.async false
set_option linter.all false
set_option maxRecDepth 100000
set_option maxHeartbeats 4000000
/-! a class held by a parameter, called; a classmethod called by keywords alone -/
namespace Mz
open PySem PySem.Spec PyProof.Rows L2
section
variable {X : Cx} {CX : CXT} {k n i : Nat} {f C : Addr} {fd : FuncData} {ps ks : List Str} {sp : Sp} {E : XK} {x : Str} {p pos : Pos} {e : Expr} {es : List Expr} {kws : List Keyword} {t tk : TA} {g : List Value → List Value → List Value} {gV : List V → List V → List V}
/-- cls(k = v, ..), cls a local name that holds the class at C -/
theorem pe_makeL0 (hN : X.N[i]? = some x) (hv : Vis X.env.scope x) (M : Mk X.K C f) (F : FnOk X.prog X.w X.K X.mg X.base CX k f fd ps sp) (hr : Room (k + 1) X.A) (hb : KBn X.K fd ps 1 ks g gV) (hx : Passes CX X E) (hkw : PK X kws tk)
    (hall : (backToKw pos (keywordEach kws X.env)).all (·.1.isSome) = true := by rfl) (hks : (backToKw pos (keywordEach kws X.env)).filterMap (·.1) = ks := by rfl) (hdb : (x == ("__debug__" : Str)) = false := by decide) (hcd : (x == ("__classdict__" : Str)) = false := by decide)
    (hpl : ((backTo pos (starEach [] X.env)).any (·.1) || (backToKw pos (keywordEach kws X.env)).any (·.1.isNone)) = false := by rfl) :
    PE X (.Call (.Name x p) [] kws pos) (fun σ H Q => σ[i]? = some (some (.ref C)) ∧ tMakeK C 0 ks.length sp gV E tNil tk σ H Q) := by
  refine ⟨fun pins s σ H Q I h => ?_⟩
  obtain ⟨hσ, h⟩ := h
  have ld : PE X (.Name x p) (tVar i) := pe_var hN hv hdb hcd
  refine wpAny_Call_Name_kw (wpAny_mono (ld.run pins s σ H (fun v H2 => v = .ref C ∧ tMakeK C 0 ks.length sp gV E tNil tk σ H2 Q) I ⟨_, hσ, rfl, h⟩) (fun u s1 hv => ?_) fun _ _ z => z)
  obtain ⟨v, H1, I1, rv, rfl, q⟩ := hv
  obtain rfl : u = Value.ref C := rv
  refine PySem.W.callWith_KW0 (h₀ := X.base) I.ok.mod.kin M.kp hall (thn (hkw.run pos pins s1 σ H1 _ I1 q) fun ws s2 hw => ?_) hpl
  obtain ⟨zs, H2, I2, rz, l1, l2, q2⟩ := hw
  rw [hks]
  exact ⟨I2.kIn, run_makeK (us := []) (vs := []) M F hr hb hx I2 .nil rz rfl l2 q2⟩
/-- cls(e, .., k = v, ..) -/
theorem pe_makeL (hN : X.N[i]? = some x) (hv : Vis X.env.scope x) (M : Mk X.K C f) (F : FnOk X.prog X.w X.K X.mg X.base CX k f fd ps sp) (hr : Room (k + 1) X.A) (hb : KBn X.K fd ps (n + 1) ks g gV) (hx : Passes CX X E) (ha : PA X (e :: es) t) (hkw : PK X kws tk)
    (hall : (backToKw pos (keywordEach kws X.env)).all (·.1.isSome) = true := by rfl) (hks : (backToKw pos (keywordEach kws X.env)).filterMap (·.1) = ks := by rfl) (hdb : (x == ("__debug__" : Str)) = false := by decide) (hcd : (x == ("__classdict__" : Str)) = false := by decide)
    (he : starEach (e :: es) X.env = (false, eval e X.env) :: starEach es X.env := by rfl) (hpl : ((backTo pos (starEach (e :: es) X.env)).any (·.1) || (backToKw pos (keywordEach kws X.env)).any (·.1.isNone)) = false := by rfl) :
    PE X (.Call (.Name x p) (e :: es) kws pos) (fun σ H Q => σ[i]? = some (some (.ref C)) ∧ tMakeK C n ks.length sp gV E t tk σ H Q) := by
  refine ⟨fun pins s σ H Q I h => ?_⟩
  obtain ⟨hσ, h⟩ := h
  have ld : PE X (.Name x p) (tVar i) := pe_var hN hv hdb hcd
  refine wpAny_Call_Name_kw (wpAny_mono (ld.run pins s σ H (fun v H2 => v = .ref C ∧ tMakeK C n ks.length sp gV E t tk σ H2 Q) I ⟨_, hσ, rfl, h⟩) (fun u s1 hv => ?_) fun _ _ z => z)
  obtain ⟨v, H1, I1, rv, rfl, q⟩ := hv
  obtain rfl : u = Value.ref C := rv
  refine PySem.W.callWith_KW (h₀ := X.base) I.ok.mod.kin M.kp hall (thn (ha.run pos pins s1 σ H1 _ I1 q) fun us s2 hw => ?_) hpl he
  obtain ⟨vs, H2, I2, r2, q2⟩ := hw
  refine thn (hkw.run pos pins s2 σ H2 _ I2 q2) fun ws s3 hw => ?_
  obtain ⟨zs, H3, I3, rz, l1, l2, q3⟩ := hw
  rw [hks]
  exact ⟨I3.kIn, run_makeK M F hr hb hx I3 r2 rz l1 l2 q3⟩
/-- C.m(k = v, ..), m a classmethod, keywords alone -/
theorem pe_cmethK0 {o : Expr} {ta : TE} {m : Str} {q g0 : Addr} {mc : Value} {apos : Pos} {pl : Sem Bool} {ES : L2.St → XK} (ho : PE X o ta) (r : ClX.CRead X.K C mc) (c : ClX.CMet X.K C mc m q g0) (F : FnOk X.prog X.w X.K X.mg X.base CX k g0 fd ps sp) (hr : Room k X.A) (hb : KBn X.K fd ps 1 ks g gV) (hx : ∀ σ, PassesAt CX X σ (ES σ)) (hkw : PK X kws tk)
    (hall : (backToKw pos (keywordEach kws X.env)).all (·.1.isSome) = true := by rfl) (hks : (backToKw pos (keywordEach kws X.env)).filterMap (·.1) = ks := by rfl)
    (hpl : ((backTo pos (starEach [] X.env)).any (·.1) || (backToKw pos (keywordEach kws X.env)).any (·.1.isNone)) = false := by rfl)
    (ht : eval (.Call (.Attribute o m apos) [] kws pos) X.env = (do
      let ov ← eval o X.env
      standAt apos.atName
      let (f, first) ← holding [ov] (getMethod ov m pl)
      callWith pos f first (backTo pos (starEach [] X.env)) (backToKw pos (keywordEach kws X.env))) := by rfl) :
    PE X (.Call (.Attribute o m apos) [] kws pos) (fun σ H Q => ta σ H fun x H1 => x = .ref C ∧ tk σ H1 fun zs H2 => zs.length = ks.length ∧ sp (gV [.ref C] zs) H2 Q (ES σ)) := by
  refine ⟨fun pins s σ H Q I h => PySem.W.methodCall_KW (pl := pl) (thn (ho.run pins s σ H _ I h) fun u s1 hv => ?_) ht⟩
  obtain ⟨x, H1, I1, rx, rfl, q1⟩ := hv
  obtain rfl : u = Value.ref C := rx
  refine ClX.getmethcm_ok I1 r c fun s2 I2 => ?_
  refine PySem.W.callWith_of (P := PySem.W.MethP X.K s1.heap.objs.size g0 (.ref C)) hpl (PySem.W.keeps_M c.fi) (evalArgs_kw2_nil hall (thn (hkw.run pos _ s2 σ H1 _ I2 q1) fun ws s3 hw => ?_))
  obtain ⟨zs, H2, I3, rz, l2, q2⟩ := hw
  refine ⟨⟨ClX.pin_at I3, I3.kIn⟩, ?_⟩
  rw [hks]
  have r1 : Vals [V.ref C] [Value.ref C] := .cons rfl .nil
  have z : wpAny (model X.prog X.w) X.A (call (.ref s1.heap.objs.size) [] (ks.zip ws)) (EP X ((s1.heap.objs.size, PySem.W.methodObj (.ref g0) (.ref C)) :: pins) σ Q) X.xe s3 := by
    refine wpAny_call (PySem.W.method_call (ClX.pin_at I3) (codeAny_mono (F.run X.A X.stack s3 H2 ⟨[.ref C], ks.zip ws⟩ (g [.ref C] ws) (gV [.ref C] zs) Q (ES σ) hr I3.env0 (hb.to s3 [.ref C] ws I3.kIn rfl (rz.length.symm.trans l2)) (hb.rel r1 rz) q2) fun r s4 hq => ?_))
    cases r with
    | error e => exact hx σ _ H2 s3 e s4 I3 hq
    | ok fl =>
      cases fl with
      | ret u => exact I3.after hq
      | next => exact hq.elim
      | brk => exact hq.elim
      | cont => exact hq.elim
  exact thn z fun _ _ y => ClX.unpinE y
/-- C.m(e, ..), m a classmethod; what is raised is wished for at the caller's slots -/
theorem pe_cmethS {o : Expr} {ta : TE} {m : Str} {q g0 : Addr} {mc : Value} {apos : Pos} {pl : Sem Bool} {ES : L2.St → XK} (ho : PE X o ta) (r : ClX.CRead X.K C mc) (c : ClX.CMet X.K C mc m q g0) (F : FnOk X.prog X.w X.K X.mg X.base CX k g0 fd ps sp) (hr : Room k X.A) (hb : Binds X.K fd ps [])
    (hx : ∀ σ, PassesAt CX X σ (ES σ)) (ha : PA X (e :: es) t) (hst : starEach (e :: es) X.env = (false, eval e X.env) :: starEach es X.env := by rfl) (hpl : (backTo pos (starEach es X.env)).any (·.1) = false := by rfl)
    (ht : eval (.Call (.Attribute o m apos) (e :: es) [] pos) X.env = (do
      let ov ← eval o X.env
      standAt apos.atName
      let (f, first) ← holding [ov] (getMethod ov m pl)
      callWith pos f first (backTo pos (starEach (e :: es) X.env)) (backToKw pos (keywordEach [] X.env))) := by rfl) :
    PE X (.Call (.Attribute o m apos) (e :: es) [] pos) (fun σ H Q => ta σ H fun x H1 => x = .ref C ∧ t σ H1 fun vs H2 => sp (.ref C :: vs) H2 Q (ES σ)) := by
  refine ⟨fun pins s σ H Q I h => PySem.W.methodCall_KW (pl := pl) (thn (ho.run pins s σ H _ I h) fun u s1 hv => ?_) ht⟩
  obtain ⟨x, H1, I1, rx, rfl, q1⟩ := hv
  obtain rfl : u = Value.ref C := rx
  refine ClX.getmethcm_ok I1 r c fun s2 I2 => ?_
  refine ClX.callwith_cm I2 (ClX.base_none I1 (Nat.le_refl _)) c.fi (thn (ha.run pos _ s2 σ H1 _ I2 q1) fun us s3 hw => ?_) hst hpl
  obtain ⟨vs, H2, I3, rv, q2⟩ := hw
  refine ⟨⟨ClX.pin_at I3, I3.kIn⟩, ?_⟩
  have r1 : Vals (V.ref C :: vs) (Value.ref C :: us) := .cons rfl rv
  have hl : (Value.ref C :: us ++ []).length = ps.length := by
    rw [List.append_nil]
    exact r1.length.symm.trans (F.len _ _ _ _ q2)
  have hbi := hb s3 (Value.ref C :: us) I3.kIn hl
  rw [List.append_nil] at hbi
  have z : wpAny (model X.prog X.w) X.A (call (.ref s1.heap.objs.size) us) (EP X ((s1.heap.objs.size, PySem.W.methodObj (.ref g0) (.ref C)) :: pins) σ Q) X.xe s3 := by
    refine wpAny_call (PySem.W.method_call (ClX.pin_at I3) (codeAny_mono (F.run X.A X.stack s3 H2 ⟨Value.ref C :: us, []⟩ (Value.ref C :: us) (V.ref C :: vs) Q (ES σ) hr I3.env0 hbi r1 q2) fun r s4 hq => ?_))
    cases r with
    | error e => exact hx σ _ H2 s3 e s4 I3 hq
    | ok fl =>
      cases fl with
      | ret u => exact I3.after hq
      | next => exact hq.elim
      | brk => exact hq.elim
      | cont => exact hq.elim
  exact thn z fun _ _ y => ClX.unpinE y
end
end Mz
set_option Elab.async false
set_option linter.all false
set_option maxRecDepth 100000
set_option maxHeartbeats 4000000
/-! repr of lists that hold instances with an own __repr__ -/
namespace Mz
open PySem PySem.Spec PyProof.Rows L2
/-- v is shown as t, under the containers as -/
def ShV (X : Cx) (k : Nat) (as : List Addr) (Pre : Hp → Prop) (v : V) (t : Str) : Prop :=
  ∀ (base : Nat), base + t.length ≤ sizeLine → ∀ (A : Around) (g : List Code) (pins : List (Addr × Obj)) (σ : L2.St) (H : Hp) (s : Shared) (u : Value) (Q : Str → Shared → Prop), A.frames = some X.stack → A.guards = some g → (∀ b ∈ as, Clear g b) → Room k A →
    Inv X pins σ H s → Pre H → RelV v u → (∀ H' s', Inv X pins σ H' s' → Same H H' → Q t s') → wpAny (model X.prog X.w) A (pyReprUnder base u) Q X.xe s
section
variable {X : Cx} {k : Nat} {as : List Addr} {Pre : Hp → Prop}
theorem shv_is {v : V} {t : Str} (h : ∀ u, RelV v u → ReprIs X.prog X.w u t) : ShV X k as Pre v t :=
  fun base hb A g pins σ H s u Q _ _ _ _ I _ r q => (h u r) base hb A X.xe s Q fun tk => q H _ (I.tok _) (Same.refl H)
theorem shv_str {z : Str} (h : (reprText z).length ≤ sizeLine) : ShV X k as Pre (.str z) (reprText z) := shv_is fun u r => by
  obtain ⟨t, rfl⟩ := r
  exact ReprIs.str z t h
theorem shv_int {i : Int} (h : i.natAbs.log2 < 1920) : ShV X k as Pre (.int i) (Str.ofString (toString i)) := shv_is fun u r => by
  obtain ⟨t, rfl⟩ := r
  exact ReprIs.int t h
theorem ifBoundBy_K {M : Model} {A : Around} {E : Value → Shared → Prop} {s : Shared} {K : PySem.W.Frag} {x C f : Addr} {ox : Obj} {od : Option Obj} {name : Str} {last : Value → List Value → Sem Value} {Q : Option Value → Shared → Prop} (KX : K.In s.heap) (I : PySem.W.InstAt s.heap x ox C od)
    (hs : PySem.W.findIn K (.ref C) name = some (some (.ref f))) (hf : PySem.W.isFn K (.ref f) = true)
    (h : wpAny M A (last (.ref f) [.ref x]) (fun v => Q (some v)) E s) : wpAny M A (callSpecialIfBoundBy? last (.ref x) name) Q E s := by
  simp only [callSpecialIfBoundBy?, bindSpecialIfBound?]
  refine wpAny_holding (wpAny_bind (wpAny_bind (wpAny_bind (I.type.here ((PySem.W.looks_findIn KX hs).here ?_)))))
  refine wpAny_bind (wpAny_askSetting (wpAny_ite ?_))
  have fin : wpAny M A (last (.ref f) [.ref x] >>= fun v => pure (some v)) Q E s := wpAny_bind (wpAny_mono h (fun v s' h' => wpAny_pure h') fun _ _ h' => h')
  split
  · exact wpAny_bind ((PySem.W.bind_fn KX _ (beq_iff_eq.mp hf)).here (wpAny_pure (by exact fin)))
  · exact wpAny_tryCatch (wpAny_bind ((PySem.W.bind_fn KX _ (beq_iff_eq.mp hf)).here (wpAny_pure (by exact fin))))
theorem env_at {pins : List (Addr × Obj)} {σ : L2.St} {H : Hp} {s : Shared} {A : Around} (I : Inv X pins σ H s) (h : A.frames = some X.stack) : Env0 X.prog X.w X.K X.mg X.base A X.stack s H := by
  have e := I.env0
  exact ⟨h, e.mod, e.bs, e.bsz, e.funs, e.frf, e.hok, e.bare⟩
theorem shv_own {j : Nat} {f C p : Addr} {fd : FuncData} {sp : Sp} {t : Str} (F : FnOk X.prog X.w X.K X.mg X.base CX0 k f fd ["self"] sp) (hb : Binds X.K fd ["self"] []) (hs : PySem.W.findIn X.K (.ref C) "__repr__" = some (some (.ref f))) (hf : PySem.W.isFn X.K (.ref f) = true)
    (hp : ∀ H, Pre H → ∃ dx fs, H p = some (.ins C dx fs) ∧ sp [.ref p] H (fun v H2 => v = .str t ∧ Same H H2) E0) : ShV X k as Pre (.ref p) t := by
  intro base hbs A g pins σ H s u Q hfr hg hcl hr I pre r q
  obtain rfl : u = Value.ref p := r
  obtain ⟨dx, fs, ha, hsp⟩ := hp H pre
  obtain ⟨mA, O, _⟩ := ins_get I.hok ha
  obtain ⟨od, J, _⟩ := O.look
  refine wpAny_pyReprUnder_ref (by omega) ?_
  unfold pyReprObjUnder pyReprObjBy
  refine wpAny_bind (wpAny_cRoomFor hr.units0 ?_)
  refine wpAny_bind (wpAny_bind (J.type.here ((PySem.W.looks_findIn I.kIn hs).here ?_)))
  refine wpAny_bind (ifBoundBy_K I.kIn J hs hf ?_)
  have run := run_at (Q := fun v H2 => v = .str t ∧ Same H H2) (E := E0) (E2 := X.xe) (vs := [.ref p]) (us := [.ref p]) F hr (env_at I hfr) hb (fun _ _ z => z.elim) I (.cons rfl .nil) hsp
  refine wpAny_mono run (fun v s2 hv => ?_) fun _ _ z => z
  obtain ⟨w, H2, I2, rv, rfl, sm⟩ := hv
  obtain ⟨tk, rfl⟩ := rv
  exact wpAny_bind (wpAny_isInstance (T := "str") (b := true) rfl isSubtype_str_str (wpAny_pure ⟨_, _, rfl, q _ _ I2 sm⟩))
/-- texts, as a tracked list has them -/
theorem strs_done : ∀ {l : List Str} {us : List Value}, Vals (l.map V.str) us → ∃ done : List (Str × Tok), us = strValues done ∧ done.map (·.1) = l
  | [], _, .nil => ⟨[], rfl, rfl⟩
  | z :: l, _, .cons ⟨t, e⟩ r => by
    obtain ⟨done, rfl, e2⟩ := strs_done r
    exact ⟨(z, t) :: done, by rw [e]; rfl, by rw [List.map_cons, e2]⟩
theorem frames_list_loop {A : Around} {l : List Env} {args : Args} (h : A.frames = some l) : (A.under (.builtin "list.__repr__.loop" args)).frames = some l := by
  first | exact h | (simpa [Around.under, Code.envs, Code.isFrame, pushEnvs] using h)
theorem loop_depth {A : Around} {args : Args} : (A.under (.builtin "list.__repr__.loop" args)).depth ≤ A.depth + 1 := by
  first | exact Nat.le_refl _ | (simp [Around.under, Code.weight, Code.isCreation, Code.isGuard, Code.isCaller, Code.frames, Code.isFrame, guardIds])
theorem _root_.L2.Room.list_loop {A : Around} {k : Nat} (r : Room (k + 1) A) (args : Args) : Room k (A.under (.builtin "list.__repr__.loop" args)) :=
  ⟨r.hd, by have := r.dp; have := loop_depth (A := A) (args := args); omega, by have := r.un; rw [units_under_list_loop]; omega⟩
/-- the loop of list.__repr__ -/
theorem loop_own {A : Around} {g : List Code} {pins : List (Addr × Obj)} {σ : L2.St} {a P : Addr} {vs : List V} {ts : List Str} {base : Nat} {R : Result → Shared → Prop} (hfr : A.frames = some X.stack) (hg : A.guards = some g) (hcl : ∀ b ∈ as, Clear g b) (hr : Room (k + 1) A) (hna : a ∉ as)
    (mono : ∀ H H', Same H H' → Pre H → Pre H') (hne : a ≠ P) (hlen : ts.length = vs.length) (hT : ∀ (i : Nat) (v : V), vs[i]? = some v → ∃ t, ts[i]? = some t ∧ ShV X k as Pre v t) (hsz : base + (listText ts).length ≤ sizeLine) (hE : ∀ e s', X.xe e s' → R (.error e) s') :
    ∀ (n i : Nat) (H : Hp) (s : Shared), vs.length - i = n → i ≤ vs.length → Inv X pins σ H s → (∀ H', (∀ p o, p ≠ P → H p = some o → H' p = some o) → Pre H') → H a = some (.lst vs) → H P = some (.lst ((ts.take i).map V.str)) →
    (∀ H' s' u, Inv X pins σ H' s' → (∀ p o, p ≠ P → H p = some o → H' p = some o) → R (.ok (.ret (.str (listText ts) u))) s') →
    codeAny (model X.prog X.w) A (.builtin "list.__repr__.loop" ⟨[.ref a, rawInt i, .ref P, rawInt ((base + piled (ts.take i) : Nat) : Int)], []⟩) R s := by
  have hL := textFrom_len ts 0 "["
  have hX : (listText ts).length = (textFrom 0 "[" ts).length + 1 := by
    show (textFrom 0 "[" ts ++ "]").length = _
    rw [strLen_append]; rfl
  have hsz1 : vs.length ≤ sizeLine := by
    have h1 := hL.1
    rw [if_neg (Nat.lt_irrefl 0)] at h1
    omega
  have hsz2 : ∀ t ∈ ts, t.length ≤ sizeLine := fun t ht => by
    have h2 := hL.2.1 t ht
    omega
  have hsz3 : (listText ts).length ≤ sizeLine := by omega
  have hp3 := piled_le_listText ts
  intro n
  induction n with
  | zero =>
    intro i H s hk hi I pre hA hP q
    obtain ⟨_, its, na, rv, l1, ha⟩ := I.lstM hA
    obtain ⟨_, its2, nc, rv2, l2, hP2⟩ := I.lstM hP
    obtain ⟨done, rfl, hdone⟩ := strs_done rv2
    have hin : i = vs.length := by omega
    refine codeAny_builtin PySem.F.entry_list_repr_loop ?_
    show wpAny _ _ (Builtin.«list.__repr__.loop» ⟨[.ref a, .int i 0, .ref P, .int ((base + piled (ts.take i) : Nat) : Int) 0], []⟩) _ _ s
    rw [repr_loop_tree]
    refine wpAny_bind (wpAny_listItems ha rfl ?_)
    have hnone : its.toArray[(i : Int).toNat]? = none := by simp [hin, l1]
    simp only [hnone]
    unfold reprEnd
    refine wpAny_bind (wpAny_listItems hP2 rfl ?_)
    rw [show (strValues done).toArray.toList = strValues done from rfl, repr_fold]
    refine wpAny_bind (wpAny_pure ?_)
    have hall : done.map (·.1) = ts := by rw [hdone, hin, ← hlen, List.take_length]
    rw [hall]
    refine wpAny_bind (wpAny_mkStr (wpAny_pure ?_) hsz3)
    exact q H _ _ (I.tok _) fun _ _ _ e => e
  | succ n ih =>
    intro i H s hk hi I pre hA hP q
    obtain ⟨_, its, na, rv, l1, ha⟩ := I.lstM hA
    have hlt : i < vs.length := by omega
    obtain ⟨t, ht, hrep⟩ := hT i vs[i] (List.getElem?_eq_getElem hlt)
    obtain ⟨u, hu, rel⟩ := rv.get (List.getElem?_eq_getElem hlt)
    have hp1 := piled_take_succ ht
    have hp2 := piled_take_le ts (i + 1)
    refine codeAny_builtin PySem.F.entry_list_repr_loop ?_
    show wpAny _ _ (Builtin.«list.__repr__.loop» ⟨[.ref a, .int i 0, .ref P, .int ((base + piled (ts.take i) : Nat) : Int) 0], []⟩) _ _ s
    rw [repr_loop_tree]
    refine wpAny_bind (wpAny_listItems ha rfl ?_)
    have hsome : its.toArray[(i : Int).toNat]? = some u := by simpa using hu
    simp only [hsome]
    rw [Int.toNat_natCast]
    have hpre : Pre H := pre H fun _ _ _ e => e
    refine wpAny_bind (wpAny_holding (wpAny_mono (hrep (base + piled (ts.take i) + 1) (by omega) _ _ pins σ H s u (fun t' s' => t' = t ∧ ∃ H', Inv X pins σ H' s' ∧ Same H H') (frames_list_loop hfr) (guards_under_guard (isGuard_list_loop _) hg) (fun b hb => (hcl b hb).cons (a := a) fun e => hna (e ▸ hb)) (hr.list_loop _) I hpre rel fun H' s' I' sm => ⟨rfl, H', I', sm⟩) (fun t' s' hh => ?_) fun e s' z => hE e s' z))
    obtain ⟨rfl, H', I', sm⟩ := hh
    refine wpAny_bind (wpAny_mkStr ?_ (hsz2 t' (List.mem_of_getElem? ht)))
    refine wpAny_bind ?_
    show wpAny _ _ (updateSeq P _) _ _ _
    have hP' := sm _ _ hP
    obtain ⟨_, its2, nc, rv2, l2, hP2⟩ := I'.lstM hP'
    have take_len : (ts.take i).length ≤ i := by rw [List.length_take]; omega
    have asz : its2.toArray.size ≤ sizeLine := by
      rw [List.size_toArray, ← l2, List.length_map]
      omega
    refine wpAny_updateSeq hP2 rfl (wpAny_pure ⟨PySem.F.quiet_list_repr_loop _, ?_⟩) asz
    have e1 : ((i : Int) + 1) = ((i + 1 : Nat) : Int) := by omega
    have e2 : base + piled (ts.take i) + (t'.length + 2) = base + piled (ts.take (i + 1)) := by omega
    rw [e1, e2]
    have e3 : (ts.take i).map V.str ++ [V.str t'] = (ts.take (i + 1)).map V.str := by
      rw [List.take_add_one, ht, List.map_append]
      rfl
    have I2 : Inv X pins σ (upd H' P (.lst ((ts.take (i + 1)).map V.str))) _ := I'.lset (its' := its2 ++ [.str t' s'.toks]) (f := fun xs => xs.push (.str t' s'.toks)) (t' := s'.toks + 1) hP' hP2 (by simp) (by rw [← e3]; exact rv2.append (.cons ⟨_, rfl⟩ .nil)) (by rw [List.length_map, List.length_take]; omega)
    have keepP : ∀ p o, p ≠ P → H p = some o → (upd H' P (.lst ((ts.take (i + 1)).map V.str))) p = some o := fun p o np e => by
      rw [upd_ne np]
      exact sm p o e
    refine ih (i + 1) _ _ (by omega) hlt I2 (fun H2 k2 => pre H2 fun p o np e => k2 p o np (keepP p o np e)) (keepP a _ hne hA) upd_same fun H2 s2 u2 I3 k3 => ?_
    exact q H2 s2 u2 I3 fun p o np e => k3 p o np (keepP p o np e)
/-- repr of a list some of whose items are instances -/
def rReprO (X : Cx) (k : Nat) : List V → Hp → VK → Prop := fun xs H Q => ∃ (a : Addr) (v0 : V) (vr : List V) (ts : List Str) (Pre : Hp → Prop), xs = [.ref a] ∧ H a = some (.lst (v0 :: vr)) ∧ (∀ H H', Same H H' → Pre H → Pre H') ∧ Pre H ∧ ts.length = (v0 :: vr).length ∧
  (∀ (i : Nat) (v : V), (v0 :: vr)[i]? = some v → ∃ t, ts[i]? = some t ∧ ShV X k [] Pre v t) ∧ (listText ts).length ≤ sizeLine ∧ ∀ H', Same H H' → Q (.str (listText ts)) H'
theorem call_reprO (g0 : X.A.guards = some []) (hr : Room (k + 2) X.A) : CallR X (.builtin "repr") (rReprO X k) := by
  intro pins s σ H xs us Q I r h
  obtain ⟨a, v0, vr, ts, Pre, rfl, hA, mono, pre, hlen, hT, hsz, q⟩ := h
  obtain ⟨u, rfl, rx⟩ := vals1 r
  obtain rfl : u = Value.ref a := rx
  obtain ⟨z, its, n, rv, l1, ha⟩ := I.lstM hA
  match its, rv with
  | x :: l, rv =>
  refine call_repr_slot (T := "list") (by have := hr.units; omega) ⟨_, ha, rfl⟩ PySem.F.slot_list_repr.toG ?_
  refine wpAny_call (codeAny_call_builtin PySem.F.slot_list_repr.plain PySem.F.entry_list_repr (PySem.F.slot_list_repr.check _ _ _ _ _ _ _ _ ⟨_, ha, rfl⟩ (PySem.F.args_list_repr_1 _) ?_))
  refine wpAny_list_repr_head (A := X.A.in1.in1) (g := []) (b := 0) g0 (fun v rest kw hm => nomatch hm) ha rfl ?_
  refine wpAny_bind (m := newList []) (wpAny_newObj_type ?_)
  refine wpAny_pure ⟨PySem.F.quiet_list_repr_loop _, ?_⟩
  have I1 := I.lnew (ys := []) (its := []) (t' := s.toks) .nil (Nat.zero_le _)
  have nP : H s.heap.objs.size = none := I.hok.fresh (Nat.le_refl _)
  have neP : a ≠ s.heap.objs.size := ne_of_none hA nP
  have same : ∀ {H' : Hp}, (∀ p o, p ≠ s.heap.objs.size → (upd H s.heap.objs.size (.lst [])) p = some o → H' p = some o) → Same H H' := fun k2 p o e => k2 p o (ne_of_none e nP) (by rw [upd_ne (ne_of_none e nP)]; exact e)
  have pz : piled (ts.take 0) = 0 := rfl
  refine loop_own (X := X) (k := k) (as := []) (Pre := Pre) (A := X.A.in1) (g := []) (pins := pins) (σ := σ) (a := a) (P := s.heap.objs.size) (vs := v0 :: vr) (ts := ts) (base := 0) I.env0.frames g0 (fun b hb => nomatch hb) hr.in1 (fun hb => nomatch hb) mono neP hlen hT (by omega) (fun e s' z => z) _ 0 (upd H s.heap.objs.size (.lst [])) _ rfl (Nat.zero_le _) I1
    (fun H' k2 => mono H H' (same k2) pre) (by rw [upd_ne neP]; exact hA) upd_same fun H' s' u2 I2 k2 => ?_
  exact ⟨_, _, rfl, .str _, H', I2, ⟨u2, rfl⟩, q H' (same k2)⟩
end
end Mz
set_option Elab.async false
set_option linter.all false
set_option maxRecDepth 100000
set_option maxHeartbeats 4000000
/-! repr of a list of a text and a dict of one pair -/
namespace Mz
open PySem PySem.Spec PyProof.Rows L2
def pairText (z : Str) (i : Int) : Str := dictText (List.zipWith (fun k v : Str => k ++ ": " ++ v) [reprText z] [Str.ofString (toString i)])
def twoText (r z : Str) (i : Int) : Str := listText [reprText r, pairText z i]
def rRepr2 : List V → Hp → VK → Prop := fun xs H Q => ∃ (p : Addr) (r : Str) (a : Addr) (z : Str) (i : Int), xs = [.ref p] ∧ H p = some (.lst [.str r, .ref a]) ∧ H a = some (.dK [(.inr z, .int i)]) ∧
  i.natAbs.log2 < 1920 ∧ (reprText r).length ≤ 1000 ∧ (reprText z).length ≤ 1000 ∧ (twoText r z i).length ≤ sizeLine ∧ Q (.str (twoText r z i)) H
theorem call_repr2 {X : Cx} (g0 : X.A.guards = some []) (hu : X.A.units + 64 < cLine) : CallR X (.builtin "repr") rRepr2 := by
  intro pins s σ H xs us Q I rv h
  obtain ⟨p, r, a, z, i, rfl, hp, ha, hi, hr, hz, hsz, q⟩ := h
  obtain ⟨u, rfl, rx⟩ := vals1 rv
  obtain rfl : u = Value.ref p := rx
  have ends : ∀ h' t tk, (∀ b o, s.heap.get? b = some o → h'.get? b = some o) → EP X pins σ Q (.str (twoText r z i) t) { s with heap := h', toks := tk } := fun h' t tk hk => ⟨.str _, H, I.kept hk, ⟨_, rfl⟩, q⟩
  obtain ⟨_, its, n, vl, hl⟩ := (show ObjOk X.prog X.w H s.heap p (.lst [.str r, .ref a]) from I.hok p _ hp)
  obtain ⟨_, hsys, vs, kv, o, es, ep, ho, hx, hd, _, hpair, _⟩ := dk_of I.hok ha
  -- the two items
  match its, vl with
  | [u1, u2], .cons r1 (.cons r2 .nil) =>
  obtain ⟨t1, rfl⟩ := r1
  obtain rfl : u2 = Value.ref a := r2
  -- the one entry
  match vs, kv with
  | [(k2, v2)], .cons ⟨ek, rv2⟩ .nil =>
  obtain ⟨t2, rfl⟩ := rv2
  have ek2 : k2 = Sum.inr z := ek.symm
  subst ek2
  have entry : ∃ e, es.toList = [e] ∧ (∃ t, e.key = .str z t) ∧ e.val = .int i t2 := by
    generalize es.toList = l at hpair ⊢
    cases hpair with
    | cons hk hv hn =>
      cases hn
      obtain ⟨t, et⟩ := Value.isStrOf_shape (x := z) hk
      exact ⟨_, rfl, ⟨t, et⟩, hv⟩
  obtain ⟨e, he, ⟨t3, hkey⟩, hval⟩ := entry
  have kz : ReprK X.prog X.w [] s.heap 0 e.key (reprText z) := by
    rw [hkey]
    exact .of_is (ReprIs.str z t3 (Nat.le_trans hz (by decide))) _ _ _
  have vz : ReprK X.prog X.w [] s.heap 0 e.val (Str.ofString (toString i)) := by
    rw [hval]
    exact .of_is (ReprIs.int t2 hi) _ _ _
  have hE : ReprEntriesK X.prog X.w [] s.heap 0 es.toList (List.zipWith (fun k v : Str => k ++ ": " ++ v) [reprText z] [Str.ofString (toString i)]) := by
    rw [he]
    exact ReprEntriesK.of_two [e] _ _ (.cons kz .nil) (.cons vz .nil)
  have dk : ReprK X.prog X.w [a] s.heap 1 (.ref a) (pairText z i) := ReprK.dict ho hx.1 hd hsys (by simp) hE
  have sk : ReprK X.prog X.w [a] s.heap 1 (.str r t1) (reprText r) := .of_is (ReprIs.str r t1 (Nat.le_trans hr (by decide))) _ _ _
  have npa : p ∉ [a] := by
    intro hm
    rw [List.mem_singleton.mp hm, ha] at hp
    cases hp
  refine call_repr_slot (T := "list") (by omega) ⟨_, hl, rfl⟩ F.slot_list_repr.toG ?_
  refine call_list_reprK (as := [a]) (d := 1) (ts := [reprText r, pairText z i]) hl rfl rfl npa rfl (fun j y hy => ?_) (A := X.A.in1) g0 (fun b _ => Clear.nil b) (by show X.A.units + 1 + 2 < cLine; omega) (fun _ _ z => z) (fun h' t tk hk => ⟨_, _, rfl, ends h' t tk hk⟩) hsz
  match j, hy with
  | 0, hy =>
    cases hy
    exact ⟨_, rfl, sk⟩
  | 1, hy =>
    cases hy
    exact ⟨_, rfl, dk⟩
  | j + 2, hy =>
    exact absurd hy (by simp)
end Mz
set_option Elab.async false
set_option linter.all false
set_option maxRecDepth 100000
set_option maxHeartbeats 4000000
/-! repr of a list of a text and a dict whose values are flat, or lists of a 1 -/
namespace Mz
open PySem PySem.Spec PyProof.Rows L2
def keyT : Key → Str
  | .inl i => Str.ofString (toString i)
  | .inr z => reprText z
def itemT : V → Str
  | .non => PyData.shown .none
  | .bl b => PyData.shown (.bool b)
  | .int i => Str.ofString (toString i)
  | .str z => reprText z
  | _ => listText [Str.ofString (toString (1 : Int))]
/-- a value of such a dict -/
def VOk (qs : List Addr) (H : Hp) (v : V) : Prop := v = .non ∨ (∃ b, v = .bl b) ∨ (∃ i, v = .int i ∧ (i.natAbs.log2 < 1920 ∧ (Str.ofString (toString i)).length ≤ 300)) ∨ (∃ z, v = .str z ∧ (reprText z).length ≤ 300) ∨ ∃ q, v = .ref q ∧ q ∈ qs ∧ H q = some (.lst [.int 1])
def KOk : Key → Prop
  | .inl i => i.natAbs.log2 < 1920 ∧ (Str.ofString (toString i)).length ≤ 300
  | .inr z => (reprText z).length ≤ 300
def entT (kv : Key × V) : Str := keyT kv.1 ++ ": " ++ itemT kv.2
def dkText (r : Str) (kvs : List (Key × V)) : Str := listText [reprText r, dictText (kvs.map entT)]
def rReprDk : List V → Hp → VK → Prop := fun xs H Q => ∃ (p : Addr) (r : Str) (a : Addr) (qs : List Addr) (kvs : List (Key × V)), xs = [.ref p] ∧ H p = some (.lst [.str r, .ref a]) ∧ H a = some (.dK kvs) ∧ p ∉ qs ∧ a ∉ qs ∧ (reprText r).length ≤ 1000 ∧
  (∀ kv ∈ kvs, KOk kv.1 ∧ VOk qs H kv.2) ∧ (dkText r kvs).length ≤ sizeLine ∧ Q (.str (dkText r kvs)) H
section
variable {X : Cx} {pins : List (Addr × Obj)} {σ : L2.St} {H : Hp} {s : Shared} {qs : List Addr}
theorem item_repr (I : Inv X pins σ H s) {v : V} {u : Value} (r : RelV v u) (h : VOk qs H v) : ReprK X.prog X.w qs s.heap 1 u (itemT v) := by
  rcases h with rfl | ⟨b, rfl⟩ | ⟨i, rfl, hi, _⟩ | ⟨z, rfl, hz⟩ | ⟨q, rfl, hq, hH⟩
  · obtain rfl : u = Value.none := r
    exact .of_is (by simpa only [itemT, PyData.shown] using ReprIs.none) _ _ _
  · obtain rfl : u = Value.bool b := r
    exact .of_is (by simpa only [itemT, PyData.shown] using ReprIs.bool b) _ _ _
  · obtain ⟨t, rfl⟩ := r
    exact .of_is (ReprIs.int t hi) _ _ _
  · obtain ⟨t, rfl⟩ := r
    exact .of_is (ReprIs.str z t (Nat.le_trans hz (by decide))) _ _ _
  · obtain rfl : u = Value.ref q := r
    obtain ⟨_, its, n, vl, hl⟩ := (show ObjOk X.prog X.w H s.heap q (.lst [.int 1]) from I.hok q _ hH)
    match its, vl with
    | [u1], .cons r1 .nil =>
    obtain ⟨t1, rfl⟩ := r1
    refine (ReprK.list (as := []) (d := 0) hl rfl rfl (by simp) rfl fun i y hy => ?_).more fun b hb => by
      rw [List.mem_singleton.mp hb]
      exact hq
    match i, hy with
    | 0, hy =>
      cases hy
      exact ⟨_, rfl, .of_is (ReprIs.int t1 (by decide +kernel)) _ _ _⟩
    | i + 1, hy => exact absurd hy (by simp)
theorem key_repr {k : Key} {u : Value} (e : keyIs k u = true) (h : KOk k) : ReprK X.prog X.w qs s.heap 1 u (keyT k) := by
  rcases keyIs_shape e with ⟨i, t, rfl, rfl⟩ | ⟨z, t, rfl, rfl⟩
  · exact .of_is (ReprIs.int t h.1) _ _ _
  · exact .of_is (ReprIs.str z t (Nat.le_trans h (by decide))) _ _ _
end
theorem item_len {qs : List Addr} {H : Hp} {v : V} (h : VOk qs H v) : (itemT v).length ≤ 300 := by
  rcases h with rfl | ⟨b, rfl⟩ | ⟨i, rfl, _, hi⟩ | ⟨z, rfl, hz⟩ | ⟨q, rfl, hq, hH⟩
  · simp only [itemT, PyData.shown]
    decide +kernel
  · cases b <;> simp only [itemT, PyData.shown] <;> decide +kernel
  · exact hi
  · exact hz
  · show (listText [Str.ofString (toString (1 : Int))]).length ≤ 300
    decide +kernel
theorem key_len {k : Key} (h : KOk k) : (keyT k).length ≤ 300 := by
  cases k with
  | inl i => exact h.2
  | inr z => exact h
theorem ent_sum {qs : List Addr} {H : Hp} : ∀ kvs : List (Key × V), (∀ kv ∈ kvs, KOk kv.1 ∧ VOk qs H kv.2) → ((kvs.map entT).map (·.length)).sum ≤ 602 * kvs.length
  | [], _ => Nat.le_refl _
  | kv :: r, h => by
    obtain ⟨h1, h2⟩ := h kv List.mem_cons_self
    have ih := ent_sum r fun x hx => h x (List.mem_cons_of_mem _ hx)
    have e : (entT kv).length = (keyT kv.1).length + 2 + (itemT kv.2).length := by
      show ((keyT kv.1 ++ ": ") ++ itemT kv.2 : Str).length = _
      rw [strLen_append, strLen_append]
      rfl
    have k1 := key_len h1
    have k2 := item_len h2
    rw [List.map_cons, List.map_cons, List.sum_cons, List.length_cons, e]
    omega
theorem dkText_len {qs : List Addr} {H : Hp} {r : Str} {kvs : List (Key × V)} (h : ∀ kv ∈ kvs, KOk kv.1 ∧ VOk qs H kv.2) (hl : kvs.length ≤ 6) (hr : (reprText r).length ≤ 1000) : (dkText r kvs).length ≤ sizeLine := by
  have e1 := ent_sum kvs h
  have e2 := StrLaws.join_length_le ", " (kvs.map entT)
  have e3 : (dictText (kvs.map entT)).length = 1 + (Str.join ", " (kvs.map entT)).length + 1 := by
    unfold dictText
    rw [strLen_append, strLen_append]
    rfl
  have e4 : (dkText r kvs).length = (reprText r).length + (dictText (kvs.map entT)).length + 4 := by
    show ((("[" ++ ((if 0 > 0 then ", " else "" : String) : Str) ++ reprText r) ++ ((if 1 > 0 then ", " else "" : String) : Str) ++ dictText (kvs.map entT)) ++ "]" : Str).length = _
    rw [if_neg (by decide), if_pos (by decide)]
    simp only [strLen_append]
    have f1 : (("[" : String) : Str).length = 1 := by decide +kernel
    have f2 : (("" : String) : Str).length = 0 := by decide +kernel
    have f3 : ((", " : String) : Str).length = 2 := by decide +kernel
    have f4 : (("]" : String) : Str).length = 1 := by decide +kernel
    rw [f1, f2, f3, f4]
    omega
  have e5 : (", " : Str).length = 2 := by decide +kernel
  rw [e5, List.length_map] at e2
  have e6 : 100000 ≤ sizeLine := by decide
  rw [e4, e3]
  omega
theorem call_reprDk {X : Cx} (g0 : X.A.guards = some []) (hu : X.A.units + 64 < cLine) : CallR X (.builtin "repr") rReprDk := by
  intro pins s σ H xs us Q I rv h
  obtain ⟨p, r, a, qs, kvs, rfl, hp, ha, npq, naq, hr, hall, hsz, q⟩ := h
  obtain ⟨u, rfl, rx⟩ := vals1 rv
  obtain rfl : u = Value.ref p := rx
  have ends : ∀ h' t tk, (∀ b o, s.heap.get? b = some o → h'.get? b = some o) → EP X pins σ Q (.str (dkText r kvs) t) { s with heap := h', toks := tk } := fun h' t tk hk => ⟨.str _, H, I.kept hk, ⟨_, rfl⟩, q⟩
  obtain ⟨_, its, n, vl, hl⟩ := (show ObjOk X.prog X.w H s.heap p (.lst [.str r, .ref a]) from I.hok p _ hp)
  obtain ⟨_, hsys, vs, kv, o, es, ep, ho, hx, hd, _, hpair, _⟩ := dk_of I.hok ha
  match its, vl with
  | [u1, u2], .cons r1 (.cons r2 .nil) =>
  obtain ⟨t1, rfl⟩ := r1
  obtain rfl : u2 = Value.ref a := r2
  have ents : ∀ (kvs : List (Key × V)) (vs : List (Key × Value)) (l : List DictEntry), KV kvs vs → Pairs (mixKind X.prog X.w) l vs → (∀ kv ∈ kvs, KOk kv.1 ∧ VOk qs H kv.2) → ReprEntriesK X.prog X.w qs s.heap 1 l (kvs.map entT) := by
    intro kvs
    induction kvs with
    | nil =>
      intro vs l kv pr _
      match vs, kv, l, pr with
      | [], .nil, _, pr =>
        cases pr
        exact .nil
    | cons x kvs ih =>
      intro vs l kv pr hall
      match vs, kv, pr with
      | (k2, v2) :: vs, .cons ⟨ek, rv2⟩ kr, pr =>
        cases pr with
        | @cons en _ es2 _ hk hv hn =>
          obtain ⟨h1, h2⟩ := hall x List.mem_cons_self
          have ek2 : x.1 = k2 := ek
          have hk2 : keyIs x.1 en.key = true := by
            rw [ek2]
            exact hk
          refine .cons (k := keyT x.1) (v := itemT x.2) (key_repr hk2 h1) ?_ (ih vs es2 kr hn fun y hy => hall y (List.mem_cons_of_mem _ hy))
          rw [hv]
          exact item_repr I rv2 h2
  have dk : ReprK X.prog X.w (a :: qs) s.heap 2 (.ref a) (dictText (kvs.map entT)) := ReprK.dict ho hx.1 hd hsys naq (ents kvs vs es.toList kv hpair hall)
  have sk : ReprK X.prog X.w (a :: qs) s.heap 2 (.str r t1) (reprText r) := .of_is (ReprIs.str r t1 (Nat.le_trans hr (by decide))) _ _ _
  have npa : p ∉ a :: qs := by
    intro hm
    rcases List.mem_cons.mp hm with e | e
    · rw [e, ha] at hp
      cases hp
    · exact npq e
  refine call_repr_slot (T := "list") (by omega) ⟨_, hl, rfl⟩ F.slot_list_repr.toG ?_
  refine call_list_reprK (as := a :: qs) (d := 2) (ts := [reprText r, dictText (kvs.map entT)]) hl rfl rfl npa rfl (fun j y hy => ?_) (A := X.A.in1) g0 (fun b _ => Clear.nil b) (by show X.A.units + 1 + 3 < cLine; omega) (fun _ _ z => z) (fun h' t tk hk => ⟨_, _, rfl, ends h' t tk hk⟩) hsz
  match j, hy with
  | 0, hy =>
    cases hy
    exact ⟨_, rfl, sk⟩
  | 1, hy =>
    cases hy
    exact ⟨_, rfl, dk⟩
  | j + 2, hy => exact absurd hy (by simp)
end Mz
set_option Elab.async false
set_option linter.all false
set_option maxRecDepth 100000
set_option maxHeartbeats 4000000
/-! o[i], o an instance with an own __getitem__ that may raise -/
namespace Mz
open PySem PySem.Spec PyProof.Rows L2
def rSubO (C : Addr) (sp : Sp) (E : XK) : R2 := fun x y H Q => ∃ a dx fs, x = .ref a ∧ H a = some (.ins C dx fs) ∧ sp [.ref a, y] H Q E
theorem pe_subS {X : Cx} {CX : CXT} {k : Nat} {f C : Addr} {fd : FuncData} {ps : List Str} {sp : Sp} {E : L2.St → XK} {ea eb : Expr} {ta tb : TE} {pos : Pos} (F : FnOk X.prog X.w X.K X.mg X.base CX k f fd ps sp) (hr : Room (k + 1) X.A) (hb : Binds X.K fd ps [])
    (iG : PySem.W.findIn X.K (.ref C) "__getitem__" = some (some (.ref f))) (fG : PySem.W.fnIn X.K f = true) (jG : PySem.W.isFn X.K (.ref f) = true) (hx : ∀ σ, PassesAt CX X σ (E σ)) (ha : PE X ea ta) (hb2 : PE X eb tb)
    (hs : ∀ (x : Addr) (i : Value), subscripted eb true (.ref x) i = runValue (.builtin "lifetime.subscript" ⟨[.ref x, i], []⟩) := by intro _ _; rfl) :
    PE X (.Subscript ea eb pos) (fun σ H Q => ta σ H fun x H1 => tb σ H1 fun y H2 => rSubO C sp (E σ) x y H2 Q) := by
  refine ⟨fun pins s σ H Q I h => Subscript_ (binT (f := fun v u => subscriptTail ea eb v u) ha hb2 I h fun v u s2 x y H2 I2 rx ry q => ?_)⟩
  obtain ⟨a, dx, fs, rfl, hH, q⟩ := q
  obtain rfl : v = Value.ref a := rx
  obtain ⟨mA, O, _⟩ := ins_get I2.hok hH
  obtain ⟨od, J, _⟩ := O.look
  obtain ⟨m, hF⟩ := I2.fr
  exact PySem.W.sub_K hF I2.ok.mod.kin J iG fG jG (run_at (vs := [.ref a, y]) (us := [.ref a, u]) F hr.in1 I2.env0.in1 hb (fun e s3 z => hx σ pins H2 s2 e s3 I2 z) I2 (.cons rfl (.cons ry .nil)) q) (hs a u)
/-- o.m(e, ..), an own method that may raise; what it raises is wished for at the caller's slots -/
theorem pe_methSS {X : Cx} {CX : CXT} {k : Nat} {f C : Addr} {fd : FuncData} {ps : List Str} {sp : Sp} {E : L2.St → XK} {o e : Expr} {es : List Expr} {ta : TE} {t : TA} {m : Str} {apos pos : Pos} {pl : Sem Bool} (he : PE X o ta) (c : Cls X.K C) (hm : Meth X.K C m f) (F : FnOk X.prog X.w X.K X.mg X.base CX k f fd ps sp) (hr : Room k X.A)
    (hb : Binds X.K fd ps []) (hx : ∀ σ, PassesAt CX X σ (E σ)) (ha : PA X (e :: es) t) (hst : starEach (e :: es) X.env = (false, eval e X.env) :: starEach es X.env := by rfl) (hpl : (backTo pos (starEach es X.env)).any (·.1) = false := by rfl)
    (ht : eval (.Call (.Attribute o m apos) (e :: es) [] pos) X.env = (do
      let ov ← eval o X.env
      standAt apos.atName
      let (f, first) ← holding [ov] (getMethod ov m pl)
      callWith pos f first (backTo pos (starEach (e :: es) X.env)) (backToKw pos (keywordEach [] X.env))) := by rfl) :
    PE X (.Call (.Attribute o m apos) (e :: es) [] pos) (fun σ H Q => ta σ H fun x H1 => ∃ a dx fs, x = .ref a ∧ H1 a = some (.ins C dx fs) ∧ fs.lookup m = none ∧ t σ H1 fun vs H2 => sp (x :: vs) H2 Q (E σ)) := by
  refine ⟨fun pins s σ H Q I h => PySem.W.methodCall_KW (pl := pl) (thn (he.run pins s σ H _ I h) fun u s1 hv => ?_) ht⟩
  obtain ⟨x, H1, I1, rx, a, dx, fs, rfl, ea, l, q⟩ := hv
  obtain rfl : u = Value.ref a := rx
  refine getmeth_ok I1 ea c hm l (PySem.W.callWith_K (first := [.ref a]) (h₀ := X.base) I.ok.mod.kin hm.kp (thn (ha.run pos pins s1 σ H1 _ I1 q) fun us s2 hw => ?_) hst hpl)
  obtain ⟨vs, H2, I2, r, q2⟩ := hw
  exact ⟨I2.kIn, run_fnS (us := .ref a :: us) (vs := .ref a :: vs) F hr hb (hx σ) I2 (.cons rfl r) q2⟩
end Mz
set_option Elab.async false
set_option linter.all false
set_option maxRecDepth 100000
set_option maxHeartbeats 4000000
/-! + and - with an instance of an own class on one side, where the own def may raise -/
namespace Mz
open PySem PySem.Spec PyProof.Rows L2
section
variable {prog : Program} {w : World} {A : Around} {E : Value → Shared → Prop} {s : Shared} {K : PySem.W.Frag} {x C f : Addr} {ox : Obj} {od : Option Obj} {T : String} {op : Operator}
open PySem.W in
/-- the instance is on the left, on the right is a value of a built-in type -/
theorem bin1_type {b : Value} {fo ro rc : Option Value} {Q : Value → Shared → Prop} (X : K.In s.heap) (J : InstAt s.heap x ox C od) (hb : ∀ h : Heap, s.heap = h → Looks (model prog w) h (typeOf b) (.type T)) (first : selfFirst K C = true)
    (own : findIn K (.ref C) (PySem.dunder op.info.2) = some (some (.ref f))) (fn : isFn K (.ref f) = true) (back : findIn K (.ref C) (dunderR op.info.2) = some rc) (how : rc = none ∨ ∃ g : Addr, rc = some (.ref g))
    (t1 : findIn K (.type T) (PySem.dunder op.info.2) = some fo) (t2 : findIn K (.type T) (dunderR op.info.2) = some ro) (low : subIn K (.type T) (.ref C) = some false)
    (run : wpAny (model prog w) A (call (.ref f) [.ref x, b]) (PySem.W.CmpBack Q) E s) : wpAny (model prog w) A (binaryOp1 op.info.2 (.ref x) b) (fun r s2 => ∃ v, r = some v ∧ Q v s2) E s := by
  obtain ⟨cd, rest, hcd, hm⟩ := ksp_first first
  rcases hi : op.info with ⟨sym, nm⟩
  rw [hi] at own back t1 t2
  have tried := ksp_try X J own fn run
  obtain ⟨hp, gn, dp, tk, os⟩ := s
  have K1 : Looks (model prog w) hp (typeOf (.ref x)) (.ref C) := J.type
  have K2 : Looks (model prog w) hp (typeOf b) (.type T) := hb _ rfl
  have K3 : Looks (model prog w) hp (fillsNumberSlot (.ref C) nm) true := fills_K X hcd hm own
  have K4 := ksp_fillsT (M := model prog w) X t1 t2
  have K5 : Looks (model prog w) hp (isSubtype (.type T) (.ref C)) false := looks_subIn X low
  have K6 : Looks (model prog w) hp (numberSlotInPython (.ref C) nm) true := ksp_inPy X own back how
  have K7 : Looks (model prog w) hp (numberSlotInPython (.type T) nm) false := Looks.of_pure rfl
  have K8 : Looks (model prog w) hp (typeLookup (.type T) (dunderR nm)) ro := looks_findIn X t2
  have unlike : (Value.ref C == Value.type T) = false := by
    cases e : (Value.ref C == Value.type T) with
    | false => rfl
    | true => cases beq_iff_eq.mp e
  revert K4
  generalize ((fo.isSome && !isSeqSlot fo) || (ro.isSome && !isSeqSlot ro)) = fills
  intro K4
  have fin : ∀ r s2, (∃ v, r = some v ∧ Q v s2) → wpAny (model prog w) A (pure r) (fun r s3 => ∃ v, r = some v ∧ Q v s3) E s2 := fun r s2 h => wpAny_pure h
  show wpAny (model prog w) A (binaryOp1 nm (.ref x) b) _ E _
  unfold binaryOp1
  refine wpAny_bind (K1.at (wpAny_bind (K2.at (wpAny_bind (K3.at ?_)))))
  simp only [unlike, Bool.false_eq_true, if_false]
  cases fills
  all_goals
    ksp_lk
    refine wpAny_mono tried (fun r s2 hr => ?_) fun _ _ z => z
    obtain ⟨v, rfl, hq⟩ := hr
    ksp_lk
    exact ⟨v, rfl, hq⟩
open PySem.W in
theorem bin_of1 {a b : Value} {Q : Value → Shared → Prop} (h : wpAny (model prog w) A (binaryOp1 op.info.2 a b) (fun r s2 => ∃ v, r = some v ∧ Q v s2) E s) : wpAny (model prog w) A (binaryOp op a b) Q E s := by
  rcases hi : op.info with ⟨sym, nm⟩
  rw [hi] at h
  simp only [binaryOp, hi]
  refine wpAny_holding (wpAny_bind (wpAny_mono h (fun r s2 hr => ?_) fun _ _ z => z))
  obtain ⟨v, rfl, hq⟩ := hr
  exact wpAny_pure hq
/-- a class whose types ahead of object know no += : it goes as + -/
theorem inp_of1 {b : Value} {Q : Value → Shared → Prop} (X : K.In s.heap) (J : PySem.W.InstAt s.heap x ox C od) (hc : (PySem.W.clsIn K C).map (·.mro) = some [.ref C, .type "object"]) (n1 : PySem.W.findIn K (.ref C) (dunderI op.info.2) = some none) (n2 : PySem.W.findIn K (.type "object") (dunderI op.info.2) = some none)
    (h : wpAny (model prog w) A (binaryOp1 op.info.2 (.ref x) b) (fun r s2 => ∃ v, r = some v ∧ Q v s2) E s) : wpAny (model prog w) A (inplaceOp op (.ref x) b) Q E s := by
  obtain ⟨cd, hcd, hm⟩ := Option.map_eq_some_iff.mp hc
  have no : PySem.W.Looks (model prog w) s.heap (fillsInplaceSlot (.ref C) op.info.2 (op == .Add)) false := by
    intro A2 Q2 E2 s2 k q2
    have Lm : PySem.W.Looks (model prog w) s.heap (mroOf (.ref C)) cd.mro := (PySem.W.looks_clsIn X hcd).andThen (f := fun cd => pure cd.mro) .now
    have L1 : PySem.W.Looks (model prog w) s.heap (typeLookup (.ref C) (dunderI op.info.2)) none := PySem.W.looks_findIn X n1
    have L2' : PySem.W.Looks (model prog w) s.heap (typeLookup (.type "object") (dunderI op.info.2)) none := PySem.W.looks_findIn X n2
    have M1 := Lm.keeps k
    have M2 := L1.keeps k
    have M3 := L2'.keeps k
    obtain ⟨hp, gn, dp, tk, os⟩ := s2
    unfold fillsInplaceSlot
    refine wpAny_bind (M1.at ?_)
    rw [hm, List.anyM_cons]
    refine wpAny_bind (wpAny_bind (M2.at (wpAny_pure ?_)))
    rw [if_neg Bool.false_ne_true, List.anyM_cons]
    refine wpAny_bind (wpAny_bind (M3.at (wpAny_pure ?_)))
    exact wpAny_pure q2
  unfold inplaceOp
  refine wpAny_holding (wpAny_bind (J.type.here (wpAny_bind (no.here ?_))))
  simp only [Bool.false_eq_true, if_false]
  refine wpAny_bind (wpAny_mono h (fun r s2 hr => ?_) fun _ _ z => z)
  obtain ⟨v, rfl, hq⟩ := hr
  exact wpAny_pure hq
open PySem.W in
/-- both sides are of the class -/
theorem bin_own {b : Value} {Q : Value → Shared → Prop} (X : K.In s.heap) (J : InstAt s.heap x ox C od) (hb : ∀ h : Heap, s.heap = h → Looks (model prog w) h (typeOf b) (.ref C)) (first : selfFirst K C = true)
    (own : findIn K (.ref C) (PySem.dunder op.info.2) = some (some (.ref f))) (fn : isFn K (.ref f) = true)
    (run : wpAny (model prog w) A (call (.ref f) [.ref x, b]) (PySem.W.CmpBack Q) E s) : wpAny (model prog w) A (binaryOp op (.ref x) b) Q E s := by
  obtain ⟨cd, rest, hcd, hm⟩ := ksp_first first
  rcases hi : op.info with ⟨sym, nm⟩
  rw [hi] at own
  have tried := ksp_try X J own fn run
  obtain ⟨hp, gn, dp, tk, os⟩ := s
  have K1 : Looks (model prog w) hp (typeOf (.ref x)) (.ref C) := J.type
  have K2 : Looks (model prog w) hp (typeOf b) (.ref C) := hb _ rfl
  have K3 : Looks (model prog w) hp (fillsNumberSlot (.ref C) nm) true := fills_K X hcd hm own
  have like : (Value.ref C == Value.ref C) = true := beq_self_eq_true _
  simp only [binaryOp, hi]
  refine wpAny_holding (wpAny_bind ?_)
  unfold binaryOp1
  refine wpAny_bind (K1.at (wpAny_bind (K2.at (wpAny_bind (K3.at ?_)))))
  simp only [like, if_true]
  ksp_lk
  refine wpAny_mono tried (fun r s2 hr => ?_) fun _ _ z => z
  obtain ⟨v, rfl, hq⟩ := hr
  ksp_lk
  exact hq
/-- int.__add__ declines what is an instance -/
theorem add_declines {b : Value} {dx : Addr} {Q : Value → Shared → Prop} (hx : s.heap.get? x = some (PySem.W.instObj C dx)) (hb : (∃ i t, b = .int i t) ∨ ∃ y, b = .bool y) (q : Q .notImplemented s) :
    wpAny (model prog w) A (call (.builtin "int.__add__") [b, .ref x]) Q E s := by
  have body : ∀ (A2 : Around) (E2 : Value → Shared → Prop) (Q2 : Fin → Shared → Prop), Q2 (.done (.ret .notImplemented)) s → wpAny (model prog w) A2 (Builtin.«int.__add__» ⟨[b, .ref x], []⟩) Q2 E2 s := by
    intro A2 E2 Q2 q2
    obtain ⟨hp, gn, dp, tk, os⟩ := s
    rcases hb with ⟨i, t, rfl⟩ | ⟨y, rfl⟩
    all_goals
      unfold Builtin.«int.__add__» Builtin.Int.intBinary
      refine wpAny_bind (m := slotArgs "__add__" 1 _) (wpAny_pure ?_)
      refine wpAny_bind (wpAny_pure ?_)
      refine wpAny_bind ?_
      show wpAny _ _ (asInt? (.ref x)) _ _ _
      unfold asInt?
      refine wpAny_bind (wpAny_load hx ?_)
      refine wpAny_pure ?_
      exact wpAny_bind (wpAny_rule (wpAny_pure q2))
  rcases hb with ⟨i, t, rfl⟩ | ⟨y, rfl⟩
  · exact wpAny_call (codeAny_call_builtin F.slot_int_add.plain F.entry_int_add (F.slot_int_add.check _ _ _ _ _ _ _ _ (typeIs_int s i t) (F.args_int_add_2 _ _) (body _ _ _ q)))
  · exact wpAny_call (codeAny_call_builtin F.slot_bool_add.plain F.entry_int_add (F.slot_bool_add.check _ _ _ _ _ _ _ _ rfl (F.args_int_add_2 _ _) (body _ _ _ q)))
open PySem.W in
/-- an int or a bool on the left, which declines, the instance on the right -/
theorem add_back {b : Value} {dx : Addr} {Q : Value → Shared → Prop} (X : K.In s.heap) (J : InstAt s.heap x ox C od) (hx : s.heap.get? x = some (PySem.W.instObj C dx)) (first : selfFirst K C = true) (own : findIn K (.ref C) (PySem.dunder "add") = some (some (.ref f))) {g : Addr} (back : findIn K (.ref C) (dunderR "add") = some (some (.ref g)))
    (fn : isFn K (.ref g) = true) (lo1 : subIn K (.ref C) (.type "int") = some false) (lo2 : subIn K (.ref C) (.type "bool") = some false) (hb : (∃ i t, b = .int i t) ∨ ∃ y, b = .bool y)
    (run : wpAny (model prog w) A (call (.ref g) [.ref x, b]) (PySem.W.CmpBack Q) E s) : wpAny (model prog w) A (binaryOp .Add b (.ref x)) Q E s := by
  obtain ⟨cd, rest, hcd, hm⟩ := ksp_first first
  have tried := ksp_try X J back fn run
  have no : ∀ {Q2 : Option Value → Shared → Prop}, Q2 none s → wpAny (model prog w) A (tryMethod b (PySem.dunder "add") (.ref x)) Q2 E s := by
    intro Q2 q
    have dec : wpAny (model prog w) A (call (.builtin "int.__add__") [b, .ref x]) (fun v s2 => v = .notImplemented ∧ Q2 none s2) E s := add_declines hx hb ⟨rfl, q⟩
    rcases id hb with ⟨i, t, e⟩ | ⟨y, e⟩
    · have ty : s.TypeIs b "int" := by
        rw [e]
        exact typeIs_int s i t
      exact wpAny_tryMethod_declines ty F.slot_int_add dec
    · have ty : s.TypeIs b "bool" := by
        rw [e]
        exact rfl
      exact wpAny_tryMethod_declines ty F.slot_bool_add dec
  have main : ∀ T : String, typeOf b = pure (.type T) → fillsNumberSlot (.type T) "add" = pure true → subIn K (.ref C) (.type T) = some false → wpAny (model prog w) A (binaryOp .Add b (.ref x)) Q E s := by
    intro T hty hf hlow
    have no2 := @no
    revert tried no2
    obtain ⟨hp, gn, dp, tk, os⟩ := s
    intro tried no2
    have K1 : Looks (model prog w) hp (typeOf b) (.type T) := Looks.of_pure hty
    have K2 : Looks (model prog w) hp (typeOf (.ref x)) (.ref C) := J.type
    have K3 : Looks (model prog w) hp (fillsNumberSlot (.type T) "add") true := Looks.of_pure hf
    have K4 : Looks (model prog w) hp (fillsNumberSlot (.ref C) "add") true := fills_K X hcd hm own
    have K5 : Looks (model prog w) hp (isSubtype (.ref C) (.type T)) false := looks_subIn X hlow
    have K6 : Looks (model prog w) hp (numberSlotInPython (.type T) "add") false := Looks.of_pure rfl
    have unlike : (Value.type T == Value.ref C) = false := by
      cases e : (Value.type T == Value.ref C) with
      | false => rfl
      | true => cases beq_iff_eq.mp e
    simp only [binaryOp, Operator.info]
    refine wpAny_holding (wpAny_bind ?_)
    unfold binaryOp1
    refine wpAny_bind (K1.at (wpAny_bind (K2.at (wpAny_bind (K3.at ?_)))))
    simp only [unlike, Bool.false_eq_true, if_false]
    ksp_lk
    refine no2 ?_
    ksp_lk
    refine wpAny_mono tried (fun r s2 hr => ?_) fun _ _ z => z
    obtain ⟨v, rfl, hq⟩ := hr
    ksp_lk
    exact hq
  rcases id hb with ⟨i, t, rfl⟩ | ⟨y, rfl⟩
  · exact main "int" rfl F.fills_int_add lo1
  · exact main "bool" rfl F.fills_bool_add lo2
end
/-! the rules -/
theorem back_of {X : Cx} {pins : List (Addr × Obj)} {σ : L2.St} {Q : VK} {u : Value} {s : Shared} (h : EP X pins σ Q u s) : PySem.W.CmpBack (EP X pins σ Q) u s := by
  cases u
  case notImplemented =>
    obtain ⟨v, H, I, r, q⟩ := h
    exfalso
    cases v <;> first | exact nomatch r | (obtain ⟨_, e⟩ := r; cases e)
  all_goals exact h
/-- what the class says of a operator's def on its left -/
structure Lty (K : PySem.W.Frag) (C : Addr) (op : Operator) (f : Addr) : Prop where
  first : PySem.W.selfFirst K C = true
  own : PySem.W.findIn K (.ref C) (PySem.dunder op.info.2) = some (some (.ref f))
  fn : PySem.W.isFn K (.ref f) = true
  back : ∃ rc, PySem.W.findIn K (.ref C) (dunderR op.info.2) = some rc ∧ (rc = none ∨ ∃ g : Addr, rc = some (.ref g))
/-- what a built-in type on the right says -/
structure Rty (K : PySem.W.Frag) (C : Addr) (op : Operator) (T : String) : Prop where
  io : ∃ fo, PySem.W.findIn K (.type T) (PySem.dunder op.info.2) = some fo
  ir : ∃ ro, PySem.W.findIn K (.type T) (dunderR op.info.2) = some ro
  sub : PySem.W.subIn K (.type T) (.ref C) = some false
def rLeft (K : PySem.W.Frag) (C : Addr) (op : Operator) (sp : Sp) (E : XK) : R2 := fun x y H Q => ∃ a dx fs, x = .ref a ∧ H a = some (.ins C dx fs) ∧ ((∃ T, TyX K H y (.type T) ∧ Rty K C op T) ∨ TyX K H y (.ref C)) ∧ sp [.ref a, y] H Q E
section
variable {X : Cx} {CX : CXT} {k : Nat} {f C : Addr} {fd : FuncData} {ps : List Str} {sp : Sp} {op : Operator} {E : L2.St → XK} {ea eb : Expr} {ta tb : TE} {pos : Pos}
theorem op_leftS (F : FnOk X.prog X.w X.K X.mg X.base CX k f fd ps sp) (hr : Room k X.A) (hb : Binds X.K fd ps []) (T : Lty X.K C op f) (hx : ∀ σ, PassesAt CX X σ (E σ)) (pins : List (Addr × Obj)) (s : Shared) (σ : L2.St) (H : Hp) (x y : V) (v u : Value) (Q : VK) (I : Inv X pins σ H s) (rx : RelV x v) (ry : RelV y u)
    (h : rLeft X.K C op sp (E σ) x y H Q) : wpAny (model X.prog X.w) X.A (binaryOp op v u) (EP X pins σ Q) X.xe s := by
  obtain ⟨a, dx, fs, rfl, ha, hy, q⟩ := h
  obtain rfl : v = Value.ref a := rx
  obtain ⟨mA, O, _⟩ := ins_get I.hok ha
  obtain ⟨od, J, _⟩ := O.look
  have run : wpAny (model X.prog X.w) X.A (call (.ref f) [.ref a, u]) (PySem.W.CmpBack (EP X pins σ Q)) X.xe s := wpAny_mono (run_fnS (vs := [.ref a, y]) (us := [.ref a, u]) F hr hb (hx σ) I (.cons rfl (.cons ry .nil)) q) (fun _ _ z => back_of z) fun _ _ z => z
  rcases hy with ⟨T2, ty, R⟩ | ty
  · obtain ⟨P, Z, hp, _⟩ := kit_of I ry ty
    obtain ⟨rc, b1, b2⟩ := T.back
    obtain ⟨fo, c1⟩ := R.io
    obtain ⟨ro, c2⟩ := R.ir
    exact bin_of1 (bin1_type I.kIn J (fun h e => by rw [← e]; exact Z.ty _ _ I.kIn hp) T.first T.own T.fn b1 b2 c1 c2 R.sub run)
  · obtain ⟨P, Z, hp, _⟩ := kit_of I ry ty
    exact bin_own I.kIn J (fun h e => by rw [← e]; exact Z.ty _ _ I.kIn hp) T.first T.own T.fn run
theorem pe_leftS {K : PySem.W.Frag} (F : FnOk X.prog X.w X.K X.mg X.base CX k f fd ps sp) (hr : Room k X.A) (hb : Binds X.K fd ps []) (T : Lty K C op f) (hx : ∀ σ, PassesAt CX X σ (E σ)) (ha : PE X ea ta) (hb2 : PE X eb tb) (hK : X.K = K := by rfl) :
    PE X (.BinOp ea op eb pos) (fun σ H Q => ta σ H fun x H1 => tb σ H1 fun y H2 => rLeft K C op sp (E σ) x y H2 Q) := by
  subst hK
  exact ⟨fun pins s σ H Q I h => wpAny_BinOp (binT ha hb2 I h fun v u s2 x y H2 I2 rx ry q => op_leftS F hr hb T hx pins s2 σ H2 x y v u Q I2 rx ry q)⟩
/-- += at a name that holds an instance -/
theorem pip_left (F : FnOk X.prog X.w X.K X.mg X.base CX k f fd ps sp) (hr : Room k X.A) (hb : Binds X.K fd ps []) (T : Lty X.K C op f) (R : Rty X.K C op "int") (hc : (PySem.W.clsIn X.K C).map (·.mro) = some [.ref C, .type "object"]) (n1 : PySem.W.findIn X.K (.ref C) (dunderI op.info.2) = some none) (n2 : PySem.W.findIn X.K (.type "object") (dunderI op.info.2) = some none)
    (hx : ∀ σ, PassesAt CX X σ E0) : InOp X op (fun x y H Q => ∃ a dx fs i, x = .ref a ∧ y = .int i ∧ H a = some (.ins C dx fs) ∧ sp [.ref a, y] H Q E0) := by
  intro pins s σ H x y v u Q I rx ry h
  obtain ⟨a, dx, fs, i, rfl, rfl, ha, q⟩ := h
  obtain rfl : v = Value.ref a := rx
  obtain ⟨mA, O, _⟩ := ins_get I.hok ha
  obtain ⟨od, J, _⟩ := O.look
  have run : wpAny (model X.prog X.w) X.A (call (.ref f) [.ref a, u]) (PySem.W.CmpBack (EP X pins σ Q)) X.xe s := wpAny_mono (run_fnS (E := fun _ => E0) (vs := [.ref a, .int i]) (us := [.ref a, u]) F hr hb (hx σ) I (.cons rfl (.cons ry .nil)) q) (fun _ _ z => back_of z) fun _ _ z => z
  obtain ⟨P, Z, hp, _⟩ := kit_of I ry (.base (.int i))
  obtain ⟨rc, b1, b2⟩ := T.back
  obtain ⟨fo, c1⟩ := R.io
  obtain ⟨ro, c2⟩ := R.ir
  exact inp_of1 I.kIn J hc n1 n2 (bin1_type I.kIn J (fun h e => by rw [← e]; exact Z.ty _ _ I.kIn hp) T.first T.own T.fn b1 b2 c1 c2 R.sub run)
def rBack (C : Addr) (sp : Sp) (E : XK) : R2 := fun x y H Q => ∃ a dx fs, y = .ref a ∧ H a = some (.ins C dx fs) ∧ ((∃ i, x = .int i) ∨ ∃ b, x = .bl b) ∧ sp [.ref a, x] H Q E
/-- int + instance -/
theorem pe_backS {fA : Addr} (F : FnOk X.prog X.w X.K X.mg X.base CX k f fd ps sp) (hr : Room k X.A) (hb : Binds X.K fd ps []) (first : PySem.W.selfFirst X.K C = true) (own : PySem.W.findIn X.K (.ref C) (PySem.dunder "add") = some (some (.ref fA))) (back : PySem.W.findIn X.K (.ref C) (dunderR "add") = some (some (.ref f))) (fn : PySem.W.isFn X.K (.ref f) = true)
    (lo1 : PySem.W.subIn X.K (.ref C) (.type "int") = some false) (lo2 : PySem.W.subIn X.K (.ref C) (.type "bool") = some false) (hx : ∀ σ, PassesAt CX X σ (E σ)) (ha : PE X ea ta) (hb2 : PE X eb tb) :
    PE X (.BinOp ea .Add eb pos) (fun σ H Q => ta σ H fun x H1 => tb σ H1 fun y H2 => rBack C sp (E σ) x y H2 Q) := by
  refine ⟨fun pins s σ H Q I h => wpAny_BinOp (binT ha hb2 I h fun v u s2 x y H2 I2 rx ry q => ?_)⟩
  obtain ⟨a, dx, fs, rfl, hH, hx2, q⟩ := q
  obtain rfl : u = Value.ref a := ry
  obtain ⟨mA, O, _⟩ := ins_get I2.hok hH
  obtain ⟨od, J, _⟩ := O.look
  have run : wpAny (model X.prog X.w) X.A (call (.ref f) [.ref a, v]) (PySem.W.CmpBack (EP X pins σ Q)) X.xe s2 := wpAny_mono (run_fnS (vs := [.ref a, x]) (us := [.ref a, v]) F hr hb (hx σ) I2 (.cons rfl (.cons rx .nil)) q) (fun _ _ z => back_of z) fun _ _ z => z
  refine add_back I2.kIn J O.1 first own back fn lo1 lo2 ?_ run
  rcases hx2 with ⟨i, rfl⟩ | ⟨b, rfl⟩
  · obtain ⟨t, rfl⟩ := rx
    exact .inl ⟨i, t, rfl⟩
  · exact .inr ⟨b, rx⟩
/-- a call that raises nothing here -/
theorem pass_no {σ : L2.St} : PassesAt (L2.CX X.prog X.w) X σ E0 := by
  intro pins H s e s2 I c
  obtain ⟨_, _, _, _, _, _, _, _, _, _, _, _, z⟩ := c
  exact z.elim
end
end Mz
set_option Elab.async false
set_option linter.all false
set_option maxRecDepth 100000
set_option maxHeartbeats 4000000
/-! what an own class says of in -/
namespace Mz
open PySem PySem.Spec PyProof.Rows L2
section
variable {X : Cx} {k : Nat} {f C : Addr} {fd : FuncData} {ps : List Str} {sp : Sp}
theorem op_inO (F : FnOk X.prog X.w X.K X.mg X.base CX0 k f fd ps sp) (hr : Room k X.A) (hb : Binds X.K fd ps []) (hs : PySem.W.findIn X.K (.ref C) "__contains__" = some (some (.ref f))) (hf : PySem.W.isFn X.K (.ref f) = true) :
    OpR X (compareOp .In) (fun x y H Q => ∃ a dx fs, y = .ref a ∧ H a = some (.ins C dx fs) ∧ sp [.ref a, x] H (fun v H2 => ∃ b : Bool, v = .bl b ∧ Q (.bl b) H2) E0) := by
  intro pins s σ H x y v u Q I rx ry h
  obtain ⟨a, dx, fs, rfl, ha, q⟩ := h
  obtain rfl : u = Value.ref a := ry
  obtain ⟨mA, O, _⟩ := ins_get I.hok ha
  obtain ⟨od, J, _⟩ := O.look
  obtain ⟨m, hF⟩ := I.fr
  refine PySem.W.in_K hF I.ok.mod.kin J hs hf (wpAny_mono (run_at (E := E0) (vs := [.ref a, x]) (us := [.ref a, v]) F hr I.env0 hb (fun _ _ z => z.elim) I (.cons rfl (.cons rx .nil)) q) (fun r s2 hv => ?_) fun _ _ z => z)
  obtain ⟨v, H2, I2, rv, b, rfl, q2⟩ := hv
  obtain rfl : r = Value.bool b := rv
  exact wpAny_truthy_bool ⟨.bl b, H2, I2, rfl, q2⟩
end
end Mz
set_option Elab.async false
set_option linter.all false
set_option maxRecDepth 100000
set_option maxHeartbeats 4000000
/-! == and != of two tuples (dict, int), == of two dicts of ints: whichever way it goes -/
namespace Mz
open PySem PySem.Spec PyProof.Rows L2
open PySem.SeqAt (EqIn)
open PySem.AutoSeq1 (wpAny_loadPart')
section
variable {prog : Program} {w : World}
theorem tup2_ne (l b : Addr) (u1 u2 w1 w2 : Value) (n n2 : Nat) (dd dd2 : Option Addr) (sl sl2 : Array (Option Value)) (e1 e2 : Bool) :
    MeetsIn prog w (Builtin.«tuple.__ne__» ⟨[.ref l, .ref b], []⟩)
      (fun A R s => s.heap.get? l = some { cls := .type "tuple", dict := dd, data := .seq #[u1, u2] n, slots := sl } ∧ s.heap.get? b = some { cls := .type "tuple", dict := dd2, data := .seq #[w1, w2] n2, slots := sl2 } ∧
        EqIn prog w A.in1 s u1 w1 e1 ∧ EqIn prog w A.in1 s u2 w2 e2 ∧ R (.ok (.ret (.bool (!(e1 && e2))))) s) :=
  .of_wp fun A R s h => by
    obtain ⟨hp, g, d, tk, os⟩ := s
    obtain ⟨hl, hb, h1, h2, h⟩ := h
    have f2 := AutoSeq1.sub_tuple_tuple
    have k1 : ∀ (E : Value → Shared → Prop) (Q : Bool → Shared → Prop), Q e1 ⟨hp, g, d, tk, os⟩ → wpAny (model prog w) A.in1 (eqBool u1 w1) Q E ⟨hp, g, d, tk, os⟩ := h1
    have k2 : ∀ (E : Value → Shared → Prop) (Q : Bool → Shared → Prop), Q e2 ⟨hp, g, d, tk, os⟩ → wpAny (model prog w) A.in1 (eqBool u2 w2) Q E ⟨hp, g, d, tk, os⟩ := h2
    cases e1 with
    | false =>
      wp_walk using wpAny_loadPart' hl, wpAny_loadPart' hb, k1 _ _
      exact ⟨_, rfl, h⟩
    | true =>
      cases e2 with
      | false =>
        wp_walk using wpAny_loadPart' hl, wpAny_loadPart' hb, k1 _ _, k2 _ _
        exact ⟨_, rfl, h⟩
      | true =>
        wp_walk using wpAny_loadPart' hl, wpAny_loadPart' hb, k1 _ _, k2 _ _
        exact ⟨_, rfl, h⟩
end
/-- the dicts hold the same -/
def eqDV (ks ls : List (Key × V)) : Bool := (ks.length == ls.length) && ks.all fun p => decide (valV ls p.1 = some p.2)
def AllI (ks : List (Key × V)) : Prop := ∀ p ∈ ks, ∃ n, p.2 = V.int n
theorem valV_mem {ks : List (Key × V)} {k : Key} {v : V} (h : valV ks k = some v) : ∃ p ∈ ks, p.1 = k ∧ p.2 = v := by
  unfold valV at h
  cases e : ks.find? fun kv => decide (kv.1 = k) with
  | none =>
    rw [e] at h
    cases h
  | some p =>
    rw [e] at h
    exact ⟨p, List.mem_of_find?_eq_some e, of_decide_eq_true (by simpa using List.find?_some e), Option.some.inj h⟩
theorem valV_self : ∀ {ks : List (Key × V)}, (ks.map (·.1)).Nodup → ∀ p ∈ ks, valV ks p.1 = some p.2
  | q :: r, nd, p, hp => by
    rw [List.map_cons, List.nodup_cons] at nd
    rcases List.mem_cons.mp hp with rfl | hp
    · exact valV_pos rfl
    · rw [valV_neg fun e => nd.1 (by rw [e]; exact List.mem_map_of_mem hp)]
      exact valV_self nd.2 p hp
theorem eqDV_self {ks : List (Key × V)} (nd : (ks.map (·.1)).Nodup) : eqDV ks ks = true := by
  unfold eqDV
  rw [beq_self_eq_true, Bool.true_and, List.all_eq_true]
  exact fun p hp => decide_eq_true (valV_self nd p hp)
section
variable {X : Cx} {pins : List (Addr × Obj)} {σ : L2.St} {H : Hp} {s : Shared}
theorem hits_ints {prog : Program} {w : World} {A : Around} {ls : List (Key × V)} {vb : List (Key × Value)} (rb : KV ls vb) (il : AllI ls) {ks : List (Key × V)} {va : List (Key × Value)} (ra : KV ks va) :
    AllI ks → PySem.W.KeqHitsIn prog w A s vb va (ks.all fun p => decide (valV ls p.1 = some p.2)) := by
  unfold KV at ra
  induction ra with
  | nil => exact fun _ => .nil
  | @cons p q ps qs h t ih =>
    intro hi
    obtain ⟨h1, h2⟩ := h
    obtain ⟨key, v⟩ := q
    have hk : p.1 = key := h1
    obtain ⟨n, en⟩ := hi p List.mem_cons_self
    have h2 : RelV p.2 v := h2
    rw [en] at h2
    obtain ⟨t1, rfl⟩ := h2
    have rr := rb.val p.1
    rw [List.all_cons]
    cases e : valV ls p.1 with
    | none =>
      rw [e] at rr
      rw [decide_eq_false (fun x => nomatch x), Bool.false_and]
      refine .miss ?_
      rw [← hk]
      cases x : valueAt vb p.1 with
      | none => rfl
      | some y =>
        rw [x] at rr
        exact absurd rr (fun z => nomatch z)
    | some u =>
      rw [e] at rr
      obtain ⟨y, hy, ry⟩ := RelO.some_of rr
      obtain ⟨m, em⟩ : ∃ m, u = .int m := by
        obtain ⟨q, hq, _, e2⟩ := valV_mem e
        obtain ⟨m, em⟩ := il q hq
        exact ⟨m, by rw [← e2, em]⟩
      subst em
      obtain ⟨t2, rfl⟩ := ry
      have hd : decide (some (V.int m) = some p.2) = (n == m) := by
        rw [en]
        by_cases x : m = n
        · rw [x]
          simp
        · rw [decide_eq_false (fun z => x (V.int.inj (Option.some.inj z)))]
          exact (beq_false_of_ne fun z => x z.symm).symm
      rw [hd]
      exact .hit (by rw [← hk]; exact hy) ((SeqAt.EqAt.int_int _ _ _ _).inModel prog w) (ih fun z hz => hi z (List.mem_cons_of_mem _ hz))
theorem dict_eqIn (I : Inv X pins σ H s) {A : Around} (hu : A.units + 1 < cLine) {a b : Addr} {ks ls : List (Key × V)} (ea : H a = some (.dK ks)) (eb : H b = some (.dK ls)) (ia : AllI ks) (ib : AllI ls) (nd : (ks.map (·.1)).Nodup) :
    EqIn X.prog X.w A s (.ref a) (.ref b) (eqDV ks ls) := by
  by_cases x : a = b
  · subst x
    rw [ea] at eb
    cases eb
    rw [eqDV_self nd]
    exact (SeqAt.EqAt.same _).inModel _ _
  · obtain ⟨_, ya, va, ra, da⟩ := (show ObjOk X.prog X.w H s.heap a (.dK ks) from I.hok a _ ea)
    obtain ⟨_, yb, vb, rb, db⟩ := (show ObjOk X.prog X.w H s.heap b (.dK ls) from I.hok b _ eb)
    refine SeqAt.EqIn.of_refs x fun E Q hq => PySem.W.keq_eqIn (knd := mixKind X.prog X.w) ya yb da db (by omega) (fun _ => hits_ints rb ib ra ia) ?_
    unfold eqDV at hq
    rw [ra.length, rb.length] at hq
    exact hq
def rEqDI : R2 := fun x y H Q => ∃ a b ks ls, x = .ref a ∧ y = .ref b ∧ H a = some (.dK ks) ∧ H b = some (.dK ls) ∧ AllI ks ∧ AllI ls ∧ Q (.bl (eqDV ks ls)) H
theorem op_eqDI (hu : X.A.units + 1 < cLine) : OpR X (compareOp .Eq) rEqDI := by
  intro pins s σ H x y v u Q I rx ry h
  obtain ⟨a, b, ks, ls, rfl, rfl, ea, eb, ia, ib, q⟩ := h
  obtain rfl : v = Value.ref a := rx
  obtain rfl : u = Value.ref b := ry
  obtain ⟨_, ya, va, ra, da⟩ := (show ObjOk X.prog X.w H s.heap a (.dK ks) from I.hok a _ ea)
  obtain ⟨_, yb, vb, rb, db⟩ := (show ObjOk X.prog X.w H s.heap b (.dK ls) from I.hok b _ eb)
  refine PySem.W.keq_eqIn (knd := mixKind X.prog X.w) ya yb da db (by omega) (fun _ => hits_ints rb ib ra ia) ⟨.bl (eqDV ks ls), H, I, ?_, q⟩
  show Value.bool _ = Value.bool _
  unfold eqDV
  rw [ra.length, rb.length]
def rTD (f : Bool → Bool) : R2 := fun x y H Q => ∃ a b d e ks ls i j, x = .ref a ∧ y = .ref b ∧ H a = some (.tup [.ref d, .int i]) ∧ H b = some (.tup [.ref e, .int j]) ∧ H d = some (.dK ks) ∧ H e = some (.dK ls) ∧ AllI ks ∧ AllI ls ∧ (ks.map (·.1)).Nodup ∧ Q (.bl (f (eqDV ks ls && decide (i = j)))) H
theorem int_deq {i j : Int} : (i == j) = decide (i = j) := rfl
theorem op_eqTD (hu : X.A.units + 64 < cLine) : OpR X (compareOp .Eq) (rTD fun b => b) := by
  intro pins s σ H x y v u Q I rx ry h
  obtain ⟨a, b, d, e, ks, ls, i, j, rfl, rfl, ha, hb, hd, he, ia, ib, nd, q⟩ := h
  obtain rfl : v = Value.ref a := rx
  obtain rfl : u = Value.ref b := ry
  obtain ⟨us, r1, p1, _⟩ := I.tuple (SqT.of ha)
  obtain ⟨ws, r2, p2, _⟩ := I.tuple (SqT.of hb)
  obtain ⟨x1, x2, rfl, e1, ⟨t1, rfl⟩⟩ := vals2 r1
  obtain ⟨y1, y2, rfl, e2, ⟨t2, rfl⟩⟩ := vals2 r2
  obtain rfl : x1 = Value.ref d := e1
  obtain rfl : y1 = Value.ref e := e2
  refine SeqAt.rcIn_tuples (e := fun n => if n = 0 then eqDV ks ls else (i == j)) p1 p2 (by omega) (fun n h1 h2 => ?_) ⟨.bl (eqDV ks ls && decide (i = j)), H, I, ?_, q⟩
  · match n, h1, h2 with
    | 0, _, _ => exact dict_eqIn I (by show X.A.units + 1 + 1 < cLine; omega) hd he ia ib nd
    | 1, _, _ => exact (SeqAt.EqAt.int_int _ _ _ _).inModel _ _
    | n + 2, h1, _ => exact absurd h1 (by simp)
  · show Value.bool _ = Value.bool _
    simp [List.range_succ]
    rfl
theorem op_neTD (hu : X.A.units + 64 < cLine) : OpR X (compareOp .NotEq) (rTD fun b => !b) := by
  intro pins s σ H x y v u Q I rx ry h
  obtain ⟨a, b, d, e, ks, ls, i, j, rfl, rfl, ha, hb, hd, he, ia, ib, nd, q⟩ := h
  obtain rfl : v = Value.ref a := rx
  obtain rfl : u = Value.ref b := ry
  obtain ⟨us, r1, p1, _⟩ := I.tuple (SqT.of ha)
  obtain ⟨ws, r2, p2, _⟩ := I.tuple (SqT.of hb)
  obtain ⟨x1, x2, rfl, e1, ⟨t1, rfl⟩⟩ := vals2 r1
  obtain ⟨y1, y2, rfl, e2, ⟨t2, rfl⟩⟩ := vals2 r2
  obtain rfl : x1 = Value.ref d := e1
  obtain rfl : y1 = Value.ref e := e2
  obtain ⟨⟨cls, dd, data, sl⟩, ho, hc, n, hdt⟩ := id p1
  obtain ⟨⟨cls2, dd2, data2, sl2⟩, ho2, hc2, n2, hdt2⟩ := id p2
  simp only at hc hdt hc2 hdt2
  subst hc hdt hc2 hdt2
  refine PySem.W.cmp_ofNotEq (wpAny_richCompare_same_room (T := "tuple") (op := .NotEq) ⟨_, ho, rfl⟩ ⟨_, ho2, rfl⟩ F.slot_tuple_ne (call_meetsIn F.slot_tuple_ne ⟨_, ho, rfl⟩ F.entry_tuple_ne (F.args_tuple_ne_2 _ _) (tup2_ne a b _ _ _ _ n n2 dd dd2 sl sl2 (eqDV ks ls) (i == j))
    ⟨ho, ho2, dict_eqIn I (by show X.A.units + 1 + 1 < cLine; omega) hd he ia ib nd, (SeqAt.EqAt.int_int _ _ _ _).inModel _ _, (show Value.bool _ ≠ Value.notImplemented ∧ _ from ⟨(fun x => nomatch x), .bl (!(eqDV ks ls && decide (i = j))), H, I, rfl, q⟩)⟩) (by omega))
end
end Mz
set_option Elab.async false
set_option linter.all false
set_option maxRecDepth 100000
set_option maxHeartbeats 4000000
/-! sets over any kind of keys that keep what a walk wants; set comprehensions and sorted of texts -/
namespace Mz
open PySem PySem.Spec PyProof.Rows L2
/-- the values of a key kind, and the key that a value has -/
structure KeyIn {P : Program} {w : World} {α : Type} [DecidableEq α] (κ : PySem.KeyKind P w α) (ok : Value → Prop) (rd : Value → α) : Prop where
  self : ∀ v, ok v → κ.is (rd v) v = true
  scan : ∀ v, ok v → v.scannable = true
section
variable {P : Program} {w : World} {α : Type} [DecidableEq α]
/-- the set at a: which keys are in it, how many -/
def SetG (κ : PySem.KeyKind P w α) (ok : Value → Prop) (rd : Value → α) (h : Heap) (a : Addr) (S : α → Bool) (n : Nat) : Prop :=
  ∃ (ob : Obj) (ents : Array (Int × Value)) (age : Nat) (tab : SetTable), h.get? a = some ob ∧ ob.ExactSet ∧ ob.data = .set ents age tab ∧ (∀ e ∈ ents.toList, ok e.2 ∧ e.1 = κ.hash (rd e.2)) ∧
    (ents.toList.map fun e => rd e.2).Nodup ∧ (∀ k, S k = true ↔ k ∈ ents.toList.map fun e => rd e.2) ∧ ents.size < scanBound ∧ tab.fits ents.size = true ∧ ents.size = n ∧ Ris tab.place.toList ∧
    (w.params.followText "set-order" = true ∨ tab.led = true)
variable {κ : PySem.KeyKind P w α} {ok : Value → Prop} {rd : Value → α}
theorem SetG.at {h h' : Heap} {a : Addr} {S : α → Bool} {n : Nat} (R : SetG κ ok rd h a S n) (keep : ∀ o, h.get? a = some o → h'.get? a = some o) : SetG κ ok rd h' a S n := by
  obtain ⟨ob, ents, age, tab, hob, more⟩ := R
  exact ⟨ob, ents, age, tab, keep ob hob, more⟩
theorem elems_in (k : KeyIn κ ok rd) {l : List (Int × Value)} (g : ∀ e ∈ l, ok e.2 ∧ e.1 = κ.hash (rd e.2)) : ElemsOf κ l :=
  fun e he => ⟨⟨rd e.2, k.self _ (g e he).1, (g e he).2⟩, k.scan _ (g e he).1⟩
theorem mem_in (ki : KeyIn κ ok rd) {l : List (Int × Value)} (g : ∀ e ∈ l, ok e.2 ∧ e.1 = κ.hash (rd e.2)) (k : α) : (k ∈ l.map fun e => rd e.2) ↔ ∃ e ∈ l, κ.is k e.2 = true := by
  constructor
  · intro h
    obtain ⟨e, he, rfl⟩ := List.mem_map.mp h
    exact ⟨e, he, ki.self _ (g e he).1⟩
  · rintro ⟨e, he, hk⟩
    exact List.mem_map.mpr ⟨e, he, κ.inj e.2 _ _ (ki.self _ (g e he).1) hk⟩
theorem SetG.setOf (ki : KeyIn κ ok rd) {h : Heap} {a : Addr} {S : α → Bool} {n : Nat} (R : SetG κ ok rd h a S n) : h.SetOf κ a S n := by
  obtain ⟨ob, ents, age, tab, h1, h2, h3, g, _, hm, h4, h5, h6, _⟩ := R
  exact ⟨ob, ents, age, tab, h1, h2, h3, elems_in ki g, fun k => (hm k).trans (mem_in ki g k), h4, h5, h6⟩
/-- a new set -/
theorem setG_fresh {h : Heap} : SetG κ ok rd (h.push { cls := .type "set", dict := none, data := .set #[] 0 (.fresh 0 0 (!w.params.followText "set-order")) }) h.objs.size (fun _ => false) 0 := by
  refine ⟨_, #[], 0, _, Heap.get?_push_size _ rfl, ⟨rfl, rfl, rfl⟩, rfl, (fun e he => absurd he (by simp)), by simp, fun k => by simp, by decide, by rfl, rfl, List.Pairwise.nil, ?_⟩
  show _ ∨ (!w.params.followText "set-order") = true
  cases w.params.followText "set-order" <;> simp
variable {A : Around} {E : Value → Shared → Prop} {s : Shared} {a : Addr} {S : α → Bool} {n : Nat}
theorem stored {h : Heap} {ob : Obj} {e1 e2 : Array (Int × Value)} {age : Nat} {t1 t2 : SetTable} (hob : h.get? a = some ob) (hd : ob.data = .set e1 age t1) : (h.update a (Obj.putSet e2 t2)).get? a = some { ob with data := .set e2 (age + 1) t2 } :=
  PpSet.storeB_at hob hd
/-- what stands behind an entry that was laid: stored, and laid anew where the table is too full -/
theorem laid_tail {say : Bool → Sem Unit} (hsay : ∀ (b : Bool) (s1 : Shared) (Q1 : Unit → Shared → Prop), Q1 () s1 → wpAny (model P w) A (say b) Q1 E s1) {ob : Obj} {old : Array (Int × Value)} {age : Nat} {told : SetTable} (hob : s.heap.get? a = some ob)
    (hex : ob.ExactSet) (hd : ob.data = .set old age told) {ents : Array (Int × Value)} {tab : SetTable} {S2 : α → Bool} (g : ∀ e ∈ ents.toList, ok e.2 ∧ e.1 = κ.hash (rd e.2)) (nd : (ents.toList.map fun e => rd e.2).Nodup)
    (hm : ∀ k, S2 k = true ↔ k ∈ ents.toList.map fun e => rd e.2) (hb : ents.size < scanBound) (hf : tab.fits ents.size = true) (hr : Ris tab.place.toList) (hl : w.params.followText "set-order" = true ∨ tab.led = true) {dummy : Bool} {R : Option Bool → Shared → Prop}
    (hR : ∀ h2, Heap.SameBut a s.heap h2 → SetG κ ok rd h2 a S2 ents.size → R (some true) { s with heap := h2 }) :
    wpAny (model P w) A (do
        storeSet a ents tab
        if (!dummy && tab.tooFull) = true then do
            say (relayAll tab ents (SetTable.grown ents.size)).2.2
            storeSet a (relayAll tab ents (SetTable.grown ents.size)).1 (relayAll tab ents (SetTable.grown ents.size)).2.1
            pure (some true)
          else pure (some true)) R E s := by
  have once := Heap.SameBut.update s.heap a (Obj.putSet ents tab)
  have put1 := stored (e2 := ents) (t2 := tab) hob hd
  refine wpAny_bind (wpAny_storeSet_of hob hd ?_ (fits_of_scanBound hb))
  by_cases full : (!dummy && tab.tooFull) = true
  · rw [if_pos full]
    have q1 := relayAll_perm tab ents (SetTable.grown ents.size)
    have q2 := relayAll_fits tab ents (SetTable.grown ents.size)
    have q3 := relayAll_ris tab ents (SetTable.grown ents.size)
    have q4 := relayAll_led tab ents (SetTable.grown ents.size)
    generalize relayAll tab ents (SetTable.grown ents.size) = T at q1 q2 q3 q4 ⊢
    have size2 : T.1.size = ents.size := by rw [← Array.length_toList, q1.length_eq, Array.length_toList]
    refine wpAny_bind (hsay _ _ _ (wpAny_bind (wpAny_storeSet_of put1 rfl (wpAny_pure (hR _ (once.trans (Heap.SameBut.update _ a _)) ?_)) (fits_of_scanBound (by rw [size2]; exact hb)))))
    refine ⟨_, T.1, _, T.2.1, stored (e2 := T.1) (t2 := T.2.1) put1 rfl, hex, rfl, fun e he => g e (q1.mem_iff.mp he), ((q1.map fun e => rd e.2).nodup_iff).mpr nd, fun k => (hm k).trans ((q1.map fun e => rd e.2).mem_iff).symm, by rw [size2]; exact hb, q2, size2, q3, ?_⟩
    rw [q4]
    exact hl
  · rw [if_neg full]
    exact wpAny_pure (hR _ once ⟨_, ents, _, tab, put1, hex, rfl, g, nd, hm, hb, hf, rfl, hr, hl⟩)
/-- an entry laid into the set -/
theorem setG_add_hashed (ki : KeyIn κ ok rd) {v : Value} (hv : ok v) {Q : Bool → Shared → Prop} (R : SetG κ ok rd s.heap a S n) (room : n + 1 < scanBound)
    (hQ : ∀ h2, Heap.SameBut a s.heap h2 → SetG κ ok rd h2 a (fun j => S j || decide (j = rd v)) (if S (rd v) = true then n else n + 1) → Q (!S (rd v)) { s with heap := h2 }) : wpAny (model P w) A (setAddHashed a v (κ.hash (rd v))) Q E s := by
  obtain ⟨ob, ents, age, tab, hob, hex, hd, g, nd, hm, hb, hf, hn, hr, hl⟩ := R
  have isv : κ.is (rd v) v = true := ki.self v hv
  have sv : v.scannable = true := ki.scan v hv
  have els : ElemsOf κ ents.toList := elems_in ki g
  unfold setAddHashed setAddHashedIn
  refine wpAny_holding (wpAny_bind (wpAny_setState_of hob hd hf ?_))
  dsimp only
  rw [byScan_of sv hb els]
  simp only [↓reduceIte]
  unfold setAddByScan
  refine wpAny_bind (wpAny_bind (wpAny_rule (wpAny_bind (wpAny_setScan_of isv hob hd hf els ?_))))
  cases hit : List.findIdx? (fun e => κ.is (rd v) e.2) ents.toList with
  | some j =>
    obtain ⟨lj, pj, _⟩ := List.findIdx?_eq_some_iff_getElem.mp hit
    have inS : S (rd v) = true := (hm _).2 ((mem_in ki g _).2 ⟨ents.toList[j], List.getElem_mem lj, pj⟩)
    have z := hQ s.heap (Heap.SameBut.refl a s.heap) ⟨ob, ents, age, tab, hob, hex, hd, g, nd, fun i => by
      rw [← hm i, Bool.or_eq_true, decide_eq_true_eq]
      exact ⟨fun q => q.elim id fun e => by rw [e]; exact inS, Or.inl⟩, hb, hf, by rw [if_pos inS]; exact hn, hr, hl⟩
    rw [inS] at z
    exact wpAny_pure (wpAny_pure z)
  | none =>
    dsimp only
    have out : rd v ∉ ents.toList.map fun e => rd e.2 := fun q => by
      obtain ⟨e, he, hk⟩ := (mem_in ki g _).1 q
      rw [List.findIdx?_eq_none_iff.mp hit e he] at hk
      exact Bool.false_ne_true hk
    have outS : S (rd v) = false := Bool.eq_false_iff.mpr fun q => out ((hm _).1 q)
    have q1 := layNew_perm tab ents (κ.hash (rd v)) v
    have q2 := layNew_fits tab ents (κ.hash (rd v)) v
    have q3 := layNew_ris tab ents (κ.hash (rd v)) v hr
    have q4 := layNew_led tab ents (κ.hash (rd v)) v
    generalize layNew tab ents (κ.hash (rd v)) v = T at q1 q2 q3 q4 ⊢
    obtain ⟨en2, tab2, dummy, gave⟩ := T
    dsimp only at q1 q2 q3 q4 ⊢
    rw [Array.toList_push] at q1
    have pc : en2.toList.Perm ((κ.hash (rd v), v) :: ents.toList) := q1.trans (List.perm_append_singleton _ _)
    have pk : (en2.toList.map fun e => rd e.2).Perm (rd v :: ents.toList.map fun e => rd e.2) := pc.map fun e => rd e.2
    have g2 : ∀ e ∈ en2.toList, ok e.2 ∧ e.1 = κ.hash (rd e.2) := fun e he => by
      rcases List.mem_cons.mp (pc.mem_iff.mp he) with rfl | q
      · exact ⟨hv, rfl⟩
      · exact g e q
    have nd2 : (en2.toList.map fun e => rd e.2).Nodup := pk.nodup_iff.mpr (List.nodup_cons.mpr ⟨out, nd⟩)
    have m2 : ∀ i, (S i || decide (i = rd v)) = true ↔ i ∈ en2.toList.map fun e => rd e.2 := fun i => by
      rw [pk.mem_iff, List.mem_cons, ← hm i, Bool.or_eq_true, decide_eq_true_eq]
      exact Or.comm
    have sz : en2.size = n + 1 := by rw [← Array.length_toList, pc.length_eq, List.length_cons, Array.length_toList, hn]
    have b2 : en2.size < scanBound := by rw [sz]; exact room
    have led2 : w.params.followText "set-order" = true ∨ tab2.led = true := by rw [q4]; exact hl
    have done : ∀ h2, Heap.SameBut a s.heap h2 → SetG κ ok rd h2 a (fun j => S j || decide (j = rd v)) en2.size → Q true { s with heap := h2 } := fun h2 sb r => by
      have z := hQ h2 sb
      rw [outS, if_neg Bool.false_ne_true, ← sz] at z
      exact z r
    have say : ∀ (b : Bool) (s1 : Shared) (Q1 : Unit → Shared → Prop), Q1 () s1 → wpAny (model P w) A (match b with | true => rule "set.scan.the-table-gave-way" | false => pure ()) Q1 E s1 := fun b s1 Q1 q => by
      cases b with
      | true => exact wpAny_rule q
      | false => exact wpAny_pure q
    refine wpAny_bind (say _ _ _ ?_)
    split
    · refine wpAny_bind ?_
      rw [hashByValue_scannable 8 sv]
      refine wpAny_pure (laid_tail ?_ hob hex hd g2 nd2 m2 b2 ?_ ?_ ?_ fun h2 sb r => ?_)
      · exact fun b s1 Q1 q => by cases b <;> first | exact wpAny_rule q | exact wpAny_pure q
      · first | exact q2 | (split <;> first | exact q2 | exact SetTable.fits_plain_off q2)
      · first | exact q3 | (split <;> exact q3)
      · first | exact led2 | (split <;> exact led2)
      · dsimp only
        exact wpAny_pure (done h2 sb r)
    · refine wpAny_bind (wpAny_pure ?_)
      simp only [↓reduceIte]
      refine laid_tail ?_ hob hex hd g2 nd2 m2 b2 q2 q3 led2 fun h2 sb r => ?_
      · exact fun b s1 Q1 q => by cases b <;> first | exact wpAny_rule q | exact wpAny_pure q
      · dsimp only
        exact wpAny_pure (done h2 sb r)
theorem setG_add (ki : KeyIn κ ok rd) {v : Value} (hv : ok v) {Q : Value → Shared → Prop} (R : SetG κ ok rd s.heap a S n) (room : n + 1 < scanBound)
    (hQ : ∀ h2, Heap.SameBut a s.heap h2 → SetG κ ok rd h2 a (fun j => S j || decide (j = rd v)) (if S (rd v) = true then n else n + 1) → Q .none { s with heap := h2, toks := s.toks + 1 }) :
    wpAny (model P w) A (call (.builtin "set.add") [.ref a, v]) Q E s := by
  refine wpAny_call_entry F.slot_set_add (R.setOf ki).typeIs F.entry_set_add ?_ (F.args_set_add_2 _ _)
  unfold Builtin.«set.add» Builtin.Frozenset.oneOther Builtin.Frozenset.addrOf
  simp only [List.isEmpty_nil, bind_assoc]
  refine wpAny_bind (wpAny_pure ?_)
  try dsimp only
  unfold setAdd
  refine wpAny_bind (wpAny_pure ?_)
  try dsimp only
  refine wpAny_bind (wpAny_holding (wpAny_bind (κ.pyHash (ki.self v hv) ?_)))
  refine setG_add_hashed ki hv (s := { s with toks := s.toks + 1 }) R room fun h2 sb r => ?_
  show wpAny _ _ (ret Value.none) _ _ _
  exact wpAny_pure ⟨_, rfl, hQ h2 sb r⟩
end
/-! ### sets of texts -/
def txtV : Value → Str
  | .str z _ => z
  | _ => Str.empty
def isTxt (v : Value) : Prop := ∃ z t, v = .str z t
theorem txt_in (P : Program) (w : World) : KeyIn (PySem.strKind P w) isTxt txtV :=
  ⟨fun v ⟨z, t, e⟩ => by rw [e]; exact PySem.strKind_is P w z t, fun v ⟨z, t, e⟩ => by rw [e]; rfl⟩
def SetS (P : Program) (w : World) (a : Addr) (S : Str → Bool) (n : Nat) : HO := .ext fun h => SetG (PySem.strKind P w) isTxt txtV h a S n
theorem setS_new {w : World} {P : Program} {H : Hp} {h : Heap} {a : Addr} {S : Str → Bool} {n : Nat} (R : SetG (PySem.strKind P w) isTxt txtV h a S n) : ObjOk P w H h a (SetS P w a S n) := by
  have ⟨ob, _, _, _, hob, _⟩ := R
  exact ⟨R, ⟨ob, hob⟩, fun h1 h2 p k => SetG.at p k⟩
theorem strs_txt : ∀ vs : List Value, (∀ v ∈ vs, isTxt v) → StrsAre vs (vs.map txtV)
  | [], _ => .nil
  | v :: r, h => by
    obtain ⟨z, t, e⟩ := h v (List.mem_cons_self ..)
    rw [e]
    exact .cons z t (strs_txt r fun u hu => h u (List.mem_cons_of_mem _ hu))
section
variable {X : Cx} {pins : List (Addr × Obj)} {σ : L2.St} {H : Hp} {s : Shared} {a : Addr} {S : Str → Bool} {n : Nat}
theorem setS_get (I : Inv X pins σ H s) (ha : H a = some (SetS X.prog X.w a S n)) : SetG (PySem.strKind X.prog X.w) isTxt txtV s.heap a S n := (I.hok a _ ha).1
theorem addS_ok {E : Value → Shared → Prop} {z : Str} {tk : Tok} {Q : Value → Shared → Prop} (I : Inv X pins σ H s) (ha : H a = some (SetS X.prog X.w a S n)) (room : n + 1 < scanBound)
    (h : ∀ s2, Inv X pins σ (upd H a (SetS X.prog X.w a (fun j => S j || decide (j = z)) (if S z = true then n else n + 1))) s2 → Q .none s2) : wpAny (model X.prog X.w) X.A (call (.builtin "set.add") [.ref a, .str z tk]) Q E s := by
  refine setG_add (txt_in X.prog X.w) ⟨z, tk, rfl⟩ (setS_get I ha) room fun h2 sb new => ?_
  have there : ∃ u, h2.get? a = some u := by
    have ⟨ob, _, _, _, hob, _⟩ := new
    exact ⟨ob, hob⟩
  exact h _ (I.write (e := a) (t' := s.toks + 1) (by rw [ha]; trivial) (.inl rfl) (fun b u hb hu => (sb.2 b hb).trans hu) there (setS_new new))
/-- sorted(a set of texts) -/
def rSortSet (P : Program) (w : World) : List V → Hp → VK → Prop := fun vs H Q => ∃ (a : Addr) (S : Str → Bool) (n : Nat), vs = [V.ref a] ∧ H a = some (SetS P w a S n) ∧ n < 64 ∧
  ∀ (ys : List Str) (p : Addr), sortedS ys = true → ys.Nodup → (∀ z, z ∈ ys ↔ S z = true) → ys.length = n → H p = none → Q (.ref p) (upd H p (.lst (ys.map V.str)))
theorem cr_sortSet (hc : X.calm = true) : CallR X (.builtin "sorted") (rSortSet X.prog X.w) := by
  intro pins s σ H vs us Q I r h
  obtain ⟨a, S, n, rfl, ha, h64, q⟩ := h
  rw [Vals.ref1 r]
  obtain ⟨ob, ents, age, tab, hob, hex, hd, g, nd, hm, hb, hf, hn, hr, hl⟩ := setS_get I ha
  refine Calls.call_function_entry kind_sorted plain_sorted entry_sorted (args_sorted1 _) ?_
  unfold Builtin.«sorted»
  refine wpAny_bind (m := checkCount "sorted" 1 1 _) (wpAny_pure ?_)
  refine wpAny_bind (collect_set (A := X.A.in1) (I.ok.hd hc) ⟨ob, hob, hex.1, hd⟩ hf hb hr hl fun s1 vals k1 big g1 o1 pm => ?_)
  have lenv : vals.length = n := by rw [pm.length_eq, List.length_map, Array.length_toList]; exact hn
  have hS : StrsAre vals (vals.map txtV) := strs_txt vals fun v hv => by
    obtain ⟨e, he, rfl⟩ := List.mem_map.mp (pm.mem_iff.mp hv)
    exact (g e he).1
  have pk : (vals.map txtV).Perm (ents.toList.map fun e => txtV e.2) := by
    have z := pm.map txtV
    rw [List.map_map] at z
    exact z
  refine wpAny_bind (wpAny_newList ?_ (by rw [lenv, sizeLine_eq]; omega))
  have hoL : (s1.heap.push (seqObj "list" vals.toArray 0)).get? s1.heap.objs.size = some (seqObj "list" vals.toArray 0) := Heap.get?_push_size _ rfl
  refine wpAny_bind (wpAny_holding (wpAny_call_entry slot_list_sort ⟨_, hoL, rfl⟩ entry_list_sort
    (list_sort_treeK strKind_oneLt hoL hS.keysOf (fun v1 v2 rest e => keyKind_strs (by rw [← e]; exact hS)) (by rw [lenv]; exact h64) fun st a1 a2 => ⟨_, rfl, ?_⟩) (args_list_sort _)))
  obtain ⟨ys, h1, h2, h3⟩ := sorted_out_str hS a1 a2
  obtain ⟨c, hc2⟩ := sortedHeap_at (vs := vals) (out := (arrOf st).map (·.2)) hoL
  have py : ys.Perm (ents.toList.map fun e => txtV e.2) := h2.trans pk
  have ly : ys.length = n := by rw [py.length_eq, List.length_map, Array.length_toList]; exact hn
  have kall : ∀ b u, s.heap.get? b = some u → (sortedHeap (s1.heap.push (seqObj "list" vals.toArray 0)) s1.heap.objs.size vals ((arrOf st).map (·.2))).get? b = some u := fun b u e => by
    have z := k1 b u e
    have lt := Heap.lt_size z
    rw [sortedHeap_old (Nat.ne_of_lt lt) (by rw [size_push']; exact Nat.lt_succ_of_lt lt)]
    exact Heap.get?_push_of_some _ z
  have hp : H s1.heap.objs.size = none := I.hok.fresh big
  have lenY : (ys.map V.str).length ≤ sizeLine := by rw [List.length_map, ly, sizeLine_eq]; omega
  generalize hs3 : ({ s1 with heap := sortedHeap (s1.heap.push (seqObj "list" vals.toArray 0)) s1.heap.objs.size vals ((arrOf st).map (·.2)) } : Shared) = s3
  have hh : s3.heap = sortedHeap (s1.heap.push (seqObj "list" vals.toArray 0)) s1.heap.objs.size vals ((arrOf st).map (·.2)) := by rw [← hs3]
  have gg : s3.gens = s.gens := by rw [← hs3]; exact g1
  have oo : s3.os = s.os := by rw [← hs3]; exact o1
  have J : Inv X pins σ (upd H s1.heap.objs.size (.lst (ys.map V.str))) { s with heap := s3.heap, gens := s3.gens, drawn := s3.drawn, toks := s3.toks } :=
    I.call (ch := []) (Un.laid (by rw [hh]; exact kall) big hp) (I.hok.laid (by rw [hh]; exact kall) big ⟨lenY, _, c, vals_of_strs h1, by rw [hh]; exact hc2⟩) (by rw [gg]; exact I.bare) (fun _ z => nomatch z)
  have es : s3 = { s with heap := s3.heap, gens := s3.gens, drawn := s3.drawn, toks := s3.toks } := by
    clear J hs3 hh gg
    cases s3
    cases s
    cases oo
    rfl
  refine wpAny_pure ⟨_, rfl, ?_⟩
  show EP X pins σ Q (.ref s1.heap.objs.size) _
  have fin : EP X pins σ Q (.ref s1.heap.objs.size) s3 := by
    rw [es]
    exact ⟨.ref _, _, J, rfl, q ys _ h3 (py.nodup_iff.mpr nd) (fun z => by rw [py.mem_iff, ← hm z]) ly hp⟩
  exact fin
/-! ### a set comprehension of texts -/
def tScS (P : Program) (w : World) (wi : TI) (g : TG) (tt : TT) (te : TE) (vs : List Nat) : TE := fun σ H Q => wi σ H fun J H1 => ∀ D, H1 D = none → ∃ W : Nat → Nat → Hp → Prop, (∃ m, W 0 m (upd H1 D (SetS P w D (fun _ => false) 0))) ∧ ∀ i m H, W i m H →
  (J.stop i H ∧ Q (.ref D) H) ∨ (J.go i H ∧ ∃ Nx : Hp → Prop, (∀ H', Nx H' → ∃ m', m' < m ∧ W (i + 1) m' H') ∧ ∀ x H', J.yld i H x H' → g x (wipe σ vs) H' fun σ2 H2 => wipe σ2 vs = wipe σ vs ∧ tt σ2 H2 fun b H3 =>
    if b = true then te σ2 H3 fun y H4 => ∃ (z : Str) (S : Str → Bool) (n : Nat), y = .str z ∧ H4 D = some (SetS P w D S n) ∧ n + 1 < scanBound ∧ Nx (upd H4 D (SetS P w D (fun j => S j || decide (j = z)) (if S z = true then n else n + 1))) else Nx H3)
theorem pe_scS {elt tg iter : Expr} {ifs : List Expr} {scope : Scope} {own : List (PySem.Str × Nat)} {pos : Pos} {wi : TI} {g : TG} {tt : TT} {te : TE} (hc : X.calm = true) (hN : X.N.Nodup) (hi : PI X tg iter wi) (ok : BlkOk X.N X.env.scope scope own)
    (hg : ∀ (s : Shared) (H : Hp) (C : Addr) (cl : List (PySem.Str × Addr)) (fp : List Addr), PG (X.blk s H scope (compEnvC scope cl C X.env) fp) tg g) (ht : ∀ (s : Shared) (H : Hp) (C : Addr) (cl : List (PySem.Str × Addr)) (fp : List Addr), PTs (X.blk s H scope (compEnvC scope cl C X.env) fp) ifs tt)
    (he : ∀ (s : Shared) (H : Hp) (C : Addr) (cl : List (PySem.Str × Addr)) (fp : List Addr), PE (X.blk s H scope (compEnvC scope cl C X.env) fp) elt te) (hs : ∀ x, foldedSetIterable iter X.env x = pure x := by intro _; rfl) :
    PE X (.SetComp elt [⟨tg, iter, ifs, 0⟩] scope pos) (tScS X.prog X.w wi g tt te (own.map (·.2))) := by
  refine ⟨fun pins s σ H Q I h => ?_⟩
  rw [PpSet.eval_SetComp]
  have closed : ∀ y ∈ scope.names, y.2 = .free → ∃ c, X.env.cells.lookup y.1 = some c := fun y hy e => (ok.free y hy e).elim (fun k => I.ok.has _ (.inl k)) fun k => I.ok.has _ (.inr k)
  refine wpAny_comprehension_free (use := none) rfl hs (closure_ok closed) ok.kind (fun y hy e => by rw [ok.uniq y hy, e]) (thn (hi.run pins s σ H _ I h) fun xv s1 hx => thn hx fun itv s2 h2 => ?_)
  obtain ⟨it, fp, tn, J, H2, e, I2, T, st2, f2, q⟩ := h2
  subst e
  refine PpSet.newSet_ok (newEnv_comp ?_)
  generalize hD : s2.heap.objs.size = D
  obtain ⟨W, ⟨m0, w0⟩, turn⟩ := q D (I2.hok.fresh (Nat.le_of_eq hD))
  generalize hs3 : ({ s2 with heap := s2.heap.push { cls := .type "set", dict := none, data := .set #[] 0 (.fresh 0 0 (!X.w.params.followText "set-order")) } } : Shared) = s3
  have h3 : s3.heap = s2.heap.push { cls := .type "set", dict := none, data := .set #[] 0 (.fresh 0 0 (!X.w.params.followText "set-order")) } := by rw [← hs3]
  generalize hH3 : upd H2 D (SetS X.prog X.w D (fun _ => false) 0) = H3 at w0
  have I3 : Inv X pins σ H3 s3 := by
    rw [← hH3, ← hs3]
    refine I2.laid (t' := s2.toks) (fun b o e => Heap.get?_push_of_some _ e) (Nat.le_of_eq hD) ?_
    rw [← hD]
    exact setS_new setG_fresh
  have f3 : ∀ b ∈ fp, FpOk X pins H3 b ∧ b < s3.heap.objs.size := fun b hb => by
    have lt : b < s2.heap.objs.size := by
      obtain ⟨o, e, _⟩ := T.obj _ _ st2 b hb
      exact Heap.lt_size e
    refine ⟨⟨?_, (f2 b hb).2⟩, by rw [h3, Heap.size_push]; exact Nat.lt_succ_of_lt lt⟩
    rw [← hH3, upd_ne (by rw [← hD]; exact Nat.ne_of_lt lt)]
    exact (f2 b hb).1
  have I4 := block_start I3 ok hN f3
  have pg := hg s3 H3 s3.heap.objs.size (cellsFrom (s3.heap.objs.size + 1) scope.names (cloFrom X.env.cells scope.names [])) fp
  have pt := ht s3 H3 s3.heap.objs.size (cellsFrom (s3.heap.objs.size + 1) scope.names (cloFrom X.env.cells scope.names [])) fp
  have pe := he s3 H3 s3.heap.objs.size (cellsFrom (s3.heap.objs.size + 1) scope.names (cloFrom X.env.cells scope.names [])) fp
  have nfp : ∀ b ∈ fp, H3 b = none := fun b hb => (f3 b hb).1.1
  show codeAny _ _ (.compStart (.SetComp elt [⟨tg, iter, ifs, 0⟩] scope pos) 0 (.ref it) (.ref D) (compEnvC scope (cellsFrom (s3.heap.objs.size + 1) scope.names (cloFrom X.env.cells scope.names [])) s3.heap.objs.size X.env))
    (compPost (model X.prog X.w) X.A X.xe none (EP X pins σ Q) (.ref D) s3.heap.objs.size) { s3 with heap := pushCells (s3.heap.push { cls := .type "dict", data := .dict #[] }) scope.names }
  generalize hce : compEnvC scope (cellsFrom (s3.heap.objs.size + 1) scope.names (cloFrom X.env.cells scope.names [])) s3.heap.objs.size X.env = ce at I4 pg pt pe ⊢
  have locE : ce.locals = s3.heap.objs.size := by
    rw [← hce]
    rfl
  generalize hs4 : ({ s3 with heap := pushCells (s3.heap.push { cls := .type "dict", data := .dict #[] }) scope.names } : Shared) = s4 at I4 ⊢
  have st4 : tn 0 s4.heap := by
    refine T.keep _ s3.heap s4.heap (T.keep _ s2.heap s3.heap st2 fun b _ o e => ?_) fun b _ o e => ?_
    · rw [h3]
      exact Heap.get?_push_of_some _ e
    · rw [← hs4]
      exact pushCells_keeps _ _ _ _ (Heap.get?_push_of_some _ e)
  have walked : ∀ {σ1 : L2.St} {H1 : Hp} {s1 : Shared}, Inv (X.blk s3 H3 scope ce fp) [] σ1 H1 s1 → (∀ b ∈ fp, H1 b = none) → ∀ b ∈ fp, FpOk (X.blk s3 H3 scope ce fp) [] H1 b := fun {σ1 H1 s1} J1 free b hb =>
    ⟨free b hb, (J1.ok.exf b hb).1, J1.ok.exfs b hb, .inl hb, fun x c e => (J1.ok.exf b hb).2 x c e, fun y hy => absurd hy (by simp)⟩
  have loop : codeAny (model X.prog X.w) X.A (.compLoop (.SetComp elt [⟨tg, iter, ifs, 0⟩] scope pos) 0 (.ref it) (.ref D) ce) (compPost (model X.prog X.w) X.A X.xe none (EP X pins σ Q) (.ref D) s3.heap.objs.size) s4 := by
    refine PpSet.compLoopS_any (fun m s5 => ∃ i H5, Inv (X.blk s3 H3 scope ce fp) [] (wipe σ (own.map (·.2))) H5 s5 ∧ tn i s5.heap ∧ (∀ b ∈ fp, H5 b = none) ∧ W i m H5) ?_ m0 ⟨0, H3, I4, st4, nfp, w0⟩
    rintro m s5 ⟨i, H5, I5, st5, n5, w5⟩
    rcases turn i m H5 w5 with ⟨stop, qd⟩ | ⟨go, Nx, less, step⟩
    · refine thnF (T.done (X.blk s3 H3 scope ce fp) rfl rfl rfl hc i [] s5 _ H5 (fun _ _ => False) I5 (walked I5 n5) st5 stop) fun r s6 ⟨er, I6⟩ => ?_
      rw [er]
      have I7 : Inv X pins σ H5 s6 := I3.call' (ch := fp) I6.os I6.base I6.hok I6.bare fun b hb => ⟨(f3 b hb).1.2.2.2.1, (f3 b hb).1.2.1, (f3 b hb).1.2.2.2.2.1, (f3 b hb).1.2.2.2.2.2⟩
      have free : H5 s3.heap.objs.size = none := by
        rw [← locE]
        exact I6.free
      obtain ⟨names, hns, _⟩ := I6.loc
      have hns : s6.heap.Ns ce.locals names := hns
      rw [locE] at hns
      obtain ⟨p0, p1, p2, p3, p4, p5⟩ := I3.fpOk (Nat.le_refl _) free
      exact ⟨names, hns, fun h9 sb => ⟨.ref D, H5, I7.turned (t' := s6.toks) (fun b o hb e => (sb.2 b hb).trans e) p0 p1 p3 p4 p5, rfl, qd⟩⟩
    · refine thnF (T.item (X.blk s3 H3 scope ce fp) rfl rfl rfl hc i [] s5 _ H5 (fun _ _ => False) I5 (walked I5 n5) st5 go) fun r s6 ⟨u, er, h6⟩ => ?_
      rw [er]
      refine thnF h6 fun _ s7 ⟨x, H7, I7, r7, y7, st7, n7⟩ => ?_
      refine thnF (pg.run _ s7 _ H7 x u _ (I7.pinned (walked I7 n7) (T.obj _ _ st7)) r7 (step x H7 y7)) fun _ s8 ⟨σ8, H8, I8, wip, q8⟩ => ?_
      refine thnF (pt.run _ s8 σ8 H8 _ I8 q8) fun b s9 ⟨H9, I9, q9⟩ => ?_
      have turned : ∀ {sE : Shared} {HE : Hp}, Inv (X.blk s3 H3 scope ce fp) ([] ++ pinsAt fp s7.heap) σ8 HE sE → Nx HE → ∃ m2, m2 < m ∧ ∃ i2 H2, Inv (X.blk s3 H3 scope ce fp) [] (wipe σ (own.map (·.2))) H2 sE ∧ tn i2 sE.heap ∧ (∀ b ∈ fp, H2 b = none) ∧ W i2 m2 H2 := fun {sE HE} JE nx => by
        obtain ⟨m2, lt, wE⟩ := less HE nx
        have stay : ∀ b ∈ fp, ∀ o, s7.heap.get? b = some o → sE.heap.get? b = some o ∧ HE b = none := fun b hb o e =>
          have z := JE.pin (b, o) (List.mem_append_right _ (List.mem_append_right _ (mem_pinsAt hb e)))
          ⟨z.1, z.2.1⟩
        refine ⟨m2, lt, i + 1, HE, (JE.unpinned (pins := [])).weak (by rw [← wip, wipe_length]) (fun j v e => ?_), T.keep _ _ _ st7 fun b hb o e => (stay b hb o e).1, fun b hb => ?_, wE⟩
        · rw [← wip] at e
          exact (wipe_some e).1
        · obtain ⟨o, e, _⟩ := T.obj _ _ st7 b hb
          exact (stay b hb o e).2
      cases b with
      | false =>
        rw [if_neg Bool.false_ne_true] at q9 ⊢
        exact turned I9 q9
      | true =>
        rw [if_pos rfl] at q9 ⊢
        refine thnF (pe.run _ s9 σ8 H9 _ I9 q9) fun yv s10 ⟨y, H10, I10, r10, z, S0, k0, ey, at10, room, nx⟩ => ?_
        subst ey
        obtain ⟨tk, rfl⟩ := r10
        exact addS_ok (X := X.blk s3 H3 scope ce fp) I10 at10 room fun s11 I11 => turned I11 nx
  exact PpSet.codeAny_compStart_set loop (T.self X.A 0 _ _ _ st4 loop)
end
/-- the reading of such a comprehension over what is walked -/
theorem scS_it {P : Program} {w : World} {J : It} {k : Nat} {G : Hp → Prop} {Y : Nat → Hp → V → Hp → Prop} (wk : L2.Walk J k G Y) {g : TG} {tt : TT} {te : TE} {vs : List Nat} {σ : L2.St} {H1 : Hp} {D : Addr} {Qd : Hp → Prop} (Pv : Nat → Hp → Prop)
    (h0 : Pv 0 (upd H1 D (SetS P w D (fun _ => false) 0))) (hG : ∀ i H, i ≤ k → Pv i H → G H)
    (hs : ∀ i x H H2, i < k → Pv i H → Y i H x H2 → g x (wipe σ vs) H2 fun σ2 H3 => wipe σ2 vs = wipe σ vs ∧ tt σ2 H3 fun b H4 =>
      if b = true then te σ2 H4 fun y H5 => ∃ (z : Str) (S : Str → Bool) (n : Nat), y = .str z ∧ H5 D = some (SetS P w D S n) ∧ n + 1 < scanBound ∧ Pv (i + 1) (upd H5 D (SetS P w D (fun j => S j || decide (j = z)) (if S z = true then n else n + 1))) else Pv (i + 1) H4)
    (hd : ∀ H, Pv k H → Qd H) : ∃ W : Nat → Nat → Hp → Prop, (∃ m, W 0 m (upd H1 D (SetS P w D (fun _ => false) 0))) ∧ ∀ i m H, W i m H →
      (J.stop i H ∧ Qd H) ∨ (J.go i H ∧ ∃ Nx : Hp → Prop, (∀ H', Nx H' → ∃ m', m' < m ∧ W (i + 1) m' H') ∧ ∀ x H', J.yld i H x H' → g x (wipe σ vs) H' fun σ2 H2 => wipe σ2 vs = wipe σ vs ∧ tt σ2 H2 fun b H3 =>
        if b = true then te σ2 H3 fun y H4 => ∃ (z : Str) (S : Str → Bool) (n : Nat), y = .str z ∧ H4 D = some (SetS P w D S n) ∧ n + 1 < scanBound ∧ Nx (upd H4 D (SetS P w D (fun j => S j || decide (j = z)) (if S z = true then n else n + 1))) else Nx H3) := by
  refine ⟨fun i m H => m + i = k ∧ Pv i H, ⟨k, by omega, h0⟩, fun i m H ⟨hm, p⟩ => ?_⟩
  have gs := hG i H (by omega) p
  rcases Nat.lt_or_ge i k with lt | ge
  · exact .inr ⟨wk.goes i H lt gs, Pv (i + 1), fun H' p' => ⟨m - 1, by omega, by omega, p'⟩, fun x H' y => hs i x H H' lt p (wk.yields i H x H' lt gs y)⟩
  · have e : i = k := by omega
    subst e
    exact .inl ⟨wk.stops H gs, hd H p⟩
end Mz
set_option Elab.async false
set_option linter.all false
set_option maxRecDepth 100000
set_option maxHeartbeats 4000000
/-! == where a side is empty, whatever the items -/
namespace Mz
open PySem PySem.Spec PyProof.Rows L2
section
variable {X : Cx}
/-- tuples, one of them empty -/
def rEqT0 (K : PySem.W.Frag) : R2 := fun x y H Q => ∃ a b xs, x = .ref a ∧ y = .ref b ∧ SqT K H a xs ∧ SqT K H b [] ∧ Q (.bl xs.isEmpty) H
theorem op_eqT0 (hu : X.A.units + 64 < cLine) : OpR X (compareOp .Eq) (rEqT0 X.K) := by
  intro pins s σ H x y v u Q I rx ry h
  obtain ⟨a, b, xs, rfl, rfl, ha, hb, q⟩ := h
  obtain rfl : v = Value.ref a := rx
  obtain rfl : u = Value.ref b := ry
  obtain ⟨us, r1, p1, _⟩ := I.tuple ha
  obtain ⟨ws, r2, p2, _⟩ := I.tuple hb
  cases r2
  refine SeqAt.eq_tupleAt (e := fun _ => true) p1 p2 (by omega) (fun j h1 h2 => absurd h2 (by simp)) ⟨.bl xs.isEmpty, H, I, ?_, q⟩
  show Value.bool _ = Value.bool _
  cases r1 <;> rfl
theorem isl {h : Heap} {a : Addr} {its : Array Value} (p : PlainL h a its) : h.IsList a its := by
  obtain ⟨o, n, h1, h2, _, h3⟩ := p
  exact ⟨o, h1, h2, n, h3⟩
/-- lists, one of them empty -/
def rEqL0 (K : PySem.W.Frag) : R2 := fun x y H Q => ∃ a b xs, x = .ref a ∧ y = .ref b ∧ SqL K H a xs ∧ SqL K H b [] ∧ Q (.bl xs.isEmpty) H
theorem op_eqL0 (hu : X.A.units + 64 < cLine) : OpR X (compareOp .Eq) (rEqL0 X.K) := by
  intro pins s σ H x y v u Q I rx ry h
  obtain ⟨a, b, xs, rfl, rfl, ha, hb, q⟩ := h
  obtain rfl : v = Value.ref a := rx
  obtain rfl : u = Value.ref b := ry
  obtain ⟨us, r1, p1, _⟩ := I.list ha
  obtain ⟨ws, r2, p2, _⟩ := I.list hb
  cases r2
  cases r1 with
  | nil => exact SeqAt.eq_listAt (e := fun _ => true) (isl p1) (isl p2) rfl (by omega) (fun j h1 h2 => absurd h2 (by simp)) ⟨.bl true, H, I, rfl, q⟩
  | cons r1 t => exact SeqAt.eq_list_lengthsAt (isl p1) (isl p2) (by simp) (by omega) ⟨.bl false, H, I, rfl, q⟩
end
end Mz
set_option Elab.async false
set_option linter.all false
set_option maxRecDepth 100000
set_option maxHeartbeats 4000000
/-! classes made by a positional promise of their __init__ (a star parameter): C(), C(*xs); len of an own instance -/
namespace Mz
open PySem PySem.Spec PyProof.Rows L2
section
variable {X : Cx} {CX : CXT} {k : Nat} {f C : Addr} {fd : FuncData} {ps : List Str} {sp : Sp} {E : XK} {x : Str} {e : Expr} {te : TE} {p sp_ pos : Pos}
theorem pe_makeR0 (M : Mk X.K C f) (F : FnR X.prog X.w X.K X.mg X.base CX k f sp) (hr : Room (k + 1) X.A) (hg : Gl X x) (hm : X.mg x = some (.ref C)) (hx : Passes CX X E) (hdb : (x == ("__debug__" : Str)) = false := by decide) : PE X (.Call (.Name x p) [] [] pos) (StX.tMakeR C sp E tNil) := by
  refine ⟨fun pins s σ H Q I h => wpAny_Call_Name_kw (ld_glob I hg hm ?_ hdb)⟩
  exact PySem.W.callWith_K0 I.kIn M.kp (StX.run_makeR (us := []) M F hr hx I .nil h)
theorem pe_makeRS (M : Mk X.K C f) (F : FnR X.prog X.w X.K X.mg X.base CX k f sp) (hr : Room (k + 1) X.A) (hg : Gl X x) (hm : X.mg x = some (.ref C)) (hx : Passes CX X E) (he : PE X e te) (hdb : (x == ("__debug__" : Str)) = false := by decide)
    (hst : starEach [.Starred e sp_] X.env = [(true, eval e X.env)] := by rfl) :
    PE X (.Call (.Name x p) [.Starred e sp_] [] pos) (fun σ H Q => te σ H fun y H1 => ∃ a xs, y = V.ref a ∧ (SqT X.K H1 a xs ∨ SqL X.K H1 a xs) ∧ StX.tMakeR C sp E (fun _ H2 R => R xs H2) σ H1 Q) := by
  refine ⟨fun pins s σ H Q I h => wpAny_Call_Name_kw (ld_glob I hg hm ?_ hdb)⟩
  refine PySem.W.callWith_S (h₀ := X.base) I.ok.mod.kin M.kp (thn (he.run pins s σ H _ I h) fun v s1 ⟨y, H1, I1, ry, a, xs, ey, hxs, q⟩ => ?_) hst
  subst ey
  obtain rfl : v = Value.ref a := ry
  exact StX.star_any I1 hxs fun us s2 I2 rv => ⟨I2.kIn, StX.run_makeR M F hr hx I2 rv q⟩
/-- len(o), o an instance with an own __len__ -/
def rLenO (C : Addr) (sp : Sp) : List V → Hp → VK → Prop := fun xs H Q => ∃ a dx fs, xs = [.ref a] ∧ H a = some (.ins C dx fs) ∧ sp [.ref a] H (fun v H2 => ∃ n : Nat, v = .int n ∧ n ≤ sizeLine ∧ Q (.int n) H2) E0
theorem call_lenO (F : FnOk X.prog X.w X.K X.mg X.base CX0 k f fd ps sp) (hr : Room (k + 1) X.A) (hb : Binds X.K fd ps []) (hs : PySem.W.findIn X.K (.ref C) "__len__" = some (some (.ref f))) (hf : PySem.W.isFn X.K (.ref f) = true) : CallR X (.builtin "len") (rLenO C sp) := by
  intro pins s σ H xs us Q I r h
  obtain ⟨a, dx, fs, rfl, ha, q⟩ := h
  rw [Vals.ref1 r]
  obtain ⟨mA, O, _⟩ := ins_get I.hok ha
  obtain ⟨od, J, _⟩ := O.look
  obtain ⟨m, hF⟩ := I.fr
  refine PySem.W.len_K hF I.ok.mod.kin J hs hf (wpAny_mono (run_at (E := E0) (vs := [.ref a]) (us := [.ref a]) F hr.in1 I.env0.in1 hb (fun _ _ z => z.elim) I (.cons rfl .nil) q) (fun r s2 hv => ?_) fun _ _ z => z)
  obtain ⟨v, H2, I2, rv, n, rfl, hn, q2⟩ := hv
  obtain ⟨t, rfl⟩ := rv
  have big : (sizeLine : Int) < 2 ^ 63 := by rw [sizeLine_eq]; decide
  exact ⟨⟨by omega, by omega⟩, ⟨.int n, H2, I2.tok _, ⟨_, rfl⟩, q2⟩⟩
end
end Mz
set_option Elab.async false
set_option linter.all false
set_option maxRecDepth 100000
set_option maxHeartbeats 4000000
namespace Mz
open PySem L2
/-! the text by places -/
def top (i : Nat) : Stmt := PySem.Challenge.pw_mapsizes_k69_texts_of_none.main.body.getD i (.Pass ⟨0, 0, 0, 0⟩)
abbrev sMapError : Stmt := top 2
abbrev sInvInt : Stmt := top 3
abbrev sInvPlace : Stmt := top 5
abbrev sInvFact : Stmt := top 6
abbrev sInvFacts : Stmt := top 7
abbrev sInvSet : Stmt := top 8
abbrev sInvStep : Stmt := top 9
abbrev sInvHand : Stmt := top 10
abbrev sInvProg : Stmt := top 11
abbrev sWhole : Stmt := top 22
abbrev sIsInt : Stmt := top 23
abbrev sIsFrom : Stmt := top 24
abbrev sIsName : Stmt := top 25
abbrev sIsMark : Stmt := top 26
abbrev sIsPlace : Stmt := top 27
abbrev sIsList : Stmt := top 28
abbrev sUnkOf : Stmt := top 29
abbrev sLeast : Stmt := top 30
abbrev sParts : Stmt := top 31
abbrev sPlace : Stmt := top 32
abbrev sPageChoice : Stmt := top 37
abbrev sHasSizes : Stmt := top 38
abbrev sTooMany : Stmt := top 39
abbrev sAreSizes : Stmt := top 40
abbrev sSetting : Stmt := top 41
abbrev sIsFact : Stmt := top 44
abbrev sPlacedRow : Stmt := top 45
abbrev sPlacesOf : Stmt := top 46
abbrev sKeeps : Stmt := top 47
abbrev sFacts : Stmt := top 48
abbrev sFits : Stmt := top 51
abbrev sIsStep : Stmt := top 52
abbrev sPlacedStep : Stmt := top 53
abbrev sPlacesStep : Stmt := top 54
abbrev sKeepsLocks : Stmt := top 59
abbrev sCheckHand : Stmt := top 60
abbrev sDiffPlaces : Stmt := top 61
abbrev sWithPlaces : Stmt := top 62
abbrev sWithin : Stmt := top 63
abbrev sProgram : Stmt := top 65
abbrev sCell : Stmt := top 75
abbrev sBox : Stmt := top 76
abbrev sTake : Stmt := top 77
abbrev sWord : Stmt := top 78
abbrev sTold : Stmt := top 83
abbrev sLaw : Stmt := top 84
abbrev sInvText : Stmt := top 12
abbrev sInvLine : Stmt := top 13
abbrev sCheckProgram : Stmt := top 64
abbrev sLine : Stmt := top 67
abbrev sProgramText : Stmt := top 68
abbrev sReadProgram : Stmt := top 69
abbrev sWordOf : Stmt := top 70
abbrev sPageTexts : Stmt := top 71
abbrev sCanStand : Stmt := top 72
abbrev sHandsOf : Stmt := top 73
abbrev sNames : Stmt := top 79
abbrev sFaulty : Stmt := top 80
abbrev sRead : Stmt := top 81
abbrev sLineRight : Stmt := top 82
abbrev sLTold : Stmt := top 83
end Mz
set_option Elab.async false
set_option linter.all false
set_option maxRecDepth 100000
set_option maxHeartbeats 4000000
/-! the draws: a cell of the script, its box, a digit out of the box -/
namespace Mz
open PySem PySem.Spec PyProof.Rows L2
/-- all that was tracked, but what stands at b, stands as it stood -/
def Kp (b : Addr) (H H' : Hp) : Prop := ∀ p o, p ≠ b → H p = some o → H' p = some o
theorem Kp.refl {b : Addr} {H : Hp} : Kp b H H := fun _ _ _ e => e
theorem Kp.trans {b : Addr} {H H1 H2 : Hp} (x : Kp b H H1) (y : Kp b H1 H2) : Kp b H H2 := fun p o n e => y p o n (x p o n e)
theorem Kp.fresh {b p : Addr} {H : Hp} {o : HO} (h : H p = none) : Kp b H (upd H p o) := fun q u _ e => by
  rw [upd_ne (ne_of_none e h)]
  exact e
theorem Kp.here {b : Addr} {H : Hp} {o : HO} : Kp b H (upd H b o) := fun q u n e => by
  rw [upd_ne n]
  exact e
/-- a box: what is left of the cell, its seed, how many digits were mixed (at most n) -/
def Bx (H : Hp) (b : Addr) (n : Nat) : Prop := ∃ x y z : Int, H b = some (.lst [.int x, .int y, .int z]) ∧ 0 ≤ x ∧ 0 ≤ y ∧ y < 2147483563 ∧ 0 ≤ z ∧ z ≤ (n : Int)
theorem Bx.upd {H : Hp} {b p : Addr} {n : Nat} {o : HO} (h : Bx H b n) (hp : H p = none) : Bx (upd H p o) b n := by
  obtain ⟨x, y, z, e, r⟩ := h
  exact ⟨x, y, z, by rw [upd_ne (ne_of_none e hp)]; exact e, r⟩
theorem Bx.more {H : Hp} {b : Addr} {n m : Nat} (h : Bx H b n) (le : n ≤ m) : Bx H b m := by
  obtain ⟨x, y, z, e, h1, h2, h3, h4, h5⟩ := h
  exact ⟨x, y, z, e, h1, h2, h3, h4, by omega⟩
def spCell (K : PySem.W.Frag) : Sp := fun vs H Q _ => ∃ (a : Addr) (ns : List Int) (k : Nat), vs = [.ref a, .int k] ∧ SqL K H a (ns.map V.int) ∧ k < 1000 ∧ ∀ i : Int, Q (.int i) H
def spBox : Sp := fun vs H Q _ => ∃ i : Int, vs = [.int i] ∧ ∀ (b : Addr) (H' : Hp), H b = none → Bx H' b 0 → Kp b H H' → Q (.ref b) H'
def spTake : Sp := fun vs H Q _ => ∃ (b : Addr) (n : Nat) (m : Int), vs = [.ref b, .int m] ∧ Bx H b n ∧ n ≤ 1000000 ∧ 0 < m ∧ m < 2 ^ 64 ∧
  ∀ (r : Int) (H' : Hp), 0 ≤ r → r < m → Bx H' b (n + 1) → Kp b H H' → Q (.int r) H'
/-- the built-ins that the draws call -/
structure Blt (mg : Str → Option Value) : Prop where
  len : mg "len" = none
  max : mg "max" = none
  min : mg "min" = none
  int : mg "int" = none
  range : mg "range" = none
section
variable {P : Program} {w : World} {K : PySem.W.Frag} {mg : Str → Option Value} {base : Heap}
theorem scCell : FnScope ["_law_script", "_law_k"] ["_law_script", "_law_k"] (defScope sCell) := ⟨rfl, rfl, rfl, by decide +kernel, rfl, by decide +kernel, by decide +kernel⟩
theorem ok_cell {f : Addr} {fd : FuncData} (F : Fun K "_law_cell" "_law_cell" sCell f fd) (B : Blt mg) : FnOk P w K mg base CX0 1 f fd ["_law_script", "_law_k"] (spCell K) := by
  refine F.ok scCell (fun vs H Q E h => ?_) (fun cdv A outer s H vs Q E hr h => ?_)
  · obtain ⟨a, ns, k, rfl, _⟩ := h
    rfl
  · obtain ⟨a, ns, k, rfl, hS, hk, q⟩ := h
    refine ⟨_, pss_one (ps_ret (pe_ifExp (pt_cmpR op_lt (pv 1) (pe_callB call_len_seq (by rfl) B.len PySem.boot_len (pa_cons (pv 0) pa_nil)) (nomark _))
      (pe_ix ix_list (pv 0) (pv 1) (fun _ _ => rfl)) (pe_op op_add (pe_op op_mul pe_int (pv 1)) pe_int))), ?_⟩
    refine ⟨_, rfl, _, rfl, a, _, rfl, .inl hS, _, _, rfl, rfl, _, rfl, ?_⟩
    refine ite2 (fun hc => ?_) (fun _ => ?_)
    · have hlt : k < ns.length := by
        have z := of_decide_eq_true hc
        rw [List.length_map] at z
        omega
      exact ⟨_, rfl, _, rfl, a, _, _, _, rfl, rfl, hS, atI_nat (v := V.int (ns[k])) (by rw [List.getElem?_map, List.getElem?_eq_getElem hlt]; rfl), q _⟩
    · exact ⟨_, rfl, _, _, rfl, rfl, .inl ⟨by decide, by decide⟩, _, _, rfl, rfl, q _⟩
theorem scBox : FnScope ["_law_cell_here"] ["_law_cell_here"] (defScope sBox) := ⟨rfl, rfl, rfl, by decide +kernel, rfl, by decide +kernel, by decide +kernel⟩
theorem ok_box {f : Addr} {fd : FuncData} (F : Fun K "_law_box" "_law_box" sBox f fd) (B : Blt mg) : FnOk P w K mg base CX0 1 f fd ["_law_cell_here"] spBox := by
  refine F.ok scBox (fun vs H Q E h => ?_) (fun cdv A outer s H vs Q E hr h => ?_)
  · obtain ⟨i, rfl, _⟩ := h
    rfl
  · obtain ⟨i, rfl, q⟩ := h
    refine ⟨_, pss_one (ps_ret (pe_lst (pa_cons (pe_callB (call_max2 rfl) (by rfl) B.max (by decide +kernel) (pa_cons pe_int (pa_cons (pe_op op_sub (pv 0) (pe_op op_pow pe_int pe_int)) pa_nil)))
      (pa_cons (pe_op op_mod (pe_callTy call_int1 (by rfl) B.int (by decide +kernel) (pa_cons (pv 0) pa_nil)) pe_int) (pa_cons pe_int pa_nil))))), ?_⟩
    refine ⟨_, rfl, _, _, rfl, rfl, ⟨by decide, by decide, by decide⟩, _, _, rfl, rfl, _, _, rfl, ?_⟩
    refine ⟨_, rfl, .inl ⟨_, rfl, _, _, rfl, rfl, (by show (0 : Int) < 2147483563; decide), ?_⟩⟩
    refine ⟨(by show 3 ≤ sizeLine; decide), fun p np => q p _ np ⟨_, _, _, upd_same, ?_, ?_, ?_, by decide, by decide⟩ (Kp.fresh np)⟩
    · split <;> omega
    · exact Int.emod_nonneg _ (by decide)
    · exact Int.emod_lt_of_pos _ (by decide)
theorem scTake : FnScope ["_law_box_here", "_law_many", "_law_digit", "_law_mixed"] ["_law_box_here", "_law_many"] (defScope sTake) := ⟨rfl, rfl, rfl, by decide +kernel, rfl, by decide +kernel, by decide +kernel⟩
theorem fmod_low {i j : Int} (h : 0 < j) : 0 ≤ i.fmod j := Int.fmod_nonneg_of_pos i h
theorem fmod_high {i j : Int} (h : 0 < j) : i.fmod j < j := Int.fmod_lt_of_pos i h
theorem small_log {m : Int} (h0 : 0 < m) (h : m < 2 ^ 64) : m.natAbs.log2 < 9000 := by
  have h1 : m.natAbs < 2 ^ 64 := by omega
  exact Nat.lt_of_lt_of_le (PySem.Flt.log2_lt_of (by decide) h1) (by decide)
theorem ok_take {f : Addr} {fd : FuncData} (F : Fun K "_law_take" "_law_take" sTake f fd) (B : Blt mg) : FnOk P w K mg base CX0 1 f fd ["_law_box_here", "_law_many"] spTake := by
  refine F.ok scTake (fun vs H Q E h => ?_) (fun cdv A outer s H vs Q E hr h => ?_)
  · obtain ⟨b, n, m, rfl, _⟩ := h
    rfl
  · obtain ⟨b, n, m, rfl, ⟨x, y, z, hb, x0, y0, y1, z0, z1⟩, hn, m0, m1, q⟩ := h
    have nd := scTake.nd
    refine ⟨_, pss_cons (ps_if (pt_cmpR op_gt (pe_ix ix_list (pv 0) pe_int (fun _ _ => rfl)) pe_int (nomark _))
        (pss_cons (ps_set (i := 2) nd rfl (Or.inl rfl) (pe_op op_modN (pe_callTy call_int1 (by rfl) B.int (by decide +kernel) (pa_cons (pe_ix ix_list (pv 0) pe_int (fun _ _ => rfl)) pa_nil)) (pv 1)))
        (pss_cons (ps_asg (pe_op op_fdivW (pe_ix ix_list (pv 0) pe_int (fun _ _ => rfl)) (pv 1)) (pg_sub (pv 0) pe_int set_list))
        (pss_one (ps_ret (pv 2))))) pss_nil)
      (pss_cons (ps_asg (pe_op op_add (pe_ix ix_list (pv 0) pe_int (fun _ _ => rfl)) pe_int) (pg_sub (pv 0) pe_int set_list))
      (pss_cons (ps_set (i := 3) nd rfl (Or.inl rfl) (pe_op op_mod (pe_op op_pow (pe_callTy call_int1 (by rfl) B.int (by decide +kernel) (pa_cons (pe_op op_add (pe_op op_add (pe_ix ix_list (pv 0) pe_int (fun _ _ => rfl)) (pe_op op_mul pe_int (pe_ix ix_list (pv 0) pe_int (fun _ _ => rfl)))) pe_int) pa_nil)) pe_int) pe_int))
      (pss_cons (ps_set (i := 3) nd rfl (Or.inl rfl) (pe_op op_mod (pe_op op_pow (pe_callTy call_int1 (by rfl) B.int (by decide +kernel) (pa_cons (pe_op op_add (pv 3) (pe_op op_mul pe_int (pe_ix ix_list (pv 0) pe_int (fun _ _ => rfl)))) pa_nil)) pe_int) pe_int))
      (pss_one (ps_ret (pe_op op_modN (pe_op op_fdiv (pv 3) pe_int) (pv 1))))))), ?_⟩
    have a0 : ∀ {u v t : V}, atI [u, v, t] (0 : Int) = some u := rfl
    refine ⟨_, rfl, b, _, _, _, rfl, rfl, SqL.of hb, a0, _, _, rfl, rfl, _, rfl, ?_⟩
    refine ite2 (fun hc => ?_) (fun _ => ?_)
    · refine ⟨_, rfl, b, _, _, _, rfl, rfl, SqL.of hb, a0, .inl ⟨_, rfl, _, rfl, _, _, rfl, rfl, by omega, ?_⟩⟩
      refine ⟨_, rfl, b, _, _, _, rfl, rfl, SqL.of hb, a0, _, rfl, _, _, rfl, rfl, ⟨m0, small_log m0 m1⟩, ?_⟩
      refine ⟨_, rfl, b, _, _, _, rfl, rfl, hb, rfl, ?_⟩
      refine ⟨_, rfl, q _ _ (fmod_low m0) (fmod_high m0) ⟨_, y, z, upd_same, Int.ediv_nonneg x0 (by omega), y0, y1, z0, by omega⟩ Kp.here⟩
    · refine ⟨_, rfl, b, _, _, _, rfl, rfl, SqL.of hb, rfl, _, _, rfl, rfl, _, rfl, b, _, _, _, rfl, rfl, hb, rfl, ?_⟩
      have hb1 : upd H b (.lst [.int x, .int y, .int (z + 1)]) b = some (.lst [.int x, .int y, .int (z + 1)]) := upd_same
      refine ⟨_, rfl, b, _, _, _, rfl, rfl, SqL.of hb1, rfl, ?_⟩
      refine ⟨_, rfl, b, _, _, _, rfl, rfl, SqL.of hb1, rfl, ?_⟩
      refine ⟨_, _, rfl, rfl, .inl ⟨by decide, by decide⟩, _, _, rfl, rfl, _, _, rfl, rfl, .inl ⟨_, rfl, _, _, rfl, rfl, ⟨by decide, by decide, by omega⟩, ?_⟩⟩
      refine ⟨_, _, rfl, rfl, (by show (0 : Int) < 2147483647; decide), ?_⟩
      refine ⟨_, rfl, _, rfl, b, _, _, _, rfl, rfl, SqL.of hb1, rfl, ?_⟩
      have l1 := Int.emod_nonneg ((y + 7691 * (z + 1) + 503) ^ (5 : Int).toNat) (b := 2147483647) (by decide)
      have h1 := Int.emod_lt_of_pos ((y + 7691 * (z + 1) + 503) ^ (5 : Int).toNat) (b := 2147483647) (by decide)
      refine ⟨_, _, rfl, rfl, .inl ⟨by decide, by decide⟩, _, _, rfl, rfl, .inl ⟨_, rfl, _, _, rfl, rfl, ⟨by decide, by decide, by omega⟩, ?_⟩⟩
      refine ⟨_, _, rfl, rfl, (by show (0 : Int) < 2147483587; decide), ?_⟩
      refine ⟨_, rfl, _, _, rfl, rfl, ⟨by decide, by decide⟩, _, rfl, _, _, rfl, rfl, by omega, ?_⟩
      exact q _ _ (fmod_low m0) (fmod_high m0) ⟨x, y, z + 1, upd_same, x0, y0, y1, by omega, by omega⟩ Kp.here
end
end Mz
set_option Elab.async false
set_option linter.all false
set_option maxRecDepth 100000
set_option maxHeartbeats 4000000
/-! the program's own defs: integers, names, marks -/
namespace Mz
open PySem PySem.Spec PyProof.Rows L2
/-- any value, by what isinstance says of it -/
inductive Kd (K : PySem.W.Frag) (H : Hp) : V → Prop
  | int (i : Int) : Kd K H (.int i)
  | bl (b : Bool) : Kd K H (.bl b)
  | str (z : Str) (h : z.length ≤ 1000) (ok : PyData.strOk z = true) : Kd K H (.str z)
  | non : Kd K H .non
  | oth (a : Addr) (t : Value) (ty : TyX K H (.ref a) t) (ki : PySem.W.kitOne K t (.type "int") = some false) (ks : PySem.W.kitOne K t (.type "str") = some false) : Kd K H (.ref a)
def wholeV : V → Bool
  | .int _ => true
  | _ => false
def inB (lo hi : Int) : V → Bool
  | .int i => decide (lo ≤ i) && decide (i ≤ hi)
  | _ => false
abbrev abc : Str := "abcdefghijklmnopqrstuvwxyz"
/-- a name, as the program says it -/
def nameS (z : Str) : Bool := (decide (1 ≤ (z.length : Int)) && decide ((z.length : Int) ≤ 6)) && z.cps.toList.all fun c => decide (c ∈ abc.cps.toList)
def nameV : V → Bool
  | .str z => nameS z
  | _ => false
def noMarks : List V := [.str "old", .str "zero", .str "end", .str "fails", .str "more", .str "done", .str "none"]
def markV : V → Bool
  | .str z => nameS z && !inV (.str z) noMarks
  | _ => false
def spWhole (K : PySem.W.Frag) : Sp := fun vs H Q _ => ∃ v, vs = [v] ∧ Kd K H v ∧ Q (.bl (wholeV v)) H
def spIsInt (K : PySem.W.Frag) : Sp := fun vs H Q _ => ∃ v lo hi, vs = [v, .int lo, .int hi] ∧ Kd K H v ∧ Q (.bl (inB lo hi v)) H
/-- the list of the letters' answers is left behind -/
def spIsName (K : PySem.W.Frag) : Sp := fun vs H Q _ => ∃ v, vs = [v] ∧ Kd K H v ∧ ∀ H', Same H H' → Q (.bl (nameV v)) H'
def spIsMark (K : PySem.W.Frag) : Sp := fun vs H Q _ => ∃ v, vs = [v] ∧ Kd K H v ∧ ∀ H', Same H H' → Q (.bl (markV v)) H'
structure Blp (mg : Str → Option Value) : Prop where
  isi : mg "isinstance" = none
  bool : mg "bool" = none
  str : mg "str" = none
  all : mg "all" = none
section
variable {P : Program} {w : World} {K : PySem.W.Frag} {mg : Str → Option Value} {base : Heap}
theorem scWhole : FnScope ["value"] ["value"] (defScope sWhole) := ⟨rfl, rfl, rfl, by decide +kernel, rfl, by decide +kernel, by decide +kernel⟩
theorem ok_whole {f : Addr} {fd : FuncData} (F : Fun K "_is_whole" "_is_whole" sWhole f fd) (B : Blt mg) (D : Blp mg) : FnOk P w K mg base CX0 1 f fd ["value"] (spWhole K) := by
  refine F.ok scWhole (fun vs H Q E h => ?_) (fun cdv A outer s H vs Q E hr h => ?_)
  · obtain ⟨v, rfl, _⟩ := h
    rfl
  · obtain ⟨v, rfl, hk, q⟩ := h
    refine ⟨_, pss_one (ps_ret (pe_and (pe_callB call_isi (by rfl) D.isi (by decide +kernel) (pa_cons (pv 0) (pa_cons (pe_bltn (v := .ty "int") (by rfl) B.int (by decide +kernel) rfl) pa_nil)))
      (pe_one (pe_not (pe_callB call_isi (by rfl) D.isi (by decide +kernel) (pa_cons (pv 0) (pa_cons (pe_bltn (v := .ty "bool") (by rfl) D.bool (by decide +kernel) rfl) pa_nil))))))), ?_⟩
    refine ⟨_, rfl, ?_⟩
    cases hk with
    | int i => exact ⟨_, _, _, _, true, rfl, .ty _, .base (.int i), kit_ty (by decide +kernel), true, rfl, iteT ⟨_, rfl, _, _, _, _, false, rfl, .ty _, .base (.int i), kit_ty (by decide +kernel), false, rfl, q⟩⟩
    | bl b => exact ⟨_, _, _, _, true, rfl, .ty _, .base (.bl b), kit_ty (by decide +kernel), true, rfl, iteT ⟨_, rfl, _, _, _, _, true, rfl, .ty _, .base (.bl b), kit_ty (by decide +kernel), true, rfl, q⟩⟩
    | str z _ _ => exact ⟨_, _, _, _, false, rfl, .ty _, .base (.str z), kit_ty (by decide +kernel), false, rfl, iteF q⟩
    | non => exact ⟨_, _, _, _, false, rfl, .ty _, .base .non, kit_ty (by decide +kernel), false, rfl, iteF q⟩
    | oth a t ty ki ks => exact ⟨_, _, _, _, false, rfl, .ty _, ty, ki, false, rfl, iteF q⟩
theorem scIsInt : FnScope ["value", "low", "high"] ["value", "low", "high"] (defScope sIsInt) := ⟨rfl, rfl, rfl, by decide +kernel, rfl, by decide +kernel, by decide +kernel⟩
theorem ok_isInt {f f1 : Addr} {fd fd1 : FuncData} (F : Fun K "is_integer" "is_integer" sIsInt f fd) (G : FnOk P w K mg base CX0 1 f1 fd1 ["value"] (spWhole K)) (m1 : mg "_is_whole" = some (.ref f1)) (k1 : PySem.W.keepIn K (.ref f1) = true) (b1 : Binds K fd1 ["value"] []) :
    FnOk P w K mg base CX0 2 f fd ["value", "low", "high"] (spIsInt K) := by
  refine F.ok scIsInt (fun vs H Q E h => ?_) (fun cdv A outer s H vs Q E hr h => ?_)
  · obtain ⟨v, lo, hi, rfl, _⟩ := h
    rfl
  · obtain ⟨v, lo, hi, rfl, hk, q⟩ := h
    refine ⟨_, pss_one (ps_ret (pe_and (pe_call G hr (by rfl) m1 k1 b1 .nil pass0 (pa_cons (pv 0) pa_nil)) (pe_one (pe_chain op_le op_le (pv 1) (pv 0) (pv 2))))), ?_⟩
    refine ⟨_, rfl, v, rfl, hk, _, rfl, ?_⟩
    cases hk with
    | int i =>
      refine iteT ⟨_, rfl, _, rfl, _, _, rfl, rfl, _, rfl, ite2 (fun hc => ?_) (fun hc => ?_)⟩
      · refine ⟨_, rfl, _, _, rfl, rfl, ?_⟩
        have e : inB lo hi (.int i) = decide (i ≤ hi) := by
          show (decide (lo ≤ i) && decide (i ≤ hi)) = _
          rw [hc, Bool.true_and]
        rw [e] at q
        exact q
      · have e : inB lo hi (.int i) = false := by
          show (decide (lo ≤ i) && decide (i ≤ hi)) = _
          rw [Bool.eq_false_iff.mpr hc, Bool.false_and]
        rw [e] at q
        exact q
    | bl b => exact iteF q
    | str z _ _ => exact iteF q
    | non => exact iteF q
    | oth a t ty ki ks => exact iteF q
theorem scIsName : FnScope ["value", "letter"] ["value"] (defScope sIsName) := ⟨rfl, rfl, rfl, by decide +kernel, rfl, by decide +kernel, by decide +kernel⟩
theorem ok_isName {f : Addr} {fd : FuncData} {t1 t2 : Tok} (F : Fun K "is_name" "is_name" sIsName f fd) (B : Blt mg) (D : Blp mg) (mL : mg "_LONGEST_NAME" = some (.int 6 t1)) (mA : mg "_LETTERS" = some (.str abc t2)) : FnOk P w K mg base CX0 1 f fd ["value"] (spIsName K) := by
  refine F.ok scIsName (fun vs H Q E h => ?_) (fun cdv A outer s H vs Q E hr h => ?_)
  · obtain ⟨v, rfl, _⟩ := h
    rfl
  · obtain ⟨v, rfl, hk, q⟩ := h
    have nd := scIsName.nd
    refine ⟨_, pss_cons (ps_if (PW.pt (pw_or (pt_not (pt_val (pe_callB call_isi (by rfl) D.isi (by decide +kernel) (pa_cons (pv 0) (pa_cons (pe_bltn (v := .ty "str") (by rfl) D.str (by decide +kernel) rfl) pa_nil)))))
        (pw_or1 (pt_not (pt_chain op_le op_le pe_int (pe_callB call_len_str (by rfl) B.len PySem.boot_len (pa_cons (pv 0) pa_nil)) (pe_glob (v := .int 6) rfl mL ⟨_, rfl⟩)))))) (pss_one (ps_ret pe_bl)) pss_nil)
      (pss_one (ps_ret (pe_callB (cr_all rfl) (by rfl) D.all (by decide +kernel) (pa_cons (pe_lc (own := [("letter", 1)]) (g := gName 1) (tt := tYes) rfl nd (pi_str (pv 0)) (blkOk_by (N := ["value", "letter"]) (sc := defScope sIsName) (by decide +kernel))
        (fun _ _ _ _ _ => pg_name (i := 1) nd rfl (Or.inl rfl)) (fun _ _ _ _ _ => pts_nil) (fun _ _ _ _ _ => pe_cmpR op_in_sign (pv 1) (pe_glob (v := .str abc) rfl mA ⟨_, rfl⟩) (by rfl))) pa_nil)))), ?_⟩
    refine ⟨_, rfl, ?_⟩
    have no : ∀ {v : V}, nameV v = false → (∀ H', Same H H' → Q (.bl (nameV v)) H') → Q (.bl false) H := fun e q => by
      rw [← e]
      exact q _ fun _ _ z => z
    cases hk with
    | int i => exact ⟨_, _, _, _, false, rfl, .ty _, .base (.int i), kit_ty (by decide +kernel), false, rfl, iteT (iteT (no rfl q))⟩
    | bl b => exact ⟨_, _, _, _, false, rfl, .ty _, .base (.bl b), kit_ty (by decide +kernel), false, rfl, iteT (iteT (no rfl q))⟩
    | non => exact ⟨_, _, _, _, false, rfl, .ty _, .base .non, kit_ty (by decide +kernel), false, rfl, iteT (iteT (no rfl q))⟩
    | oth a t ty ki ks => exact ⟨_, _, _, _, false, rfl, .ty _, ty, ks, false, rfl, iteT (iteT (no rfl q))⟩
    | str z hz ok =>
      refine ⟨_, _, _, _, true, rfl, .ty _, .base (.str z), kit_ty (by decide +kernel), true, rfl, iteF ?_⟩
      have zl : z.length ≤ sizeLine := Nat.le_trans hz (by decide)
      refine ⟨_, rfl, _, rfl, zl, _, _, rfl, rfl, _, rfl, ite2 (fun h1 => ?_) (fun h1 => ?_)⟩
      · refine ⟨_, _, rfl, rfl, _, rfl, ?_⟩
        cases h6 : decide ((z.length : Int) ≤ 6) with
        | false =>
          refine iteT ?_
          have e : nameV (.str z) = false := by
            show ((decide (1 ≤ (z.length : Int)) && decide ((z.length : Int) ≤ 6)) && z.cps.toList.all fun c => decide (c ∈ abc.cps.toList)) = false
            rw [h6, Bool.and_false, Bool.false_and]
          exact no e q
        | true =>
          refine iteF ?_
          refine ⟨_, rfl, z, rfl, fun p np => lc_it walk_str (fun i H' => H' = upd H p (.lst ((z.cps.toList.take i).map fun c => V.bl (decide (c ∈ abc.cps.toList))))) rfl (fun _ _ _ _ => trivial) ?_ ?_⟩
          · rintro i x H0 H' hi rfl ⟨rfl, c, hc, rfl⟩
            refine ⟨rfl, ?_⟩
            unfold tYes
            refine iteT ⟨_, rfl, c, abc, rfl, rfl, _, upd_same, ?_, ?_⟩
            · rw [List.length_map, List.length_take]
              exact Nat.lt_of_le_of_lt (Nat.min_le_left _ _) (Nat.lt_of_lt_of_le hi zl)
            · rw [upd_upd]
              have hc2 : z.cps.toList[i]? = some c := by
                rw [Array.getElem?_toList]
                exact hc
              rw [List.take_succ, hc2, List.map_append]
              rfl
          · rintro H' rfl
            have sz : z.cps.toList.take z.cps.size = z.cps.toList := by
              rw [← Array.length_toList, List.take_length]
            refine ⟨p, (z.cps.toList.take z.cps.size).map fun c => decide (c ∈ abc.cps.toList), rfl, SqL.of (by rw [List.map_map]; exact upd_same), ?_⟩
            have e : nameV (.str z) = ((z.cps.toList.take z.cps.size).map fun c => decide (c ∈ abc.cps.toList)).all id := by
              show ((decide (1 ≤ (z.length : Int)) && decide ((z.length : Int) ≤ 6)) && z.cps.toList.all fun c => decide (c ∈ abc.cps.toList)) = _
              rw [h1, h6, sz, List.all_map]
              rfl
            rw [← e]
            refine q _ fun b o z => ?_
            rw [upd_ne (ne_of_none z np)]
            exact z
      · have e : nameV (.str z) = false := by
          show ((decide (1 ≤ (z.length : Int)) && decide ((z.length : Int) ≤ 6)) && z.cps.toList.all fun c => decide (c ∈ abc.cps.toList)) = false
          rw [Bool.eq_false_iff.mpr h1, Bool.false_and, Bool.false_and]
        exact ⟨_, rfl, iteT (no e q)⟩
end
end Mz
set_option Elab.async false
set_option linter.all false
set_option maxRecDepth 100000
set_option maxHeartbeats 4000000
namespace Mz
open PySem PySem.Spec PyProof.Rows L2
def lowS (z : Str) : Int := if z = "" then 0 else -3
def spLeast : Sp := fun vs H Q _ => ∃ z : Str, vs = [.str z] ∧ Q (.int (lowS z)) H
/-- a place's fields -/
def plF (z : Str) (k : Int) : List (Str × V) := putF "_shift" (.int k) (putF "_base" (.str z) [])
/-- a place that can be made: no error -/
def spInit (C : Addr) : Sp := fun vs H Q _ => ∃ (p dx : Addr) (z : Str) (k : Int), vs = [.ref p, .str z, .int k] ∧ H p = some (.ins C dx []) ∧ z.length ≤ 1000 ∧ PyData.strOk z = true ∧ (z = "" ∨ nameS z = true) ∧ lowS z ≤ k ∧ k ≤ 3 ∧
  ∀ H', (∀ q o, q ≠ p → H q = some o → H' q = some o) → H' p = some (.ins C dx (plF z k)) → Q .non H'
structure Cpl (K : PySem.W.Frag) (mg : Str → Option Value) (C : Addr) : Prop where
  cl : Cls K C
  nB : NoAttr K C "_base"
  nS : NoAttr K C "_shift"
  mgC : mg "Place" = some (.ref C)
section
variable {P : Program} {w : World} {K : PySem.W.Frag} {mg : Str → Option Value} {base : Heap}
theorem scLeast : FnScope ["base"] ["base"] (defScope sLeast) := ⟨rfl, rfl, rfl, by decide +kernel, rfl, by decide +kernel, by decide +kernel⟩
theorem ok_least {f : Addr} {fd : FuncData} {t : Tok} (F : Fun K "_least_shift" "_least_shift" sLeast f fd) (mM : mg "_MOST" = some (.int 3 t)) : FnOk P w K mg base CX0 1 f fd ["base"] spLeast := by
  refine F.ok scLeast (fun vs H Q E h => ?_) (fun cdv A outer s H vs Q E hr h => ?_)
  · obtain ⟨z, rfl, _⟩ := h
    rfl
  · obtain ⟨z, rfl, q⟩ := h
    refine ⟨_, pss_one (ps_ret (pe_ifExp (pt_cmpR op_eq (pv 0) pe_str (nomark _)) pe_int (pe_un un_neg (pe_glob (v := .int 3) rfl mM ⟨_, rfl⟩)))), ?_⟩
    refine ⟨_, rfl, rfl, _, rfl, ite2 (fun hc => ?_) (fun hc => ?_)⟩
    · have e : lowS z = 0 := if_pos (V.str.inj (of_decide_eq_true hc))
      rw [e] at q
      exact q
    · have e : lowS z = -3 := if_neg fun x => hc (decide_eq_true (by rw [x]))
      rw [e] at q
      exact ⟨_, rfl, q⟩
theorem scInit : FnScope ["self", "base", "shift"] ["self", "base", "shift"] (defScope (inClass sPlace 0)) := ⟨rfl, rfl, rfl, by decide +kernel, rfl, by decide +kernel, by decide +kernel⟩
theorem ok_init {f f1 f2 f3 C : Addr} {fd fd1 fd2 fd3 : FuncData} {t : Tok} {dvs : List V} {kws : List (Str × V)} {pa : Arguments} (F : FunD K "__init__" "Place.__init__" pa (defBody (inClass sPlace 0)) (defScope (inClass sPlace 0)) dvs kws f fd) (T : Cpl K mg C)
    (G1 : FnOk P w K mg base CX0 1 f1 fd1 ["value"] (spIsName K)) (m1 : mg "is_name" = some (.ref f1)) (k1 : PySem.W.keepIn K (.ref f1) = true) (b1 : Binds K fd1 ["value"] [])
    (G2 : FnOk P w K mg base CX0 2 f2 fd2 ["value", "low", "high"] (spIsInt K)) (m2 : mg "is_integer" = some (.ref f2)) (k2 : PySem.W.keepIn K (.ref f2) = true) (b2 : Binds K fd2 ["value", "low", "high"] [])
    (G3 : FnOk P w K mg base CX0 1 f3 fd3 ["base"] spLeast) (m3 : mg "_least_shift" = some (.ref f3)) (k3 : PySem.W.keepIn K (.ref f3) = true) (b3 : Binds K fd3 ["base"] [])
    (mM : mg "_MOST" = some (.int 3 t)) : FnOk P w K mg base CX0 3 f fd ["self", "base", "shift"] (spInit C) := by
  refine F.ok scInit (fun vs H Q E h => ?_) (fun cdv A outer s H vs Q E hr h => ?_)
  · obtain ⟨p, dx, z, k, rfl, _⟩ := h
    rfl
  · obtain ⟨p, dx, z, k, rfl, hp, hz, ok, hn, h1, h2, q⟩ := h
    refine ⟨_, PSs.nox (pss_cons (ps_if (PW.pt (pw_and (pt_cmpR op_ne (pv 1) pe_str (nomark _)) (pw_and1 (pt_not (pt_val (pe_call G1 (hr.mono (by decide)) (by rfl) m1 k1 b1 .nil pass0 (pa_cons (pv 1) pa_nil))))))) (pss_one ps_never) pss_nil)
      (pss_cons (ps_if (pt_not (pt_val (pe_call G2 hr (by rfl) m2 k2 b2 .nil pass0 (pa_cons (pv 2) (pa_cons (pe_call G3 (hr.mono (by decide)) (by rfl) m3 k3 b3 .nil pass0 (pa_cons (pv 1) pa_nil)) (pa_cons (pe_glob (v := .int 3) rfl mM ⟨_, rfl⟩) pa_nil)))))) (pss_one ps_never) pss_nil)
      (pss_cons (ps_fld (pv 0) (pv 1) rfl) (pss_one (ps_fld (pv 0) (pv 2) rfl))))), ?_⟩
    generalize hT : tSeq (tIfS (tNot _) _ _) (tSeq (sFld _ _ _ _) (sFld _ _ _ _)) = T2
    have rest : ∀ H1, Same H H1 → T2 { nx := fun _ H' => Q .non H', rt := Q } (start ["self", "base", "shift"] [V.ref p, V.str z, V.int k]) H1 := by
      intro H1 sm
      rw [← hT]
      have hp1 := sm _ _ hp
      refine ⟨_, rfl, _, rfl, z, rfl, .int k, lowS z, 3, rfl, Kd.int k, _, rfl, ?_⟩
      have e : inB (lowS z) 3 (.int k) = true := by
        show (decide (lowS z ≤ k) && decide (k ≤ 3)) = true
        rw [decide_eq_true h1, decide_eq_true h2]
        rfl
      rw [e]
      refine iteF ⟨_, rfl, _, rfl, p, C, dx, [], rfl, hp1, T.cl, T.nB, (by show 0 < 1000; decide), _, rfl, _, rfl, p, C, dx, _, rfl, upd_same, T.cl, T.nS, (by show 1 < 1000; decide), ?_⟩
      refine q _ (fun r o n e => ?_) upd_same
      rw [upd_ne n, upd_ne n]
      exact sm _ _ e
    have kd : Kd K H (.str z) := .str z hz ok
    by_cases hz0 : z = ""
    · subst hz0
      exact ⟨_, rfl, rfl, _, rfl, iteF (iteF (rest H (Same.refl H)))⟩
    · have hnm : nameS z = true := hn.resolve_left hz0
      have e : decide (V.str z = V.str "") = false := decide_eq_false fun x => hz0 (V.str.inj x)
      refine ⟨_, rfl, rfl, _, rfl, ?_⟩
      rw [e]
      refine iteT ⟨_, rfl, .str z, rfl, kd, fun H1 sm => ⟨_, rfl, ?_⟩⟩
      have e2 : nameV (.str z) = true := hnm
      rw [e2]
      exact iteF (rest H1 sm)
end
end Mz
set_option Elab.async false
set_option linter.all false
set_option maxRecDepth 100000
set_option maxHeartbeats 4000000
namespace Mz
open PySem PySem.Spec PyProof.Rows L2
theorem plF_base {z : Str} {k : Int} : (plF z k).lookup ("_base" : Str) = some (.str z) := by
  unfold plF
  rw [lookup_putF, if_neg (by decide +kernel), lookup_putF, if_pos rfl]
theorem plF_shift {z : Str} {k : Int} : (plF z k).lookup ("_shift" : Str) = some (.int k) := by
  unfold plF
  rw [lookup_putF, if_pos rfl]
/-- a place stands at a -/
def Pl (C : Addr) (H : Hp) (a : Addr) (z : Str) (k : Int) : Prop := ∃ dx, H a = some (.ins C dx (plF z k))
/-- a base and a shift that go together -/
def Good (z : Str) (k : Int) : Prop := z.length ≤ 1000 ∧ PyData.strOk z = true ∧ (z = "" ∨ nameS z = true) ∧ lowS z ≤ k ∧ k ≤ 3
theorem Good.lo {z : Str} {k : Int} (g : Good z k) : -3 ≤ k := by
  have h := g.2.2.2.1
  unfold lowS at h
  split at h <;> omega
theorem Good.hi {z : Str} {k : Int} (g : Good z k) : k ≤ 3 := g.2.2.2.2
theorem int_small {k : Int} (h0 : -3 ≤ k) (h1 : k ≤ 3) : k.natAbs.log2 < 1920 := by
  have h : k.natAbs < 2 ^ 3 := by omega
  exact Nat.lt_trans (PySem.Flt.log2_lt_of (by decide) h) (by decide)
/-- str of a place -/
def strP (z : Str) (k : Int) : Str := if z = "" then Str.ofString (toString k) else if k = 0 then z else "" ++ z ++ signS k
def spBase (C : Addr) : Sp := fun vs H Q _ => ∃ a z k, vs = [.ref a] ∧ Pl C H a z k ∧ Q (.str z) H
def spShift (C : Addr) : Sp := fun vs H Q _ => ∃ a z k, vs = [.ref a] ∧ Pl C H a z k ∧ Q (.int k) H
def spStr (C : Addr) : Sp := fun vs H Q _ => ∃ a z k, vs = [.ref a] ∧ Pl C H a z k ∧ Good z k ∧ Q (.str (strP z k)) H
/-- a value that is no place -/
def Oty (K : PySem.W.Frag) (C : Addr) (H : Hp) (y : V) : Prop := ∃ t, TyX K H y t ∧ PySem.W.kitOne K t (.ref C) = some false
def spEq (K : PySem.W.Frag) (C : Addr) : Sp := fun vs H Q _ => ∃ a z k, Pl C H a z k ∧ ((∃ b y i, vs = [.ref a, .ref b] ∧ Pl C H b y i ∧ Q (.bl (decide (z = y) && decide (k = i))) H) ∨ (∃ y, vs = [.ref a, y] ∧ Oty K C H y ∧ Q (.bl false) H))
def spAdd (C : Addr) : Sp := fun vs H Q _ => ∃ a z k i, vs = [.ref a, .int i] ∧ Pl C H a z k ∧ Good z k ∧ Good z (k + i) ∧ ∀ p H', H p = none → Same H H' → Pl C H' p z (k + i) → Q (.ref p) H'
theorem strlen_sign {k : Int} : (signS k).length = 2 := by
  unfold signS
  repeat' split
  all_goals decide +kernel
section
variable {P : Program} {w : World} {K : PySem.W.Frag} {mg : Str → Option Value} {base : Heap}
theorem scBase : FnScope ["self"] ["self"] (defScope (inClass sPlace 2)) := ⟨rfl, rfl, rfl, by decide +kernel, rfl, by decide +kernel, by decide +kernel⟩
theorem ok_base {f C : Addr} {fd : FuncData} (F : Fun K "base" "Place.base" (inClass sPlace 2) f fd) (T : Cpl K mg C) : FnOk P w K mg base CX0 1 f fd ["self"] (spBase C) := by
  refine F.ok scBase (fun vs H Q E h => ?_) (fun cdv A outer s H vs Q E hr h => ?_)
  · obtain ⟨a, z, k, rfl, _⟩ := h
    rfl
  · obtain ⟨a, z, k, rfl, ⟨dx, ha⟩, q⟩ := h
    exact ⟨_, pss_one (ps_ret (pe_fld (pv 0) rfl)), _, rfl, a, C, dx, _, _, rfl, ha, T.cl, T.nB, plF_base, q⟩
theorem scShift : FnScope ["self"] ["self"] (defScope (inClass sPlace 3)) := ⟨rfl, rfl, rfl, by decide +kernel, rfl, by decide +kernel, by decide +kernel⟩
theorem ok_shift {f C : Addr} {fd : FuncData} (F : Fun K "shift" "Place.shift" (inClass sPlace 3) f fd) (T : Cpl K mg C) : FnOk P w K mg base CX0 1 f fd ["self"] (spShift C) := by
  refine F.ok scShift (fun vs H Q E h => ?_) (fun cdv A outer s H vs Q E hr h => ?_)
  · obtain ⟨a, z, k, rfl, _⟩ := h
    rfl
  · obtain ⟨a, z, k, rfl, ⟨dx, ha⟩, q⟩ := h
    exact ⟨_, pss_one (ps_ret (pe_fld (pv 0) rfl)), _, rfl, a, C, dx, _, _, rfl, ha, T.cl, T.nS, plF_shift, q⟩
theorem scStr : FnScope ["self"] ["self"] (defScope (inClass sPlace 4)) := ⟨rfl, rfl, rfl, by decide +kernel, rfl, by decide +kernel, by decide +kernel⟩
theorem ok_str {f C : Addr} {fd : FuncData} (F : Fun K "__str__" "Place.__str__" (inClass sPlace 4) f fd) (T : Cpl K mg C) (D : Blp mg) : FnOk P w K mg base CX0 1 f fd ["self"] (spStr C) := by
  refine F.ok scStr (fun vs H Q E h => ?_) (fun cdv A outer s H vs Q E hr h => ?_)
  · obtain ⟨a, z, k, rfl, _⟩ := h
    rfl
  · obtain ⟨a, z, k, rfl, ⟨dx, ha⟩, g, q⟩ := h
    refine ⟨_, pss_cons (ps_if (pt_cmpR op_eq (pe_fld (pv 0) rfl) pe_str (nomark _)) (pss_one (ps_ret (pe_callTy call_str_int (by rfl) D.str (by decide +kernel) (pa_cons (pe_fld (pv 0) rfl) pa_nil)))) pss_nil)
      (pss_cons (ps_if (pt_cmpR op_eq (pe_fld (pv 0) rfl) pe_int (nomark _)) (pss_one (ps_ret (pe_joined1 (pe_fmt (pe_fld (pv 0) rfl))))) pss_nil)
      (pss_one (ps_ret (pe_joined (.cons (pe_fmt (pe_fld (pv 0) rfl)) (.cons (pe_fmtP (pe_fld (pv 0) rfl)) .nil)))))), ?_⟩
    have zl : z.length ≤ 1000 := g.1
    refine ⟨_, rfl, a, C, dx, _, _, rfl, ha, T.cl, T.nB, plF_base, rfl, _, rfl, ite2 (fun h1 => ?_) (fun h1 => ?_)⟩
    · have e : strP z k = Str.ofString (toString k) := if_pos (V.str.inj (of_decide_eq_true h1))
      rw [e] at q
      exact ⟨_, rfl, a, C, dx, _, _, rfl, ha, T.cl, T.nS, plF_shift, _, rfl, int_small g.lo g.hi, q⟩
    · have n1 : ¬ z = "" := fun x => h1 (decide_eq_true (by rw [x]))
      refine ⟨_, rfl, a, C, dx, _, _, rfl, ha, T.cl, T.nS, plF_shift, rfl, _, rfl, ite2 (fun h2 => ?_) (fun h2 => ?_)⟩
      · have e : strP z k = z := by
          unfold strP
          rw [if_neg n1, if_pos (V.int.inj (of_decide_eq_true h2))]
        rw [e] at q
        exact ⟨_, rfl, a, C, dx, _, _, rfl, ha, T.cl, T.nB, plF_base, .inl ⟨z, rfl, Nat.le_trans zl (by decide), q⟩⟩
      · have n2 : ¬ k = 0 := fun x => h2 (decide_eq_true (by rw [x]))
        have e : strP z k = "" ++ z ++ signS k := by
          unfold strP
          rw [if_neg n1, if_neg n2]
        rw [e] at q
        refine ⟨_, rfl, a, C, dx, _, _, rfl, ha, T.cl, T.nB, plF_base, .inl ⟨z, rfl, Nat.le_trans zl (by decide), z, rfl, ?_, ?_⟩⟩
        · rw [strLen_append]
          exact Nat.le_trans (Nat.add_le_add (show ("" : Str).length ≤ 0 by decide +kernel) zl) (by decide)
        · refine ⟨_, rfl, a, C, dx, _, _, rfl, ha, T.cl, T.nS, plF_shift, k, rfl, g.lo, g.hi, n2, signS k, rfl, ?_, q⟩
          rw [strLen_append, strLen_append, strlen_sign]
          exact Nat.le_trans (Nat.add_le_add_right (Nat.add_le_add (show ("" : Str).length ≤ 0 by decide +kernel) zl) 2) (by decide)
end
end Mz
set_option Elab.async false
set_option linter.all false
set_option maxRecDepth 100000
set_option maxHeartbeats 4000000
namespace Mz
open PySem PySem.Spec PyProof.Rows L2
section
variable {P : Program} {w : World} {K : PySem.W.Frag} {mg : Str → Option Value} {base : Heap}
/-- isinstance of a place and of no place -/
structure Pty (K : PySem.W.Frag) (C : Addr) : Prop where
  cl : Cls K C
  ha : PySem.W.findIn K (.ref C) "__class__" = some (some (.builtin "object.__class__"))
  hn : PySem.W.specialIn K (.builtin "object.__class__") "__get__" = some (some (.builtin "getset_descriptor.__get__"))
  htk : PySem.W.takesIn K (.builtin "object.__class__") = some true
  hm : PySem.W.mroIn K C (.type "object") = some true
theorem Pl.ty {C : Addr} {H : Hp} {a : Addr} {z : Str} {k : Int} (T : Pty K C) (h : Pl C H a z k) : TyX K H (.ref a) (.ref C) := by
  obtain ⟨dx, ha⟩ := h
  exact .base (.ins ha T.cl T.ha T.hn T.htk T.hm)
theorem kit_self {C : Addr} : PySem.W.kitOne K (.ref C) (.ref C) = some true := by
  unfold PySem.W.kitOne
  rw [if_pos (by simp)]
theorem scEq : FnScope ["self", "other"] ["self", "other"] (defScope (inClass sPlace 6)) := ⟨rfl, rfl, rfl, by decide +kernel, rfl, by decide +kernel, by decide +kernel⟩
theorem ok_eq {f C : Addr} {fd : FuncData} (F : Fun K "__eq__" "Place.__eq__" (inClass sPlace 6) f fd) (T : Cpl K mg C) (Y : Pty K C) (D : Blp mg) : FnOk P w K mg base CX0 1 f fd ["self", "other"] (spEq K C) := by
  refine F.ok scEq (fun vs H Q E h => ?_) (fun cdv A outer s H vs Q E hr h => ?_)
  · obtain ⟨a, z, k, _, ⟨b, y, i, rfl, _⟩ | ⟨y, rfl, _⟩⟩ := h
    · rfl
    · rfl
  · obtain ⟨a, z, k, pa, h⟩ := h
    refine ⟨_, pss_one (ps_ret (pe_and (pe_callB call_isi (by rfl) D.isi (by decide +kernel) (pa_cons (pv 1) (pa_cons (pe_glob (v := .ref C) rfl T.mgC rfl) pa_nil)))
      (pe_and (pe_cmpR op_eq (pe_fld (pv 0) rfl) (pe_fld (pv 1) rfl) (nomark _)) (pe_one (pe_cmpR op_eq (pe_fld (pv 0) rfl) (pe_fld (pv 1) rfl) (nomark _)))))), ?_⟩
    obtain ⟨dx, ha⟩ := id pa
    rcases h with ⟨b, y, i, rfl, pb, q⟩ | ⟨y, rfl, ⟨t, ty, kt⟩, q⟩
    · obtain ⟨dy, hb⟩ := id pb
      refine ⟨_, rfl, .ref b, .ref C, .ref C, .ref C, true, rfl, .own C, pb.ty Y, kit_self, true, rfl, iteT ?_⟩
      refine ⟨_, rfl, a, C, dx, _, _, rfl, ha, T.cl, T.nB, plF_base, _, rfl, b, C, dy, _, _, rfl, hb, T.cl, T.nB, plF_base, rfl, _, rfl, ite2 (fun h1 => ?_) (fun h1 => ?_)⟩
      · refine ⟨_, rfl, a, C, dx, _, _, rfl, ha, T.cl, T.nS, plF_shift, _, rfl, b, C, dy, _, _, rfl, hb, T.cl, T.nS, plF_shift, rfl, ?_⟩
        have e1 : z = y := V.str.inj (of_decide_eq_true h1)
        have e2 : decide (V.int k = V.int i) = decide (k = i) := decide_eq_decide.mpr ⟨fun x => V.int.inj x, fun x => by rw [x]⟩
        rw [decide_eq_true e1, Bool.true_and] at q
        rw [e2]
        exact q
      · have e1 : ¬ z = y := fun x => h1 (decide_eq_true (by rw [x]))
        rw [decide_eq_false e1, Bool.false_and] at q
        exact q
    · exact ⟨_, rfl, y, .ref C, t, .ref C, false, rfl, .own C, ty, kt, false, rfl, iteF q⟩
theorem scAdd : FnScope ["self", "other"] ["self", "other"] (defScope (inClass sPlace 7)) := ⟨rfl, rfl, rfl, by decide +kernel, rfl, by decide +kernel, by decide +kernel⟩
theorem ok_add {f f2 f3 fI C : Addr} {fd fd2 fd3 fdI : FuncData} {t : Tok} {g : List Value → List Value → List Value} (F : Fun K "__add__" "Place.__add__" (inClass sPlace 7) f fd) (T : Cpl K mg C)
    (G2 : FnOk P w K mg base CX0 2 f2 fd2 ["value", "low", "high"] (spIsInt K)) (m2 : mg "is_integer" = some (.ref f2)) (k2 : PySem.W.keepIn K (.ref f2) = true) (b2 : Binds K fd2 ["value", "low", "high"] [])
    (G3 : FnOk P w K mg base CX0 1 f3 fd3 ["base"] spLeast) (m3 : mg "_least_shift" = some (.ref f3)) (k3 : PySem.W.keepIn K (.ref f3) = true) (b3 : Binds K fd3 ["base"] [])
    (mM : mg "_MOST" = some (.int 3 t)) (M : Mk K C fI) (GI : FnOk P w K mg base CX0 3 fI fdI ["self", "base", "shift"] (spInit C)) (kI : KBn K fdI ["self", "base", "shift"] 2 ["shift"] g (fun vs zs => vs ++ zs)) :
    FnOk P w K mg base CX0 5 f fd ["self", "other"] (spAdd C) := by
  refine F.ok scAdd (fun vs H Q E h => ?_) (fun cdv A outer s H vs Q E hr h => ?_)
  · obtain ⟨a, z, k, i, rfl, _⟩ := h
    rfl
  · obtain ⟨a, z, k, i, rfl, ⟨dx, ha⟩, g1, g2, q⟩ := h
    refine ⟨_, PSs.nox (pss_cons (ps_if (pt_not (pt_val (pe_call G2 (hr.mono (by decide)) (by rfl) m2 k2 b2 .nil pass0 (pa_cons (pv 1) (pa_cons (pe_op op_sub (pe_call G3 (hr.mono (by decide)) (by rfl) m3 k3 b3 .nil pass0 (pa_cons (pe_fld (pv 0) rfl) pa_nil)) (pe_fld (pv 0) rfl))
        (pa_cons (pe_op op_sub (pe_glob (v := .int 3) rfl mM ⟨_, rfl⟩) (pe_fld (pv 0) rfl)) pa_nil)))))) (pss_one ps_never) pss_nil)
      (pss_one (ps_ret (pe_makeK M GI hr (by rfl) T.mgC kI pass0 (pa_cons (pe_fld (pv 0) rfl) pa_nil) (pk_cons (pe_op op_add (pe_fld (pv 0) rfl) (pv 1)) pk_nil))))), ?_⟩
    refine ⟨_, rfl, _, rfl, a, C, dx, _, _, rfl, ha, T.cl, T.nB, plF_base, z, rfl, _, rfl, a, C, dx, _, _, rfl, ha, T.cl, T.nS, plF_shift, _, _, rfl, rfl, ?_⟩
    refine ⟨_, rfl, a, C, dx, _, _, rfl, ha, T.cl, T.nS, plF_shift, _, _, rfl, rfl, .int i, _, _, rfl, .int i, _, rfl, ?_⟩
    have e : inB (lowS z - k) (3 - k) (.int i) = true := by
      have h1 := g2.2.2.2.1
      have h2 := g2.2.2.2.2
      show (decide (lowS z - k ≤ i) && decide (i ≤ 3 - k)) = true
      rw [decide_eq_true (by omega), decide_eq_true (by omega)]
      rfl
    rw [e]
    refine iteF ⟨_, rfl, a, C, dx, _, _, rfl, ha, T.cl, T.nB, plF_base, _, rfl, a, C, dx, _, _, rfl, ha, T.cl, T.nS, plF_shift, _, rfl, _, _, rfl, rfl, rfl, rfl, fun p dp np ndp nn => ?_⟩
    refine ⟨p, dp, z, k + i, rfl, upd_same, g2.1, g2.2.1, g2.2.2.1, g2.2.2.2.1, g2.2.2.2.2, fun H' u t' => ⟨rfl, q p H' np (fun r o hro => u r o (ne_of_none hro np) ?_) ⟨dp, t'⟩⟩⟩
    rw [upd_ne (ne_of_none hro np), upd_ne (ne_of_none hro ndp)]
    exact hro
end
end Mz
set_option Elab.async false
set_option linter.all false
set_option maxRecDepth 100000
set_option maxHeartbeats 4000000
namespace Mz
open PySem PySem.Spec PyProof.Rows L2
theorem sign_ok {z : Str} {c : Nat} (ok : PyData.strOk z = true) (h : c ∈ z.cps.toList) : PyData.strOk ⟨#[c]⟩ = true := by
  have h1 : c < 0x110000 := by
    unfold PyData.strOk at ok
    rw [Array.all_eq_true_iff_forall_mem] at ok
    exact of_decide_eq_true (ok c (Array.mem_toList_iff.mp h))
  unfold PyData.strOk
  simp only [Array.all_eq_true_iff_forall_mem]
  intro x hx
  have e : x = c := by simpa using hx
  rw [e]
  exact decide_eq_true h1
/-! texts of a bounded length, of signs that are some -/
def Sm (n : Nat) (z : Str) : Prop := z.length ≤ n ∧ PyData.strOk z = true
theorem strOk_iff {z : Str} : PyData.strOk z = true ↔ ∀ c ∈ z.cps.toList, c < 0x110000 := by
  unfold PyData.strOk
  rw [Array.all_eq_true_iff_forall_mem]
  exact ⟨fun h c hc => of_decide_eq_true (h c (Array.mem_toList_iff.mp hc)), fun h c hc => decide_eq_true (h c (Array.mem_toList_iff.mpr hc))⟩
theorem Sm.mono {n m : Nat} {z : Str} (h : Sm n z) (le : n ≤ m) : Sm m z := ⟨Nat.le_trans h.1 le, h.2⟩
theorem Sm.app {n m : Nat} {y z : Str} (hy : Sm n y) (hz : Sm m z) : Sm (n + m) (y ++ z) := by
  refine ⟨by rw [strLen_append]; exact Nat.add_le_add hy.1 hz.1, strOk_iff.mpr fun c hc => ?_⟩
  have hc2 : c ∈ (y.cps ++ z.cps).toList := hc
  rw [Array.toList_append] at hc2
  rcases List.mem_append.mp hc2 with e | e
  · exact strOk_iff.mp hy.2 c e
  · exact strOk_iff.mp hz.2 c e
theorem Sm.cut {n : Nat} {z : Str} (h : Sm n z) (lo hi : Option Int) : Sm n (cutS z lo hi) := by
  unfold cutS
  refine ⟨?_, strOk_iff.mpr fun c hc => ?_⟩
  · show ((z.cps.toList.drop _).take _).toArray.size ≤ n
    rw [List.size_toArray, List.length_take, List.length_drop]
    have e : z.cps.toList.length = z.length := rfl
    have := h.1
    omega
  · exact strOk_iff.mp h.2 c (List.mem_of_mem_drop (List.mem_of_mem_take hc))
theorem sm_sign {z : Str} {c : Nat} (ok : PyData.strOk z = true) (h : c ∈ z.cps.toList) : Sm 1 ⟨#[c]⟩ := ⟨Nat.le_refl _, sign_ok ok h⟩
theorem join_ok : ∀ l : List Str, (∀ y ∈ l, PyData.strOk y = true) → PyData.strOk (Str.join "" l) = true
  | [], _ => by decide +kernel
  | [x], h => h x List.mem_cons_self
  | x :: y :: r, h => by
    have h1 := h x List.mem_cons_self
    have h2 := join_ok (y :: r) fun z hz => h z (List.mem_cons_of_mem _ hz)
    show PyData.strOk (x ++ "" ++ Str.join "" (y :: r)) = true
    exact (Sm.app (Sm.app ⟨Nat.le_refl _, h1⟩ ⟨Nat.le_refl _, by decide +kernel⟩) ⟨Nat.le_refl _, h2⟩).2
theorem sum_ones : ∀ l : List Str, (∀ y ∈ l, Sm 1 y) → (l.map (·.length)).sum ≤ l.length
  | [], _ => Nat.le_refl _
  | x :: r, h => by
    have h1 := (h x List.mem_cons_self).1
    have h2 := sum_ones r fun z hz => h z (List.mem_cons_of_mem _ hz)
    rw [List.map_cons, List.sum_cons, List.length_cons]
    omega
theorem sm_join {l : List Str} (h : ∀ y ∈ l, Sm 1 y) : Sm l.length (Txt.join "" l) := by
  unfold Txt.join
  rw [StrLaws.glued_eq_join]
  refine ⟨?_, join_ok l fun y hy => (h y hy).2⟩
  have e := StrLaws.join_length_le "" l
  have e2 := sum_ones l h
  have e3 : l.length * ("" : Str).length = 0 := by
    rw [show ("" : Str).length = 0 by decide +kernel, Nat.mul_zero]
  omega
theorem atI_in {a : Type} {l : List a} {i : Int} (h0 : 0 ≤ i) (h1 : i < (l.length : Int)) : ∃ c, atI l i = some c ∧ c ∈ l := by
  obtain ⟨k, rfl⟩ := Int.eq_ofNat_of_zero_le h0
  have hk : k < l.length := by omega
  exact ⟨l[k], atI_nat (List.getElem?_eq_getElem hk), List.getElem_mem hk⟩
theorem str_empty {z : Str} (h : z.length = 0) : z = "" := by
  obtain ⟨l⟩ := z
  have e : l = #[] := Array.eq_empty_of_size_eq_zero h
  rw [e]
  rfl
theorem same_nw {H : Hp} {p : Addr} {o : HO} (h : H p = none) : Same H (upd H p o) := fun q u e => by
  rw [upd_ne (ne_of_none e h)]
  exact e
end Mz
set_option Elab.async false
set_option linter.all false
set_option maxRecDepth 100000
set_option maxHeartbeats 4000000
namespace Mz
open PySem PySem.Spec PyProof.Rows L2
def numS (z : Str) : Option Int := if z = "0" then some 0 else if z = "1" then some 1 else if z = "2" then some 2 else if z = "3" then some 3 else none
def shS (z : Str) : Option Int := if z = "-3" then some (-3) else if z = "-2" then some (-2) else if z = "-1" then some (-1) else if z = "+1" then some 1 else if z = "+2" then some 2 else if z = "+3" then some 3 else none
def headS (z : Str) : Str := cutS z none (some (-2))
def tailS (z : Str) : Str := cutS z (some (-2)) none
/-- what the program reads out of a text -/
def partsS (z : Str) : Option (Str × Int) :=
  match numS z with
  | some n => some ("", n)
  | none => if nameS z = true then some (z, 0) else if nameS (headS z) = true then (match shS (tailS z) with | some k => some (headS z, k) | none => none) else none
/-- a written dict from texts to ints -/
def Tab (K : PySem.W.Frag) (w : World) (d : Addr) (f : Str → Option Int) : Prop := ∃ es n, KDict K w d es n ∧ ∀ z : Str, ∃ r, PySem.W.nsIn K d z = some r ∧ ((f z = none ∧ r = none) ∨ ∃ i t, f z = some i ∧ r = some (.int i t))
def spParts : Sp := fun vs H Q _ => ∃ z : Str, vs = [.str z] ∧ Sm 1000 z ∧ (partsS z = none → ∀ H', Same H H' → Q .non H') ∧ ∀ y k, partsS z = some (y, k) → ∀ p H', Same H H' → H p = none → H' p = some (.tup [.str y, .int k]) → Q (.ref p) H'
section
variable {P : Program} {w : World} {K : PySem.W.Frag} {mg : Str → Option Value} {base : Heap}
theorem scParts : FnScope ["text"] ["text"] (defScope sParts) := ⟨rfl, rfl, rfl, by decide +kernel, rfl, by decide +kernel, by decide +kernel⟩
theorem ok_parts {f f1 dN dS : Addr} {fd fd1 : FuncData} (F : Fun K "_parts_of_text" "_parts_of_text" sParts f fd) (G : FnOk P w K mg base CX0 1 f1 fd1 ["value"] (spIsName K)) (m1 : mg "is_name" = some (.ref f1)) (k1 : PySem.W.keepIn K (.ref f1) = true) (b1 : Binds K fd1 ["value"] [])
    (mN : mg "_NUMBERS" = some (.ref dN)) (mS : mg "_SHIFTS" = some (.ref dS)) (tN : Tab K w dN numS) (tS : Tab K w dS shS) : FnOk P w K mg base CX0 2 f fd ["text"] spParts := by
  refine F.ok scParts (fun vs H Q E h => ?_) (fun cdv A outer s H vs Q E hr h => ?_)
  · obtain ⟨z, rfl, _⟩ := h
    rfl
  · obtain ⟨z, rfl, hz, qn, qs⟩ := h
    obtain ⟨esN, nN, DN, lN⟩ := tN
    obtain ⟨esS, nS, DS, lS⟩ := tS
    have zl : z.length ≤ sizeLine := Nat.le_trans hz.1 (by decide)
    refine ⟨_, pss_cons (ps_if (pt_cmpR (op_in_kd DN) (pv 0) (pe_glob (v := .ref dN) rfl mN rfl) (by rfl)) (pss_one (ps_ret (pe_tup (pa_cons pe_str (pa_cons (pe_ix ix_kdict (pe_glob (v := .ref dN) rfl mN rfl) (pv 0) (fun _ _ => rfl)) pa_nil))))) pss_nil)
      (pss_cons (ps_if (pt_val (pe_call G hr (by rfl) m1 k1 b1 .nil pass0 (pa_cons (pv 0) pa_nil))) (pss_one (ps_ret (pe_tup (pa_cons (pv 0) (pa_cons pe_int pa_nil))))) pss_nil)
      (pss_cons (ps_if (PW.pt (pw_and (pt_val (pe_call G hr (by rfl) m1 k1 b1 .nil pass0 (pa_cons (pe_slice sl_str (pv 0) po_none (po_some (pe_un un_neg pe_int))) pa_nil))) (pw_and1 (pt_cmpR (op_in_kd DS) (pe_slice sl_str (pv 0) (po_some (pe_un un_neg pe_int)) po_none) (pe_glob (v := .ref dS) rfl mS rfl) (by rfl)))))
          (pss_one (ps_ret (pe_tup (pa_cons (pe_slice sl_str (pv 0) po_none (po_some (pe_un un_neg pe_int))) (pa_cons (pe_ix ix_kdict (pe_glob (v := .ref dS) rfl mS rfl) (pe_slice sl_str (pv 0) (po_some (pe_un un_neg pe_int)) po_none) (fun _ _ => rfl)) pa_nil))))) pss_nil)
      (pss_one (ps_ret pe_non)))), ?_⟩
    have kd : ∀ {H' : Hp} {y : Str}, Sm 1000 y → Kd K H' (.str y) := fun h => .str _ h.1 h.2
    obtain ⟨r, er, hr1⟩ := lN z
    refine ⟨_, rfl, z, r, rfl, rfl, er, _, rfl, ?_⟩
    rcases hr1 with ⟨e, rfl⟩ | ⟨i, t, e, rfl⟩
    · refine iteF ?_
      refine ⟨_, rfl, .str z, rfl, kd hz, fun H1 s1 => ⟨_, rfl, ite2 (fun hn => ?_) (fun hn => ?_)⟩⟩
      · have ep : partsS z = some (z, 0) := by
          unfold partsS
          rw [e]
          exact if_pos hn
        exact ⟨_, rfl, (by show 2 ≤ sizeLine; decide), fun p np => qs z 0 ep p _ (s1.trans (same_nw np)) (s1.free np) upd_same⟩
      · have nn : ¬ nameS z = true := hn
        have sh := hz.cut none (some (-2))
        have st := hz.cut (some (-2)) none
        refine ⟨_, rfl, _, rfl, _, rfl, z, rfl, zl, .str (headS z), rfl, kd sh, fun H2 s2 => ⟨_, rfl, ite2 (fun hh => ?_) (fun hh => ?_)⟩⟩
        · have nh : nameS (headS z) = true := hh
          obtain ⟨r, er, hr2⟩ := lS (tailS z)
          refine ⟨_, rfl, _, rfl, _, rfl, z, rfl, zl, tailS z, r, rfl, rfl, er, _, rfl, ?_⟩
          rcases hr2 with ⟨e2, rfl⟩ | ⟨i, t, e2, rfl⟩
          · refine iteF (qn ?_ H2 (s1.trans s2))
            unfold partsS
            rw [e]
            show (if nameS z = true then _ else _) = _
            rw [if_neg nn, if_pos nh, e2]
          · have ep : partsS z = some (headS z, i) := by
              unfold partsS
              rw [e]
              show (if nameS z = true then _ else _) = _
              rw [if_neg nn, if_pos nh, e2]
            refine iteT ⟨_, rfl, _, rfl, _, rfl, z, rfl, zl, ?_⟩
            refine ⟨_, rfl, _, rfl, _, rfl, z, rfl, zl, dS, tailS z, .int i, rfl, rfl, ⟨_, _, _, DS.at_, DS.lit, er, ⟨t, rfl⟩⟩, (by show 2 ≤ sizeLine; decide), fun p np => ?_⟩
            exact qs _ _ ep p _ ((s1.trans s2).trans (same_nw np)) ((s1.trans s2).free np) upd_same
        · refine qn ?_ H2 (s1.trans s2)
          unfold partsS
          rw [e]
          show (if nameS z = true then _ else _) = _
          rw [if_neg nn]
          exact if_neg hh
    · have ep : partsS z = some (("" : Str), i) := by
        unfold partsS
        rw [e]
      refine iteT ⟨_, rfl, dN, z, .int i, rfl, rfl, ⟨_, _, _, DN.at_, DN.lit, er, ⟨t, rfl⟩⟩, (by show 2 ≤ sizeLine; decide), fun p np => ?_⟩
      exact qs _ _ ep p _ (same_nw np) np upd_same
end
end Mz
set_option Elab.async false
set_option linter.all false
set_option maxRecDepth 100000
set_option maxHeartbeats 4000000
namespace Mz
open PySem PySem.Spec PyProof.Rows L2
/-- the types of int, bool, str, None are no places -/
structure Npl (K : PySem.W.Frag) (C : Addr) : Prop where
  int : PySem.W.kitOne K (.type "int") (.ref C) = some false
  bool : PySem.W.kitOne K (.type "bool") (.ref C) = some false
  str : PySem.W.kitOne K (.type "str") (.ref C) = some false
  non : PySem.W.kitOne K (.type "NoneType") (.ref C) = some false
/-- a value that is no place -/
def NoPl (K : PySem.W.Frag) (C : Addr) (H : Hp) (v : V) : Prop := Kd K H v ∧ Oty K C H v
/-- what a value that is no place reads as -/
def ofV : V → Option (Str × Int)
  | .int i => if 0 ≤ i ∧ i ≤ 3 then some ("", i) else none
  | .str z => partsS z
  | _ => none
/-- the exception's class, as the written part has it -/
structure Xcl (K : PySem.W.Frag) (mg : Str → Option Value) (x : Str) (C : Addr) (f : Str) : Prop where
  ox : OexC K C
  no : PySem.W.findIn K (.ref C) f = some none
  m : mg x = some (.ref C)
  xf : XfC K C
def spOf (K : PySem.W.Frag) (C cX : Addr) : Sp := fun vs H Q E => ∃ v, vs = [.ref C, v] ∧
  ((∃ a z k, v = .ref a ∧ Pl C H a z k ∧ Q v H) ∨
    (NoPl K C H v ∧ (∀ z k, ofV v = some (z, k) → ∀ p H', H p = none → Same H H' → Pl C H' p z k → Good z k → Q (.ref p) H') ∧
      (ofV v = none → ∀ d H', H d = none → Same H H' → H' d = some (.xd [("value", v)]) → E (.ref cX) (some d) H')))
theorem good_num {i : Int} (h0 : 0 ≤ i) (h1 : i ≤ 3) : Good "" i := ⟨by decide +kernel, by decide +kernel, .inl rfl, h0, h1⟩
theorem low_name {z : Str} (h : nameS z = true) : lowS z = -3 := if_neg fun e => by
  rw [e] at h
  exact absurd h (by decide +kernel)
theorem good_name {z : Str} {k : Int} (hz : Sm 1000 z) (h : nameS z = true) (h0 : -3 ≤ k) (h1 : k ≤ 3) : Good z k := ⟨hz.1, hz.2, .inr h, by rw [low_name h]; exact h0, h1⟩
theorem numS_rng {z : Str} {n : Int} (h : numS z = some n) : 0 ≤ n ∧ n ≤ 3 := by
  unfold numS at h
  repeat' split at h
  all_goals first | (cases h; omega) | cases h
theorem shS_rng {z : Str} {n : Int} (h : shS z = some n) : -3 ≤ n ∧ n ≤ 3 := by
  unfold shS at h
  repeat' split at h
  all_goals first | (cases h; omega) | cases h
theorem parts_good {z y : Str} {k : Int} (hz : Sm 1000 z) (h : partsS z = some (y, k)) : Good y k := by
  unfold partsS at h
  cases e : numS z with
  | some n =>
    rw [e] at h
    cases h
    exact good_num (numS_rng e).1 (numS_rng e).2
  | none =>
    rw [e] at h
    dsimp only at h
    by_cases hn : nameS z = true
    · rw [if_pos hn] at h
      cases h
      exact good_name hz hn (by decide) (by decide)
    · rw [if_neg hn] at h
      by_cases hh : nameS (headS z) = true
      · rw [if_pos hh] at h
        cases e2 : shS (tailS z) with
        | none =>
          rw [e2] at h
          cases h
        | some i =>
          rw [e2] at h
          cases h
          exact good_name (hz.cut _ _) hh (shS_rng e2).1 (shS_rng e2).2
      · rw [if_neg hh] at h
        cases h
section
variable {P : Program} {w : World} {K : PySem.W.Frag} {mg : Str → Option Value} {base : Heap}
theorem scXinit : FnScope ["self", "value"] ["self", "value"] (defScope (inClass sInvPlace 0)) := ⟨rfl, rfl, rfl, by decide +kernel, rfl, by decide +kernel, by decide +kernel⟩
theorem ok_xinit {f C cM : Addr} {fd : FuncData} (F : Fun K "__init__" "InvalidPlace.__init__" (inClass sInvPlace 0) f fd) (T : Xcl K mg "InvalidPlace" C "value") (mM : mg "MapError" = some (.ref cM)) (rd : ClX.CRead K cM (.type "type"))
    (fc : PySem.W.findCls K (.ref cM) (.type "type") "__init__" = some (.val (.builtin "ValueError.__init__"))) : FnOk P w K mg base CX0 1 f fd ["self", "value"] (spX1 K C "value") := by
  refine F.ok scXinit (fun vs H Q E h => ?_) (fun cdv A outer s H vs Q E hr h => ?_)
  · obtain ⟨a, v, rfl, _⟩ := h
    rfl
  · obtain ⟨a, v, rfl, ha, q⟩ := h
    refine ⟨_, pss_cons (ps_expr (pe_meinit (by rfl) mM rd fc (pa_cons (pv 0) (pa_cons pe_str pa_nil)))) (pss_one (ps_ost (pv 0) (pv 1))), ?_⟩
    refine ⟨_, rfl, a, C, _, rfl, (by show 1 ≤ 1000; decide), T.ox, ha, ?_⟩
    exact ⟨_, rfl, _, rfl, a, C, rfl, T.ox, T.no, .inl ⟨ha, fun dx n1 n2 => q dx n1 n2⟩⟩
theorem scOf : FnScope ["cls", "value", "parts", "base", "shift"] ["cls", "value"] (defScope (inClass sPlace 1)) := ⟨rfl, rfl, rfl, by decide +kernel, rfl, by decide +kernel, by decide +kernel⟩
theorem ok_of {f f2 fp fI C cX fX : Addr} {fd fd2 fdp fdI fdX : FuncData} {t : Tok} {g1 g2 : List Value → List Value → List Value} (F : Fun K "of" "Place.of" (inClass sPlace 1) f fd) (T : Cpl K mg C) (Y : Pty K C) (N : Npl K C) (B : Blt mg) (D : Blp mg)
    (G2 : FnOk P w K mg base CX0 2 f2 fd2 ["value", "low", "high"] (spIsInt K)) (m2 : mg "is_integer" = some (.ref f2)) (k2 : PySem.W.keepIn K (.ref f2) = true) (b2 : Binds K fd2 ["value", "low", "high"] [])
    (Gp : FnOk P w K mg base CX0 2 fp fdp ["text"] spParts) (mp : mg "_parts_of_text" = some (.ref fp)) (kp : PySem.W.keepIn K (.ref fp) = true) (bp : Binds K fdp ["text"] [])
    (mM : mg "_MOST" = some (.int 3 t)) (M : Mk K C fI) (GI : FnOk P w K mg base CX0 3 fI fdI ["self", "base", "shift"] (spInit C)) (kI1 : KBn K fdI ["self", "base", "shift"] 1 ["shift"] g1 (fun vs zs => vs ++ [.str ""] ++ zs)) (kI2 : KBn K fdI ["self", "base", "shift"] 2 ["shift"] g2 (fun vs zs => vs ++ zs))
    (TX : Xcl K mg "InvalidPlace" cX "value") (GX : FnOk P w K mg base CX0 1 fX fdX ["self", "value"] (spX1 K cX "value")) (iX : PySem.W.findIn K (.ref cX) "__init__" = some (some (.ref fX))) (tX : PySem.W.typeIn K (.ref fX) = some (.type "function")) (bX : Binds K fdX ["self", "value"] []) :
    FnOk P w K mg base (L2.CX P w) 5 f fd ["cls", "value"] (spOf K C cX) := by
  refine F.okX scOf (fun vs H Q E h => ?_) (fun cdv A outer s H vs Q E hr h => ?_)
  · obtain ⟨v, rfl, _⟩ := h
    rfl
  · obtain ⟨v, rfl, h⟩ := h
    have nd := scOf.nd
    have hr2 : Room 2 _ := hr.mono (by decide)
    refine ⟨_, pss_cons (ps_if (pt_val (pe_callB call_isi (by rfl) D.isi (by decide +kernel) (pa_cons (pv 1) (pa_cons (pe_glob (v := .ref C) rfl T.mgC rfl) pa_nil)))) (pss_one (ps_ret (pv 1))) pss_nil)
      (pss_cons (ps_if (pt_val (pe_call G2 hr2 (by rfl) m2 k2 b2 .nil pass0 (pa_cons (pv 1) (pa_cons pe_int (pa_cons (pe_glob (v := .int 3) rfl mM ⟨_, rfl⟩) pa_nil))))) (pss_one (ps_ret (pe_makeL0 (i := 0) rfl (.inl rfl) M GI hr kI1 pass0 (pk_cons (pv 1) pk_nil)))) pss_nil)
      (pss_cons (ps_set (i := 2) nd rfl (Or.inl rfl) (pe_ifExp (pt_val (pe_callB call_isi (by rfl) D.isi (by decide +kernel) (pa_cons (pv 1) (pa_cons (pe_bltn (v := .ty "str") (by rfl) D.str (by decide +kernel) rfl) pa_nil))))
        (pe_call Gp hr2 (by rfl) mp kp bp .nil pass0 (pa_cons (pv 1) pa_nil)) pe_non))
      (pss_cons (ps_if (pt_cmpR op_isN (pv 2) pe_non (nomark _)) (pss_one (ps_raise rfl (takes_of rfl rfl rfl rfl) (pmk_oex TX.ox iX tX GX (hr.mono (by decide)) bX .nil pass0 (by rfl) TX.m (pa_cons (pv 1) pa_nil)))) pss_nil)
      (pss_cons (ps_asg (pv 2) (pg_tup (by rfl) (pgs_cons (pg_name (i := 3) nd rfl (.inl rfl)) (pgs_cons (pg_name (i := 4) nd rfl (.inl rfl)) pgs_nil))))
      (pss_one (ps_ret (pe_makeL (i := 0) rfl (.inl rfl) M GI hr kI2 pass0 (pa_cons (pv 3) pa_nil) (pk_cons (pv 4) pk_nil)))))))), ?_⟩
    generalize hT4 : tSeq (tIfS (tTest _) (fun _ _ _ => _) _) _ = T4
    have made : ∀ (H1 : Hp), Same H H1 → ∀ y k, Good y k → (∀ p H', H p = none → Same H H' → Pl C H' p y k → Q (.ref p) H') → ∀ x dx, H1 x = none → H1 dx = none → dx ≠ x →
        spInit C [.ref x, .str y, .int k] (upd (upd H1 dx (.own x)) x (.ins C dx [])) (fun v H2 => v = .non ∧ Q (.ref x) H2) E0 := by
      intro H1 s1 y k g qq x dx nx ndx nn
      refine ⟨x, dx, y, k, rfl, upd_same, g.1, g.2.1, g.2.2.1, g.2.2.2.1, g.2.2.2.2, fun H' u t' => ⟨rfl, qq x H' (s1.free nx) (fun r o hro => u r o (ne_of_none (s1 _ _ hro) nx) ?_) ⟨dx, t'⟩⟩⟩
      rw [upd_ne (ne_of_none (s1 _ _ hro) nx), upd_ne (ne_of_none (s1 _ _ hro) ndx)]
      exact s1 _ _ hro
    have rest0 : ∀ H1, Same H H1 → (∀ d H', H d = none → Same H H' → H' d = some (.xd [("value", v)]) → E (.ref cX) (some d) H') → T4 { nx := fun _ H' => Q .non H', rt := Q } [some (.ref C), some v, some .non, none, none] H1 := by
      intro H1 s1 qE
      rw [← hT4]
      refine ⟨_, rfl, rfl, _, rfl, ite2 (fun _ => ?_) (fun x => (x (decide_eq_true rfl)).elim)⟩
      refine ⟨_, rfl, (by show 1 ≤ 1000; decide), fun a na => ⟨a, v, rfl, upd_same, fun dx n1 n2 => ⟨rfl, dx, [("value", v)], upd_same, ?_, ?_, ?_⟩⟩⟩
      · rw [upd_ne n2, upd_same]
      · rw [upd_ne n2] at n1
        exact n1
      · have n3 : H1 dx = none := by
          rw [upd_ne n2] at n1
          exact n1
        refine qE dx _ (s1.free n3) (fun b o hb => ?_) upd_same
        have x1 : b ≠ dx := ne_of_none (s1 _ _ hb) n3
        have x2 : b ≠ a := ne_of_none (s1 _ _ hb) na
        rw [upd_ne x1, del_ne x2, upd_ne x2, upd_ne x1, upd_ne x2]
        exact s1 _ _ hb
    have rest1 : ∀ H1 p y k, Same H H1 → H1 p = some (.tup [.str y, .int k]) → Good y k → (∀ p H', H p = none → Same H H' → Pl C H' p y k → Q (.ref p) H') → T4 { nx := fun _ H' => Q .non H', rt := Q } [some (.ref C), some v, some (.ref p), none, none] H1 := by
      intro H1 p y k s1 hp g qq
      rw [← hT4]
      refine ⟨_, rfl, rfl, _, rfl, ite2 (fun x => ?_) (fun _ => ?_)⟩
      · cases of_decide_eq_true x
      · refine ⟨_, rfl, p, _, rfl, SqT.of hp, rfl, ?_⟩
        exact ⟨_, _, rfl, _, _, rfl, rfl, rfl, _, rfl, _, rfl, rfl, rfl, made H1 s1 y k g qq⟩
    clear hT4
    refine ⟨_, rfl, ?_⟩
    rcases h with ⟨a, z, k, rfl, pa, q⟩ | ⟨⟨hk, t0, ty0, kt0⟩, qs, qE⟩
    · exact ⟨.ref a, .ref C, .ref C, .ref C, true, rfl, .own C, pa.ty Y, kit_self, true, rfl, iteT ⟨_, rfl, q⟩⟩
    · refine ⟨v, .ref C, t0, .ref C, false, rfl, .own C, ty0, kt0, false, rfl, iteF ?_⟩
      refine ⟨_, rfl, v, 0, 3, rfl, hk, _, rfl, ?_⟩
      cases hk with
      | int i =>
        refine ite2 (fun hc => ?_) (fun hc => ?_)
        · have hc2 : (decide (0 ≤ i) && decide (i ≤ 3)) = true := hc
          obtain ⟨h1, h2⟩ := Bool.and_eq_true_iff.mp hc2
          have h1 := of_decide_eq_true h1
          have h2 := of_decide_eq_true h2
          have e : ofV (.int i) = some (("" : Str), i) := if_pos ⟨h1, h2⟩
          exact ⟨rfl, _, rfl, rfl, rfl, made H (Same.refl H) "" i (good_num h1 h2) fun p H' n1 n2 n3 => qs "" i e p H' n1 n2 n3 (good_num h1 h2)⟩
        · have e : ofV (.int i) = none := if_neg fun x => hc (by
            show (decide (0 ≤ i) && decide (i ≤ 3)) = true
            rw [decide_eq_true x.1, decide_eq_true x.2]
            rfl)
          exact ⟨_, rfl, _, _, _, _, false, rfl, .ty _, .base (.int i), kit_ty (by decide +kernel), false, rfl, iteF (rest0 H (Same.refl H) (qE e))⟩
      | bl b => exact iteF ⟨_, rfl, _, _, _, _, false, rfl, .ty _, .base (.bl b), kit_ty (by decide +kernel), false, rfl, iteF (rest0 H (Same.refl H) (qE rfl))⟩
      | non => exact iteF ⟨_, rfl, _, _, _, _, false, rfl, .ty _, .base .non, kit_ty (by decide +kernel), false, rfl, iteF (rest0 H (Same.refl H) (qE rfl))⟩
      | oth a t ty ki ks => exact iteF ⟨_, rfl, _, _, _, _, false, rfl, .ty _, ty, ks, false, rfl, iteF (rest0 H (Same.refl H) (qE rfl))⟩
      | str z hz ok =>
        refine iteF ⟨_, rfl, _, _, _, _, true, rfl, .ty _, .base (.str z), kit_ty (by decide +kernel), true, rfl, iteT ⟨_, rfl, z, rfl, ⟨hz, ok⟩, fun e H1 s1 => rest0 H1 s1 (qE e), fun y k e p H1 s1 np hp => ?_⟩⟩
        have g := parts_good ⟨hz, ok⟩ e
        exact rest1 H1 p y k s1 hp g fun p H' n1 n2 n3 => qs y k e p H' n1 n2 n3 g
end
end Mz
set_option Elab.async false
set_option linter.all false
set_option maxRecDepth 100000
set_option maxHeartbeats 4000000
namespace Mz
open PySem PySem.Spec PyProof.Rows L2
/-! letters, by order and by the alphabet -/
def loC (c : Nat) : Bool := !decide ((⟨#[c]⟩ : Str).cps.toList < ("a" : Str).cps.toList)
def hiC (c : Nat) : Bool := !decide (("z" : Str).cps.toList < (⟨#[c]⟩ : Str).cps.toList)
theorem abc_range : abc.cps.toList = List.range' 97 26 := by decide +kernel
theorem one_lt (a b : Nat) : ([a] : List Nat) < [b] ↔ a < b := by
  rw [List.cons_lt_cons_iff]
  simp
theorem letter_eq (c : Nat) : (loC c && hiC c) = decide (c ∈ abc.cps.toList) := by
  have e1 : loC c = decide (97 ≤ c) := by
    unfold loC
    rw [show ("a" : Str).cps.toList = [97] by decide +kernel]
    show (!decide (([c] : List Nat) < [97])) = _
    rw [decide_eq_decide.mpr (one_lt c 97)]
    by_cases h : c < 97
    · rw [decide_eq_true h, decide_eq_false (by omega)]; rfl
    · rw [decide_eq_false h, decide_eq_true (by omega)]; rfl
  have e2 : hiC c = decide (c ≤ 122) := by
    unfold hiC
    rw [show ("z" : Str).cps.toList = [122] by decide +kernel]
    show (!decide (([122] : List Nat) < [c])) = _
    rw [decide_eq_decide.mpr (one_lt 122 c)]
    by_cases h : 122 < c
    · rw [decide_eq_true h, decide_eq_false (by omega)]; rfl
    · rw [decide_eq_false h, decide_eq_true (by omega)]; rfl
  rw [e1, e2, abc_range, ← Bool.decide_and]
  refine decide_eq_decide.mpr ?_
  rw [List.mem_range'_1]
  omega
theorem dp_strs {K : PySem.W.Frag} {H : Hp} : ∀ l : List Str, DpAll K H (l.map V.str) (l.map PyData.str)
  | [] => .nil
  | z :: l => .cons (.str z) (dp_strs l)
theorem strs_lay : ∀ l : List Str, (∀ z ∈ l, PyData.strOk z = true) → PyData.canLayAll0 (l.map PyData.str) = true ∧ PyData.depthAll (l.map PyData.str) = 0
  | [], _ => ⟨rfl, rfl⟩
  | z :: l, ok => by
    obtain ⟨h1, h2⟩ := strs_lay l fun y hy => ok y (List.mem_cons_of_mem _ hy)
    have h3 := ok z List.mem_cons_self
    rw [List.map_cons]
    refine ⟨?_, ?_⟩
    · simp [PyData.canLayAll0, PyData.canLay0, h1, h3]
    · simp [PyData.depthAll, PyData.depth, h2]
theorem shaped_strs (l : List Str) (ok : ∀ z ∈ l, PyData.strOk z = true) : SeqAt.shaped (.list (l.map PyData.str)) = true := by
  obtain ⟨h1, h2⟩ := strs_lay l ok
  unfold SeqAt.shaped
  simp [PyData.canLay0, PyData.depth, h1, h2]
theorem eqv_nil {xs : List PyData} : PyData.eqv (.list xs) (.list []) = xs.isEmpty := by
  cases xs <;> rfl
end Mz
set_option Elab.async false
set_option linter.all false
set_option maxRecDepth 100000
set_option maxHeartbeats 4000000
/-! a class called in a try: what is raised is wished for at the caller's slots -/
namespace Mz
open PySem PySem.Spec PyProof.Rows L2
section
variable {X : Cx} {CX : CXT} {k n : Nat} {f C : Addr} {fd : FuncData} {ps ks : List Str} {sp : Sp} {x : Str} {p pos : Pos} {e : Expr} {es : List Expr} {kws : List Keyword} {t tk : TA} {g : List Value → List Value → List Value} {gV : List V → List V → List V}
theorem run_makeKS {E : XK} {pins : List (Addr × Obj)} {σ : L2.St} {H : Hp} {s : Shared} {Q : VK} {us ws : List Value} {vs zs : List V} (M : Mk X.K C f) (F : FnOk X.prog X.w X.K X.mg X.base CX k f fd ps sp) (hr : Room (k + 1) X.A) (hb : KBn X.K fd ps (n + 1) ks g gV) (hx : PassesAt CX X σ E)
    (I : Inv X pins σ H s) (r : Vals vs us) (rz : Vals zs ws) (l1 : vs.length = n) (l2 : zs.length = ks.length)
    (h : ∀ x dx, H x = none → H dx = none → dx ≠ x → sp (gV (.ref x :: vs) zs) (upd (upd H dx (.own x)) x (.ins C dx [])) (fun v H2 => v = .non ∧ Q (.ref x) H2) E) :
    wpAny (model X.prog X.w) X.A (call (.ref C) us (ks.zip ws)) (EP X pins σ Q) X.xe s := by
  have hq := h (s.heap.objs.size + 1) s.heap.objs.size (I.hok.fresh (Nat.le_succ _)) (I.hok.fresh (Nat.le_refl _)) (Nat.ne_of_lt (Nat.lt_succ_self _))
  have I2 := Inv.made (C := C) I
  have r1 : Vals (V.ref (s.heap.objs.size + 1) :: vs) (Value.ref (s.heap.objs.size + 1) :: us) := .cons rfl r
  have r2 := hb.rel r1 rz
  have n1 : (Value.ref (s.heap.objs.size + 1) :: us).length = n + 1 := by
    rw [List.length_cons, ← r.length, l1]
  refine wpAny_call (make_map (f := f) I.kIn M.makes M.init (beq_iff_eq.mp M.fn) (codeAny_mono (F.run _ X.stack _ _ ⟨Value.ref (s.heap.objs.size + 1) :: us, ks.zip ws⟩ (g (Value.ref (s.heap.objs.size + 1) :: us) ws) _ _ E (hr.make C us (ks.zip ws))
    (I2.env0.make C us (ks.zip ws)) (hb.to _ (Value.ref (s.heap.objs.size + 1) :: us) ws I2.kIn n1 (rz.length.symm.trans l2)) r2 hq) fun r s' hq' => ?_))
  cases r with
  | error e => exact hx pins _ _ e s' I2 hq'
  | ok fl =>
    cases fl with
    | ret u =>
      obtain ⟨v, H', I3, rv, ev, q3⟩ := I2.after hq'
      subst ev
      exact ⟨rv, ⟨V.ref (s.heap.objs.size + 1), H', I3, rfl, q3⟩⟩
    | next => exact False.elim hq'
    | brk => exact False.elim hq'
    | cont => exact False.elim hq'
/-- C(e, .., k = v, ..) -/
theorem pe_makeKS {ES : L2.St → XK} (M : Mk X.K C f) (F : FnOk X.prog X.w X.K X.mg X.base CX k f fd ps sp) (hr : Room (k + 1) X.A) (hg : Gl X x) (hm : X.mg x = some (.ref C)) (hb : KBn X.K fd ps (n + 1) ks g gV) (hx : ∀ σ, PassesAt CX X σ (ES σ)) (ha : PA X (e :: es) t) (hkw : PK X kws tk)
    (hall : (backToKw pos (keywordEach kws X.env)).all (·.1.isSome) = true := by rfl) (hks : (backToKw pos (keywordEach kws X.env)).filterMap (·.1) = ks := by rfl) (hdb : (x == ("__debug__" : Str)) = false := by decide)
    (he : starEach (e :: es) X.env = (false, eval e X.env) :: starEach es X.env := by rfl) (hpl : ((backTo pos (starEach (e :: es) X.env)).any (·.1) || (backToKw pos (keywordEach kws X.env)).any (·.1.isNone)) = false := by rfl) :
    PE X (.Call (.Name x p) (e :: es) kws pos) (fun σ H Q => tMakeK C n ks.length sp gV (ES σ) t tk σ H Q) := by
  refine ⟨fun pins s σ H Q I h => ?_⟩
  refine wpAny_Call_Name_kw (ld_glob I hg hm ?_ hdb)
  refine PySem.W.callWith_KW (h₀ := X.base) I.ok.mod.kin M.kp hall (thn (ha.run pos pins s σ H _ I h) fun us s1 ⟨vs, H1, I1, r, q⟩ => ?_) hpl he
  refine thn (hkw.run pos pins s1 σ H1 _ I1 q) fun ws s2 ⟨zs, H2, I2, rz, l1, l2, q2⟩ => ⟨I2.kIn, ?_⟩
  rw [hks]
  exact run_makeKS M F hr hb (hx σ) I2 r rz l1 l2 q2
/-- f"{x}", x an instance with an own __str__ -/
theorem pe_fmtO {j : Nat} {te : TE} (he : PE X e te) (F : FnOk X.prog X.w X.K X.mg X.base CX0 j f fd ["self"] sp) (hr : Room (j + 2) X.A) (hb : Binds X.K fd ["self"] []) (hs : PySem.W.findIn X.K (.ref C) "__str__" = some (some (.ref f))) (hf : PySem.W.isFn X.K (.ref f) = true)
    (hfm : PySem.W.findIn X.K (.ref C) "__format__" = some (some (.builtin "object.__format__"))) (hm : PySem.W.mroIn X.K C (.type "object") = some true) :
    PE X (.FormattedValue e (-1) none pos) (fun σ H Q => te σ H fun x H1 => ∃ a dx fs, x = .ref a ∧ H1 a = some (.ins C dx fs) ∧ sp [.ref a] H1 (fun v H2 => ∃ z : Str, v = .str z ∧ z.length ≤ sizeLine ∧ Q (.str z) H2) E0) := by
  refine ⟨fun pins s σ H Q I h => ?_⟩
  refine wpAny_FormattedValue_plain (thn (he.run pins s σ H _ I h) fun v s1 hv => ?_)
  obtain ⟨x, H1, I1, r1, a, dx, fs, rfl, ha, q⟩ := hv
  obtain rfl : v = Value.ref a := r1
  obtain ⟨mA, O, _⟩ := ins_get I1.hok ha
  obtain ⟨od, J, _⟩ := O.look
  refine PySem.W.kfo_fieldS hr.in1.units0 I1.kIn J hfm hm hs hf ?_
  refine wpAny_mono (run_at (E := E0) (E2 := X.xe) (vs := [.ref a]) (us := [.ref a]) (F.mono (Nat.le_refl _)) (hr.in1.mono (Nat.le_succ _)) (I1.tok _).env0.in1 hb (fun _ _ z => z.elim) (I1.tok _) (.cons rfl .nil) q) (fun u s2 hv => ?_) fun _ _ z => z
  obtain ⟨w, H2, I2, rv, z, rfl, _, q2⟩ := hv
  obtain ⟨tk, rfl⟩ := rv
  exact ⟨.str z, H2, I2, ⟨tk, rfl⟩, q2⟩
end
end Mz
set_option Elab.async false
set_option linter.all false
set_option maxRecDepth 100000
set_option maxHeartbeats 4000000
namespace Mz
open PySem PySem.Spec PyProof.Rows L2
theorem pos_len {z : Str} (h : ¬ z = "") : 0 < z.length := Nat.pos_of_ne_zero fun x => h (str_empty x)
theorem int_fits {i : Int} (h0 : 0 ≤ i) (h1 : i < 12) : i.natAbs.log2 < 1920 := by
  have h : i.natAbs < 2 ^ 4 := by omega
  exact Nat.lt_trans (PySem.Flt.log2_lt_of (by decide) h) (by decide)
theorem sm_str12 {i : Int} (h0 : 0 ≤ i) (h1 : i < 12) : Sm 100 (Str.ofString (toString i)) := by
  obtain ⟨k, rfl⟩ := Int.eq_ofNat_of_zero_le h0
  have hk : k < 12 := by omega
  have all : ∀ k : Fin 12, Sm 100 (Str.ofString (toString ((k.val : Nat) : Int))) := by
    unfold Sm
    decide +kernel
  exact all ⟨k, hk⟩
/-- repr of data or of a text with a dict -/
def rReprU (K : PySem.W.Frag) : List V → Hp → VK → Prop := fun xs H Q => rReprD K xs H Q ∨ rRepr2 xs H Q
theorem call_reprU {X : Cx} (g0 : X.A.guards = some []) (hu : X.A.units + 64 < cLine) : CallR X (.builtin "repr") (rReprU X.K) := by
  intro pins s σ H xs us Q I r h
  rcases h with h | h
  · exact call_reprD g0 hu pins s σ H xs us Q I r h
  · exact call_repr2 g0 hu pins s σ H xs us Q I r h
theorem list2_len (a b : Str) : (listText [a, b]).length = a.length + b.length + 4 := by
  show ((("[" ++ ((if 0 > 0 then ", " else "" : String) : Str) ++ a) ++ ((if 1 > 0 then ", " else "" : String) : Str) ++ b) ++ "]" : Str).length = _
  rw [if_neg (by decide), if_pos (by decide)]
  simp only [strLen_append]
  have e1 : (("[" : String) : Str).length = 1 := by decide +kernel
  have e2 : (("" : String) : Str).length = 0 := by decide +kernel
  have e3 : ((", " : String) : Str).length = 2 := by decide +kernel
  have e4 : (("]" : String) : Str).length = 1 := by decide +kernel
  rw [e1, e2, e3, e4]
  omega
theorem list3_len (a b c : Str) : (listText [a, b, c]).length = a.length + b.length + c.length + 6 := by
  show (((("[" ++ ((if 0 > 0 then ", " else "" : String) : Str) ++ a) ++ ((if 1 > 0 then ", " else "" : String) : Str) ++ b) ++ ((if 2 > 0 then ", " else "" : String) : Str) ++ c) ++ "]" : Str).length = _
  rw [if_neg (by decide), if_pos (by decide), if_pos (by decide)]
  simp only [strLen_append]
  have e1 : (("[" : String) : Str).length = 1 := by decide +kernel
  have e2 : (("" : String) : Str).length = 0 := by decide +kernel
  have e3 : ((", " : String) : Str).length = 2 := by decide +kernel
  have e4 : (("]" : String) : Str).length = 1 := by decide +kernel
  rw [e1, e2, e3, e4]
  omega
theorem repr_len {z : Str} {n : Nat} (h : Sm n z) : (reprText z).length ≤ 10 * n + 2 := by
  have h1 := StrLaws.reprText_len z fun c hc => Nat.lt_trans (strOk_iff.mp h.2 c hc) (by decide)
  have h2 := h.1
  omega
theorem kshift_text {k : Int} (h0 : -3 ≤ k) (h1 : k ≤ 3) : (Str.ofString (toString k)).length ≤ 10 := by
  have all : ∀ i : Fin 7, (Str.ofString (toString (((i.val : Nat) : Int) - 3))).length ≤ 10 := by decide +kernel
  obtain ⟨i, hi⟩ := Int.eq_ofNat_of_zero_le (show 0 ≤ k + 3 by omega)
  have e : k = ((i : Nat) : Int) - 3 := by omega
  rw [e]
  exact all ⟨i, by omega⟩
section
variable {P : Program} {w : World} {K : PySem.W.Frag} {mg : Str → Option Value} {base : Heap}
/-- _law_take of the text -/
structure Tk (P : Program) (w : World) (K : PySem.W.Frag) (mg : Str → Option Value) (base : Heap) (f : Addr) (fd : FuncData) : Prop where
  ok : FnOk P w K mg base CX0 1 f fd ["_law_box_here", "_law_many"] spTake
  m : mg "_law_take" = some (.ref f)
  k : PySem.W.keepIn K (.ref f) = true
  b : Binds K fd ["_law_box_here", "_law_many"] []
end
theorem Bx.same {H H' : Hp} {b : Addr} {n : Nat} (s : Same H H') (h : Bx H b n) : Bx H' b n := by
  obtain ⟨x, y, z, e, r⟩ := h
  exact ⟨x, y, z, s _ _ e, r⟩
theorem Kp.same {H H' : Hp} {b : Addr} (s : Same H H') : Kp b H H' := fun p o _ e => s p o e
theorem ty_at {K : PySem.W.Frag} {H H' : Hp} {v : V} {t : Value} (s : ∀ a, v = .ref a → ∀ o, H a = some o → H' a = some o) (h : TyX K H v t) : TyX K H' v t := by
  cases h with
  | base b =>
    cases b with
    | non => exact .base .non
    | bl x => exact .base (.bl x)
    | int i => exact .base (.int i)
    | str x => exact .base (.str x)
    | flt x => exact .base (.flt x)
    | lst e => exact .base (.lst (s _ rfl _ e))
    | frz e => exact .base (.frz (s _ rfl _ e))
    | tup e => exact .base (.tup (s _ rfl _ e))
    | dK e => exact .base (.dK (s _ rfl _ e))
    | dT e => exact .base (.dT (s _ rfl _ e))
    | ins e cl ha hn htk hm => exact .base (.ins (s _ rfl _ e) cl ha hn htk hm)
  | byt b => exact .byt b
  | set e => exact .set (s _ rfl _ e)
  | kList e c => exact .kList e c
  | kTuple e c => exact .kTuple e c
  | kDict e c => exact .kDict e c
  | fTuple e => exact .fTuple (s _ rfl _ e)
  | fDict e => exact .fDict (s _ rfl _ e)
theorem Kd.at {K : PySem.W.Frag} {H H' : Hp} {v : V} (s : ∀ a, v = .ref a → ∀ o, H a = some o → H' a = some o) (h : Kd K H v) : Kd K H' v := by
  cases h with
  | int i => exact .int i
  | bl b => exact .bl b
  | str z h ok => exact .str z h ok
  | non => exact .non
  | oth a t ty ki ks => exact .oth a t (ty_at s ty) ki ks
/-- data that holds no object, or a list or tuple of such -/
inductive Flt : V → PyData → Prop
  | non : Flt .non .none
  | bl (b : Bool) : Flt (.bl b) (.bool b)
  | int (i : Int) : Flt (.int i) (.int i)
  | str (x : Str) : Flt (.str x) (.str x)
inductive FltAll : List V → List PyData → Prop
  | nil : FltAll [] []
  | cons {v : V} {d : PyData} {vs : List V} {ds : List PyData} : Flt v d → FltAll vs ds → FltAll (v :: vs) (d :: ds)
inductive Fl (H : Hp) : V → PyData → Prop
  | flat {v : V} {d : PyData} (h : Flt v d) : Fl H v d
  | lst {a : Addr} {xs : List V} {ds : List PyData} (h : H a = some (.lst xs)) (f : FltAll xs ds) : Fl H (.ref a) (.list ds)
  | tup {a : Addr} {xs : List V} {ds : List PyData} (h : H a = some (.tup xs)) (f : FltAll xs ds) : Fl H (.ref a) (.tuple ds)
theorem Flt.dp {K : PySem.W.Frag} {H : Hp} {v : V} {d : PyData} (h : Flt v d) : Dp K H v d := by
  cases h with
  | non => exact .non
  | bl b => exact .bl b
  | int i => exact .int i
  | str x => exact .str x
theorem FltAll.dp {K : PySem.W.Frag} {H : Hp} : ∀ {vs : List V} {ds : List PyData}, FltAll vs ds → DpAll K H vs ds
  | _, _, .nil => .nil
  | _, _, .cons h r => .cons h.dp r.dp
theorem Fl.dp {K : PySem.W.Frag} {H : Hp} {v : V} {d : PyData} (h : Fl H v d) : Dp K H v d := by
  cases h with
  | flat h => exact h.dp
  | lst h f => exact .lst (SqL.of h) f.dp
  | tup h f => exact .tup (SqT.of h) f.dp
theorem Fl.at {H H' : Hp} {v : V} {d : PyData} (s : ∀ a, v = .ref a → ∀ o, H a = some o → H' a = some o) (h : Fl H v d) : Fl H' v d := by
  cases h with
  | flat h => exact .flat h
  | lst h f => exact .lst (s _ rfl _ h) f
  | tup h f => exact .tup (s _ rfl _ h) f
/-- what can be shown -/
def Fit (d : PyData) : Prop := PyData.showable d = true ∧ PyData.hasDict d = false ∧ PyData.depth d < 50 ∧ (PyData.shown d).length ≤ 2000
/-- data that is no text -/
def Fb (K : PySem.W.Frag) (H : Hp) (v : V) : Prop := (∃ d, Fl H v d ∧ Fit d ∧ SeqAt.shaped d = true ∧ PyData.eqv d (.str "") = false) ∧ Kd K H v ∧ ∀ z, v ≠ .str z
/-- a base -/
def Bs (K : PySem.W.Frag) (C : Addr) (H : Hp) (v : V) : Prop := (∃ z, v = .str z ∧ Sm 100 z) ∨ Fb K H v ∨ ∃ a, v = .ref a ∧ Pl C H a "n" 0
/-- a shift -/
def Sv (K : PySem.W.Frag) (H : Hp) (v : V) : Prop := (∃ d, Fl H v d ∧ Fit d) ∧ Kd K H v
section
variable {K : PySem.W.Frag} {C : Addr} {H H' : Hp} {v : V}
theorem Fb.at (s : ∀ a, v = .ref a → ∀ o, H a = some o → H' a = some o) (h : Fb K H v) : Fb K H' v := by
  obtain ⟨⟨d, h1, h2⟩, h3, h4⟩ := h
  exact ⟨⟨d, h1.at s, h2⟩, h3.at s, h4⟩
theorem Bs.at (s : ∀ a, v = .ref a → ∀ o, H a = some o → H' a = some o) (h : Bs K C H v) : Bs K C H' v := by
  rcases h with h | h | ⟨a, rfl, dx, ha⟩
  · exact .inl h
  · exact .inr (.inl (h.at s))
  · exact .inr (.inr ⟨a, rfl, dx, s a rfl _ ha⟩)
theorem Sv.at (s : ∀ a, v = .ref a → ∀ o, H a = some o → H' a = some o) (h : Sv K H v) : Sv K H' v := by
  obtain ⟨⟨d, h1, h2⟩, h3⟩ := h
  exact ⟨⟨d, h1.at s, h2⟩, h3.at s⟩
theorem Bs.same (s : Same H H') (h : Bs K C H v) : Bs K C H' v := h.at fun a _ o e => s a o e
theorem Sv.same (s : Same H H') (h : Sv K H v) : Sv K H' v := h.at fun a _ o e => s a o e
theorem Bs.kp {b : Addr} (s : Kp b H H') (n : ∀ a, v = .ref a → a ≠ b) (h : Bs K C H v) : Bs K C H' v := h.at fun a e o ho => s a o (n a e) ho
theorem str_ext {a b : Str} (h : a.cps.toList = b.cps.toList) : a = b := by
  obtain ⟨x⟩ := a
  obtain ⟨y⟩ := b
  have e : x = y := Array.toList_inj.mp h
  rw [e]
theorem app_list (a b : Str) : (a ++ b).cps.toList = a.cps.toList ++ b.cps.toList := by
  show (a.cps ++ b.cps).toList = _
  rw [Array.toList_append]
theorem nil_list : ("" : Str).cps.toList = [] := by decide +kernel

def baseOk : V → Bool
  | .str z => decide (z = "") || nameS z
  | _ => false
end
/-- a value held against "" -/
def rNeU (K : PySem.W.Frag) (C : Addr) (sp : Sp) : R2 := fun x y H Q => rNe x y H Q ∨ rNeD K x y H Q ∨ ∃ a dx fs, x = .ref a ∧ H a = some (.ins C dx fs) ∧ Oth K C H y ∧ sp [.ref a, y] H (fun v H2 => ∃ b : Bool, v = .bl b ∧ Q (.bl (!b)) H2) E0
theorem op_neU {X : Cx} {k : Nat} {f C : Addr} {fd : FuncData} {ps : List Str} {sp : Sp} (F : FnOk X.prog X.w X.K X.mg X.base CX0 k f fd ps sp) (hr : Room (k + 1) X.A) (hb : Binds X.K fd ps []) (hs : PySem.W.findIn X.K (.ref C) "__eq__" = some (some (.ref f))) (hf : PySem.W.isFn X.K (.ref f) = true)
    (hn : PySem.W.findIn X.K (.ref C) "__ne__" = some (some (.builtin "object.__ne__"))) (hm : PySem.W.mroIn X.K C (.type "object") = some true) : OpR X (compareOp .NotEq) (rNeU X.K C sp) := by
  intro pins s σ H x y v u Q I rx ry h
  rcases h with h | h | h
  · exact op_ne pins s σ H x y v u Q I rx ry h
  · exact op_neD hr.units pins s σ H x y v u Q I rx ry h
  · exact op_neO F hr hb hs hf hn hm pins s σ H x y v u Q I rx ry h
section
variable {K : PySem.W.Frag} {C : Addr} {H : Hp} {v : V} {Q : VK}
theorem shaped_empty : SeqAt.shaped (.str "") = true := by decide +kernel
/-- what is no text is unlike "" -/
theorem Bs.ne (Y : Pty K C) (N : Npl K C) (h : Bs K C H v) : (∃ z, v = .str z ∧ Sm 100 z) ∨ ((∀ z, v ≠ .str z) ∧ ∀ Q : VK, Q (.bl true) H → rNeU K C (spEq K C) v (.str "") H Q) := by
  rcases h with h | ⟨⟨d, h1, h2, h3, h4⟩, h5, h6⟩ | ⟨a, rfl, pa⟩
  · exact .inl h
  · refine .inr ⟨h6, fun Q q => .inr (.inl ⟨d, .str "", h1.dp, .str "", h3, shaped_empty, ?_⟩)⟩
    rw [h4]
    exact q
  · obtain ⟨dx, ha⟩ := id pa
    exact .inr ⟨fun z e => (nomatch e), fun Q q => .inr (.inr ⟨a, dx, _, rfl, ha, ⟨_, .base (.str ""), by simp [PySem.W.notFirst]; rfl⟩, a, "n", 0, pa, .inr ⟨_, rfl, ⟨_, .base (.str ""), N.str⟩, false, rfl, q⟩⟩)⟩
theorem Bs.kd (Y : Pty K C) (ki : PySem.W.kitOne K (.ref C) (.type "int") = some false) (ks : PySem.W.kitOne K (.ref C) (.type "str") = some false) (h : Bs K C H v) : Kd K H v := by
  rcases h with ⟨z, rfl, h⟩ | ⟨_, h, _⟩ | ⟨a, rfl, pa⟩
  · exact .str z (Nat.le_trans h.1 (by decide)) h.2
  · exact h
  · exact .oth a _ (pa.ty Y) ki ks
end
end Mz
set_option Elab.async false
set_option linter.all false
set_option maxRecDepth 100000
set_option maxHeartbeats 4000000
namespace Mz
open PySem PySem.Spec PyProof.Rows L2
/-- Place.of, as the text has it -/
structure OfM (P : Program) (w : World) (K : PySem.W.Frag) (mg : Str → Option Value) (base : Heap) (C cX po f : Addr) (fd : FuncData) : Prop where
  ok : FnOk P w K mg base (L2.CX P w) 5 f fd ["cls", "value"] (spOf K C cX)
  rd : ClX.CRead K C (.type "type")
  met : ClX.CMet K C (.type "type") "of" po f
  b : Binds K fd ["cls", "value"] []
section
variable {P : Program} {w : World} {K : PySem.W.Frag} {mg : Str → Option Value} {base : Heap}
theorem scXinitI : FnScope ["self", "value"] ["self", "value"] (defScope (inClass sInvInt 0)) := ⟨rfl, rfl, rfl, by decide +kernel, rfl, by decide +kernel, by decide +kernel⟩
theorem ok_xinitI {f C cM : Addr} {fd : FuncData} (F : Fun K "__init__" "InvalidInteger.__init__" (inClass sInvInt 0) f fd) (T : Xcl K mg "InvalidInteger" C "value") (mM : mg "MapError" = some (.ref cM)) (rd : ClX.CRead K cM (.type "type"))
    (fc : PySem.W.findCls K (.ref cM) (.type "type") "__init__" = some (.val (.builtin "ValueError.__init__"))) : FnOk P w K mg base CX0 1 f fd ["self", "value"] (spX1 K C "value") := by
  refine F.ok scXinitI (fun vs H Q E h => ?_) (fun cdv A outer s H vs Q E hr h => ?_)
  · obtain ⟨a, v, rfl, _⟩ := h
    rfl
  · obtain ⟨a, v, rfl, ha, q⟩ := h
    refine ⟨_, pss_cons (ps_expr (pe_meinit (by rfl) mM rd fc (pa_cons (pv 0) (pa_cons pe_str pa_nil)))) (pss_one (ps_ost (pv 0) (pv 1))), ?_⟩
    refine ⟨_, rfl, a, C, _, rfl, (by show 1 ≤ 1000; decide), T.ox, ha, ?_⟩
    exact ⟨_, rfl, _, rfl, a, C, rfl, T.ox, T.no, .inl ⟨ha, fun dx n1 n2 => q dx n1 n2⟩⟩
theorem scXinitS : FnScope ["self", "value"] ["self", "value"] (defScope (inClass sInvSet 0)) := ⟨rfl, rfl, rfl, by decide +kernel, rfl, by decide +kernel, by decide +kernel⟩
theorem ok_xinitS {f C cM : Addr} {fd : FuncData} (F : Fun K "__init__" "InvalidSetting.__init__" (inClass sInvSet 0) f fd) (T : Xcl K mg "InvalidSetting" C "value") (mM : mg "MapError" = some (.ref cM)) (rd : ClX.CRead K cM (.type "type"))
    (fc : PySem.W.findCls K (.ref cM) (.type "type") "__init__" = some (.val (.builtin "ValueError.__init__"))) : FnOk P w K mg base CX0 1 f fd ["self", "value"] (spX1 K C "value") := by
  refine F.ok scXinitS (fun vs H Q E h => ?_) (fun cdv A outer s H vs Q E hr h => ?_)
  · obtain ⟨a, v, rfl, _⟩ := h
    rfl
  · obtain ⟨a, v, rfl, ha, q⟩ := h
    refine ⟨_, pss_cons (ps_expr (pe_meinit (by rfl) mM rd fc (pa_cons (pv 0) (pa_cons pe_str pa_nil)))) (pss_one (ps_ost (pv 0) (pv 1))), ?_⟩
    refine ⟨_, rfl, a, C, _, rfl, (by show 1 ≤ 1000; decide), T.ox, ha, ?_⟩
    exact ⟨_, rfl, _, rfl, a, C, rfl, T.ox, T.no, .inl ⟨ha, fun dx n1 n2 => q dx n1 n2⟩⟩
/-- an exception of one field made -/
theorem mko_x1 {K : PySem.W.Frag} {cE : Addr} {i : Nat} {u : V} {σ : L2.St} {H1 : Hp} {E : XK} (hi : σ[i]? = some (some u)) (q : ∀ d H', H1 d = none → Same H1 H' → H' d = some (.xd [("value", u)]) → E (.ref cE) (some d) H') : tMkO cE (spX1 K cE "value") [] (tCons (tVar i) tNil) σ H1 E := by
  refine ⟨_, hi, (by show 1 ≤ 1000; decide), fun a na => ⟨a, u, rfl, upd_same, fun dx n1 n2 => ⟨rfl, dx, [("value", u)], upd_same, ?_, ?_, ?_⟩⟩⟩
  · rw [upd_ne n2, upd_same]
  · rw [upd_ne n2] at n1
    exact n1
  · have n3 : H1 dx = none := by
      rw [upd_ne n2] at n1
      exact n1
    refine q dx _ n3 (fun b o hb => ?_) upd_same
    have x1 : b ≠ dx := ne_of_none hb n3
    have x2 : b ≠ a := ne_of_none hb na
    rw [upd_ne x1, del_ne x2, upd_ne x2, upd_ne x1, upd_ne x2]
    exact hb
end
/-! settings -/
/-- an integer from lo on -/
def fromB (lo : Int) : V → Bool
  | .int i => decide (lo ≤ i)
  | _ => false
def spIsFrom (K : PySem.W.Frag) : Sp := fun vs H Q _ => ∃ v lo, vs = [v, .int lo] ∧ Kd K H v ∧ Q (.bl (fromB lo v)) H
/-- a key and a value of a dict that is given -/
def KvOk (K : PySem.W.Frag) (H : Hp) (kv : Key × V) : Prop := (∀ z, kv.1 = .inr z → Sm 1000 z) ∧ Kd K H kv.2
def kvB (kv : Key × V) : Bool := nameV (kV kv.1) && fromB 0 kv.2
/-- sizes -/
def sizesB (kvs : List (Key × V)) : Bool := decide (kvs.length ≤ 2) && kvs.all kvB
/-- what is given as sizes: a dict or none -/
def Gv (K : PySem.W.Frag) (H : Hp) (v : V) (r : Option (Addr × List (Key × V))) : Prop := (r = none ∧ ∃ t, TyX K H v t ∧ PySem.W.kitOne K t (.type "dict") = some false) ∨ ∃ a kvs, r = some (a, kvs) ∧ v = .ref a ∧ H a = some (.dK kvs) ∧ ∀ kv ∈ kvs, KvOk K H kv ∧ kv.2 ≠ .ref a
def givenB : Option (Addr × List (Key × V)) → Bool
  | none => false
  | some r => sizesB r.2
def spAre (K : PySem.W.Frag) : Sp := fun vs H Q _ => ∃ v r, vs = [v] ∧ Gv K H v r ∧ ∀ H', Same H H' → Q (.bl (givenB r)) H'
def stF (d : Addr) (pg : Int) : List (Str × V) := putF "_page" (.int pg) (putF "_sizes" (.ref d) [])
theorem stF_sizes {d : Addr} {pg : Int} : (stF d pg).lookup ("_sizes" : Str) = some (.ref d) := by
  unfold stF
  rw [lookup_putF, if_neg (by decide +kernel), lookup_putF, if_pos rfl]
theorem stF_page {d : Addr} {pg : Int} : (stF d pg).lookup ("_page" : Str) = some (.int pg) := by
  unfold stF
  rw [lookup_putF, if_pos rfl]
/-- a setting -/
def Stg (S : Addr) (H : Hp) (s : Addr) (kvs : List (Key × V)) (pg : Int) : Prop := ∃ dx d, H s = some (.ins S dx (stF d pg)) ∧ H d = some (.dK kvs)
structure Scl (K : PySem.W.Frag) (mg : Str → Option Value) (S : Addr) : Prop where
  cl : Cls K S
  nZ : NoAttr K S "_sizes"
  nP : NoAttr K S "_page"
  mgS : mg "Setting" = some (.ref S)
theorem Stg.same {S s : Addr} {H H' : Hp} {kvs : List (Key × V)} {pg : Int} (m : Same H H') (h : Stg S H s kvs pg) : Stg S H' s kvs pg := by
  obtain ⟨dx, d, h1, h2⟩ := h
  exact ⟨dx, d, m _ _ h1, m _ _ h2⟩
/-- a setting just made: its dict is new -/
def StgN (S : Addr) (H0 H : Hp) (s : Addr) (kvs : List (Key × V)) (pg : Int) : Prop := ∃ dx d, H s = some (.ins S dx (stF d pg)) ∧ H d = some (.dK kvs) ∧ H0 d = none
theorem StgN.stg {S s : Addr} {H0 H : Hp} {kvs : List (Key × V)} {pg : Int} (h : StgN S H0 H s kvs pg) : Stg S H s kvs pg := by
  obtain ⟨dx, d, h1, h2, _⟩ := h
  exact ⟨dx, d, h1, h2⟩
def spInitS (K : PySem.W.Frag) (S cS cI : Addr) : Sp := fun vs H Q E => ∃ p dx v m r, vs = [.ref p, v, m] ∧ H p = some (.ins S dx []) ∧ Gv K H v r ∧ Kd K H m ∧
  ((givenB r = true ∧ ∃ pg, m = .int pg ∧ 1 ≤ pg ∧ ∀ H', (∀ q o, q ≠ p → H q = some o → H' q = some o) → (∀ a kvs, r = some (a, kvs) → StgN S H H' p kvs pg) → Q .non H') ∨
    (givenB r = false ∧ ∀ d H', H d = none → Same H H' → H' d = some (.xd [("value", v)]) → E (.ref cS) (some d) H') ∨
    (givenB r = true ∧ fromB 1 m = false ∧ ∀ d H', H d = none → Same H H' → H' d = some (.xd [("value", m)]) → E (.ref cI) (some d) H'))
/-- the value of a place -/
def wtK (kvs : List (Key × V)) (z : Str) (k : Int) : Option Int := if z = "" then some k else match valV kvs (.inr z) with
  | some (.int n) => some (n + k)
  | _ => none
/-- what a value stands for, as a place: its value at a setting -/
def PlV (K : PySem.W.Frag) (C : Addr) (H : Hp) (kvs : List (Key × V)) (v : V) (wt : Option Int) : Prop :=
  (∃ a z k, v = .ref a ∧ Pl C H a z k ∧ wt = wtK kvs z k) ∨ (NoPl K C H v ∧ wt = (ofV v).bind fun x => wtK kvs x.1 x.2)
def KInt (kvs : List (Key × V)) : Prop := ∀ z v, valV kvs (.inr z) = some v → ∃ n, v = .int n
def spGetS (K : PySem.W.Frag) (S C cX : Addr) : Sp := fun vs H Q E => ∃ s v kvs pg wt, vs = [.ref s, v] ∧ Stg S H s kvs pg ∧ KInt kvs ∧ PlV K C H kvs v wt ∧ (∀ n, wt = some n → ∀ H', Same H H' → Q (.int n) H') ∧
  (wt = none → ∀ d H', H d = none → Same H H' → H' d = some (.xd [("value", v)]) → E (.ref cX) (some d) H')
def spSameS (K : PySem.W.Frag) (S C cX : Addr) : Sp := fun vs H Q E => ∃ s v u kvs pg wv wu, vs = [.ref s, v, u] ∧ Stg S H s kvs pg ∧ KInt kvs ∧ 0 < pg ∧ pg.natAbs.log2 < 9000 ∧ PlV K C H kvs v wv ∧ PlV K C H kvs u wu ∧
  (∀ n m, wv = some n → wu = some m → ∀ H', Same H H' → Q (.bl (decide (n / pg = m / pg))) H') ∧
  (wv = none → ∀ d H', H d = none → Same H H' → H' d = some (.xd [("value", v)]) → E (.ref cX) (some d) H') ∧
  (∀ n, wv = some n → wu = none → ∀ d H', H d = none → Same H H' → H' d = some (.xd [("value", u)]) → E (.ref cX) (some d) H')
section
variable {P : Program} {w : World} {K : PySem.W.Frag} {mg : Str → Option Value} {base : Heap}
theorem scIsFrom : FnScope ["value", "low"] ["value", "low"] (defScope sIsFrom) := ⟨rfl, rfl, rfl, by decide +kernel, rfl, by decide +kernel, by decide +kernel⟩
theorem ok_isFrom {f f1 : Addr} {fd fd1 : FuncData} (F : Fun K "is_integer_from" "is_integer_from" sIsFrom f fd) (G : FnOk P w K mg base CX0 1 f1 fd1 ["value"] (spWhole K)) (m1 : mg "_is_whole" = some (.ref f1)) (k1 : PySem.W.keepIn K (.ref f1) = true) (b1 : Binds K fd1 ["value"] []) :
    FnOk P w K mg base CX0 2 f fd ["value", "low"] (spIsFrom K) := by
  refine F.ok scIsFrom (fun vs H Q E h => ?_) (fun cdv A outer s H vs Q E hr h => ?_)
  · obtain ⟨v, lo, rfl, _⟩ := h
    rfl
  · obtain ⟨v, lo, rfl, hk, q⟩ := h
    refine ⟨_, pss_one (ps_ret (pe_and (pe_call G hr (by rfl) m1 k1 b1 .nil pass0 (pa_cons (pv 0) pa_nil)) (pe_one (pe_cmpR op_le (pv 1) (pv 0) (nomark _))))), ?_⟩
    refine ⟨_, rfl, v, rfl, hk, _, rfl, ?_⟩
    cases hk with
    | int i => exact iteT ⟨_, rfl, _, rfl, _, _, rfl, rfl, q⟩
    | bl b => exact iteF q
    | str z _ _ => exact iteF q
    | non => exact iteF q
    | oth a t ty ki ks => exact iteF q
theorem scAre : FnScope ["value", "name", "size"] ["value"] (defScope sAreSizes) := ⟨rfl, rfl, rfl, by decide +kernel, rfl, by decide +kernel, by decide +kernel⟩
theorem ok_are {f f1 f2 : Addr} {fd fd1 fd2 : FuncData} {t : Tok} (F : Fun K "_are_sizes" "_are_sizes" sAreSizes f fd) (B : Blt mg) (D : Blp mg) (mDct : mg "dict" = none) (mU : mg "MOST_UNKNOWNS" = some (.int 2 t))
    (G1 : FnOk P w K mg base CX0 1 f1 fd1 ["value"] (spIsName K)) (m1 : mg "is_name" = some (.ref f1)) (k1 : PySem.W.keepIn K (.ref f1) = true) (b1 : Binds K fd1 ["value"] [])
    (G2 : FnOk P w K mg base CX0 2 f2 fd2 ["value", "low"] (spIsFrom K)) (m2 : mg "is_integer_from" = some (.ref f2)) (k2 : PySem.W.keepIn K (.ref f2) = true) (b2 : Binds K fd2 ["value", "low"] []) :
    FnOk P w K mg base CX0 3 f fd ["value"] (spAre K) := by
  refine F.ok scAre (fun vs H Q E h => ?_) (fun cdv A outer s H vs Q E hr h => ?_)
  · obtain ⟨v, r, rfl, _⟩ := h
    rfl
  · obtain ⟨v, r, rfl, hv, q⟩ := h
    have nd := scAre.nd
    have hr1 : Room 1 _ := hr.mono (by decide)
    refine ⟨_, pss_cons (ps_if (PW.pt (pw_or (pt_not (pt_val (pe_callB call_isi (by rfl) D.isi (by decide +kernel) (pa_cons (pv 0) (pa_cons (pe_bltn (v := .ty "dict") (by rfl) mDct (by decide +kernel) rfl) pa_nil)))))
        (pw_or1 (pt_cmpR op_gt (pe_callB call_lenD (by rfl) B.len PySem.boot_len (pa_cons (pv 0) pa_nil)) (pe_glob (v := .int 2) rfl mU ⟨_, rfl⟩) (nomark _))))) (pss_one (ps_ret pe_bl)) pss_nil)
      (pss_one (ps_ret (pe_callB (cr_all rfl) (by rfl) D.all (by decide +kernel) (pa_cons (pe_lock (pe_lc (own := [("name", 1), ("size", 2)]) (g := gTup K 2 (gCons (gName 1) (gCons (gName 2) gNil))) (tt := tYes) rfl nd (pi_items (pv 0)) (blkOk_by (N := ["value", "name", "size"]) (sc := defScope sAreSizes) (by decide +kernel))
        (fun _ _ _ _ _ => pg_tup (by rfl) (pgs_cons (pg_name (i := 1) nd rfl (Or.inl rfl)) (pgs_cons (pg_name (i := 2) nd rfl (Or.inl rfl)) pgs_nil))) (fun _ _ _ _ _ => pts_nil)
        (fun _ _ _ _ _ => pe_and (pe_call G1 hr1 (by rfl) m1 k1 b1 .nil pass0 (pa_cons (pv 1) pa_nil)) (pe_one (pe_call G2 hr (by rfl) m2 k2 b2 .nil pass0 (pa_cons (pv 2) (pa_cons pe_int pa_nil))))))) pa_nil)))), ?_⟩
    refine ⟨_, rfl, ?_⟩
    rcases hv with ⟨rfl, t0, ty, kt⟩ | ⟨a, kvs, rfl, rfl, ha, hall⟩
    · exact ⟨_, _, _, _, false, rfl, .ty _, ty, kt, false, rfl, iteT (iteT (q H (Same.refl H)))⟩
    · refine ⟨_, _, _, _, true, rfl, .ty _, .base (.dK ha), kit_ty (by decide +kernel), true, rfl, iteF ?_⟩
      refine ⟨_, rfl, a, kvs, rfl, ha, _, _, rfl, rfl, _, rfl, ite2 (fun hc => ?_) (fun hc => ?_)⟩
      · have h2 : (2 : Int) < (kvs.length : Int) := of_decide_eq_true hc
        have e : givenB (some (a, kvs)) = false := by
          show (decide (kvs.length ≤ 2) && _) = false
          rw [decide_eq_false (by omega), Bool.false_and]
        rw [e] at q
        exact q H (Same.refl H)
      · have h2 : ¬ (2 : Int) < (kvs.length : Int) := fun x => hc (decide_eq_true x)
        refine ⟨a, .dK kvs, ha, trivial, fun od => ⟨_, rfl, a, od, kvs, rfl, upd_same, fun D nD => ?_⟩⟩
        have la : upd H a (.frz od (.dK kvs)) a = some (.frz od (.dK kvs)) := upd_same
        have lo : ∀ r o, r ≠ a → H r = some o → upd H a (.frz od (.dK kvs)) r = some o := fun r o n e => by
          rw [upd_ne n]
          exact e
        have nDH : H D = none := by
          cases e : H D with
          | none => rfl
          | some o =>
            by_cases x : D = a
            · subst x
              rw [la] at nD
              cases nD
            · rw [lo D o x e] at nD
              cases nD
        generalize upd H a (.frz od (.dK kvs)) = Hl at la lo nD
        have aD : a ≠ D := fun x => by
          rw [← x, la] at nD
          cases nD
        refine lc_it (walk_items (kvs := kvs)) (fun i H' => Kp D Hl H' ∧ H' D = some (.lst (((kvs.take i).map kvB).map V.bl))) ⟨Kp.fresh nD, upd_same⟩ (fun i H' _ h => h.1 _ _ aD la) ?_ ?_
        · rintro i x H0 H' hi ⟨kp, hD⟩ ⟨T, x1, y1, rfl, nT, rfl, e1, e2⟩
          have hkv : kvs[i]? = some kvs[i] := List.getElem?_eq_getElem hi
          have e1 : (kvs[i]?).map (fun kv => kV kv.1) = some x1 := e1
          have e2 : (kvs[i]?).map Prod.snd = some y1 := e2
          rw [hkv] at e1 e2
          cases e1
          cases e2
          obtain ⟨⟨hk1, hk2⟩, hka⟩ := hall _ (List.getElem_mem hi)
          have TD : T ≠ D := fun x => by
            rw [x, hD] at nT
            cases nT
          have sT : Same H0 (upd H0 T (.tup [kV kvs[i].1, kvs[i].2])) := same_nw nT
          have tT : upd H0 T (.tup [kV kvs[i].1, kvs[i].2]) T = some (.tup [kV kvs[i].1, kvs[i].2]) := upd_same
          generalize upd H0 T (.tup [kV kvs[i].1, kvs[i].2]) = H1 at sT tT
          have kd1 : Kd K H1 (kV kvs[i].1) := by
            cases e : kvs[i].1 with
            | inl n => exact .int n
            | inr z =>
              have h := hk1 z e
              exact .str z h.1 h.2
          refine ⟨T, _, rfl, SqT.of tT, rfl, _, _, rfl, _, _, rfl, rfl, ?_⟩
          refine ⟨rfl, ?_⟩
          unfold tYes
          have fin : ∀ (b : Bool) (H2 : Hp), b = kvB kvs[i] → Same H1 H2 → ∃ acc, H2 D = some (.lst acc) ∧ acc.length < sizeLine ∧ (Kp D Hl (upd H2 D (.lst (acc ++ [V.bl b]))) ∧ upd H2 D (.lst (acc ++ [V.bl b])) D = some (.lst (((kvs.take (i + 1)).map kvB).map V.bl))) := by
            intro b H2 eb s2
            refine ⟨_, s2 _ _ (sT _ _ hD), ?_, ?_, ?_⟩
            · rw [List.length_map, List.length_map, List.length_take]
              have h3 : 10 ≤ sizeLine := by decide
              omega
            · intro r o n e
              rw [upd_ne n]
              exact s2 _ _ (sT _ _ (kp r o n e))
            · rw [upd_same, List.take_succ, hkv, List.map_append, List.map_append, eb]
              rfl
          refine iteT ⟨_, rfl, kV kvs[i].1, rfl, kd1, fun H2 s2 => ⟨_, rfl, ?_⟩⟩
          cases hn : nameV (kV kvs[i].1) with
          | false => exact iteF (fin false H2 (by show _ = (_ && _); rw [hn]; rfl) s2)
          | true =>
            have kd2 : Kd K H2 kvs[i].2 := hk2.at fun r e o ho => by
              have n : r ≠ a := fun x => hka (by rw [e, x])
              exact s2 _ _ (sT _ _ (kp r o (fun z => by rw [z, nDH] at ho; cases ho) (lo r o n ho)))
            exact iteT ⟨_, rfl, kvs[i].2, 0, rfl, kd2, fin _ H2 (by show _ = (_ && _); rw [hn]; rfl) s2⟩
        · rintro H' ⟨kp, hD⟩
          rw [List.take_length] at hD
          refine ⟨kp _ _ aD la, D, kvs.map kvB, rfl, SqL.of (by rw [upd_ne aD.symm]; exact hD), ?_⟩
          have e : givenB (some (a, kvs)) = (kvs.map kvB).all id := by
            show (decide (kvs.length ≤ 2) && kvs.all kvB) = _
            rw [decide_eq_true (by omega), List.all_map]
            rfl
          rw [← e]
          refine q _ fun r o ho => ?_
          by_cases x : r = a
          · subst x
            rw [ha] at ho
            cases ho
            exact upd_same
          · rw [upd_ne x]
            exact kp r o (fun z => by rw [z, nDH] at ho; cases ho) (lo r o x ho)
end
end Mz
set_option Elab.async false
set_option linter.all false
set_option maxRecDepth 100000
set_option maxHeartbeats 4000000
namespace Mz
open PySem PySem.Spec PyProof.Rows L2
theorem Oty.same {K : PySem.W.Frag} {C : Addr} {H H' : Hp} {v : V} (s : Same H H') (h : Oty K C H v) : Oty K C H' v := by
  obtain ⟨t, ty, k⟩ := h
  exact ⟨t, ty_at (fun a _ o e => s a o e) ty, k⟩
theorem Kd.same {K : PySem.W.Frag} {H H' : Hp} {v : V} (s : Same H H') (h : Kd K H v) : Kd K H' v := h.at fun a _ o e => s a o e
theorem PlV.same {K : PySem.W.Frag} {C : Addr} {H H' : Hp} {kvs : List (Key × V)} {v : V} {wt : Option Int} (s : Same H H') (h : PlV K C H kvs v wt) : PlV K C H' kvs v wt := by
  rcases h with ⟨a, z, k, e, ⟨dx, pa⟩, ew⟩ | ⟨⟨k, o⟩, e⟩
  · exact .inl ⟨a, z, k, e, ⟨dx, s _ _ pa⟩, ew⟩
  · exact .inr ⟨⟨k.same s, o.same s⟩, e⟩
section
variable {P : Program} {w : World} {K : PySem.W.Frag} {mg : Str → Option Value} {base : Heap}
theorem scInitS : FnScope ["self", "sizes", "page"] ["self", "sizes", "page"] (defScope (inClass sSetting 0)) := ⟨rfl, rfl, rfl, by decide +kernel, rfl, by decide +kernel, by decide +kernel⟩
theorem ok_initS {f f1 f2 fS fI S cS cI : Addr} {fd fd1 fd2 fdS fdI : FuncData} {dvs : List V} {kws : List (Str × V)} {pa : Arguments} (F : FunD K "__init__" "Setting.__init__" pa (defBody (inClass sSetting 0)) (defScope (inClass sSetting 0)) dvs kws f fd) (T : Scl K mg S) (mDct : mg "dict" = none)
    (G1 : FnOk P w K mg base CX0 3 f1 fd1 ["value"] (spAre K)) (m1 : mg "_are_sizes" = some (.ref f1)) (k1 : PySem.W.keepIn K (.ref f1) = true) (b1 : Binds K fd1 ["value"] [])
    (G2 : FnOk P w K mg base CX0 2 f2 fd2 ["value", "low"] (spIsFrom K)) (m2 : mg "is_integer_from" = some (.ref f2)) (k2 : PySem.W.keepIn K (.ref f2) = true) (b2 : Binds K fd2 ["value", "low"] [])
    (TS : Xcl K mg "InvalidSetting" cS "value") (GS : FnOk P w K mg base CX0 1 fS fdS ["self", "value"] (spX1 K cS "value")) (iS : PySem.W.findIn K (.ref cS) "__init__" = some (some (.ref fS))) (tS : PySem.W.typeIn K (.ref fS) = some (.type "function")) (bS : Binds K fdS ["self", "value"] [])
    (TI : Xcl K mg "InvalidInteger" cI "value") (GI : FnOk P w K mg base CX0 1 fI fdI ["self", "value"] (spX1 K cI "value")) (iI : PySem.W.findIn K (.ref cI) "__init__" = some (some (.ref fI))) (tI : PySem.W.typeIn K (.ref fI) = some (.type "function")) (bI : Binds K fdI ["self", "value"] []) :
    FnOk P w K mg base (L2.CX P w) 4 f fd ["self", "sizes", "page"] (spInitS K S cS cI) := by
  refine F.ok (CX := L2.CX P w) scInitS (fun vs H Q E h => ?_) (fun cdv A outer s H vs Q E hr h => ?_)
  · obtain ⟨p, dx, v, m, r, rfl, _⟩ := h
    rfl
  · obtain ⟨p, dx, v, m, r, rfl, hp, hv, hm, h⟩ := h
    refine ⟨_, pss_cons (ps_if (pt_not (pt_val (pe_call G1 hr (by rfl) m1 k1 b1 .nil pass0 (pa_cons (pv 1) pa_nil)))) (pss_one (ps_raise rfl (takes_of rfl rfl rfl rfl) (pmk_oex TS.ox iS tS GS (hr.mono (by decide)) bS .nil pass0 (by rfl) TS.m (pa_cons (pv 1) pa_nil)))) pss_nil)
      (pss_cons (ps_if (pt_not (pt_val (pe_call G2 (hr.mono (by decide)) (by rfl) m2 k2 b2 .nil pass0 (pa_cons (pv 2) (pa_cons pe_int pa_nil))))) (pss_one (ps_raise rfl (takes_of rfl rfl rfl rfl) (pmk_oex TI.ox iI tI GI (hr.mono (by decide)) bI .nil pass0 (by rfl) TI.m (pa_cons (pv 2) pa_nil)))) pss_nil)
      (pss_cons (ps_fld (pv 0) (pe_callTy call_dictD (by rfl) mDct (by decide +kernel) (pa_cons (pv 1) pa_nil)) rfl) (pss_one (ps_fld (pv 0) (pv 2) rfl)))), ?_⟩
    refine ⟨_, rfl, v, r, rfl, hv, fun H1 s1 => ⟨_, rfl, ?_⟩⟩
    have hp1 := s1 _ _ hp
    rcases h with ⟨e, pg, rfl, hpg, q⟩ | ⟨e, q⟩ | ⟨e, e2, q⟩
    · rw [e]
      refine iteF ⟨_, rfl, _, 1, rfl, .int pg, _, rfl, ?_⟩
      have e1 : fromB 1 (.int pg) = true := decide_eq_true hpg
      rw [e1]
      rcases hv with ⟨rfl, _⟩ | ⟨a, kvs, rfl, rfl, ha, _⟩
      · cases e
      · refine iteF ⟨_, rfl, a, kvs, rfl, .inl (s1 _ _ ha), fun d nd => ?_⟩
        have dp : d ≠ p := (ne_of_none hp1 nd).symm
        have ep : (upd H1 d (.dK kvs)) p = some (.ins S dx []) := by
          rw [upd_ne dp.symm]
          exact hp1
        refine ⟨_, rfl, p, S, dx, [], rfl, ep, T.cl, T.nZ, (by show 0 < 1000; decide), _, rfl, _, rfl, p, S, dx, _, rfl, upd_same, T.cl, T.nP, (by show 1 < 1000; decide), ?_⟩
        rw [upd_upd]
        refine q _ (fun b o n hb => ?_) fun a2 k2 e2 => ?_
        · rw [upd_ne n, upd_ne (ne_of_none (s1 _ _ hb) nd)]
          exact s1 _ _ hb
        · cases e2
          exact ⟨dx, d, upd_same, (by rw [upd_ne dp]; exact upd_same), s1.free nd⟩
    · rw [e]
      exact iteT (mko_x1 rfl fun d H' nd s2 hd => q d H' (s1.free nd) (s1.trans s2) hd)
    · rw [e]
      refine iteF ⟨_, rfl, m, 1, rfl, hm.same s1, _, rfl, ?_⟩
      rw [e2]
      exact iteT (mko_x1 rfl fun d H' nd s2 hd => q d H' (s1.free nd) (s1.trans s2) hd)
theorem scGetS : FnScope ["self", "at", "place"] ["self", "at"] (defScope (inClass sSetting 3)) := ⟨rfl, rfl, rfl, by decide +kernel, rfl, by decide +kernel, by decide +kernel⟩
theorem ok_getS {f fO fX C S cX po gb gs pb ps_ : Addr} {fd fdO fdX fdb fds : FuncData} (F : Fun K "__getitem__" "Setting.__getitem__" (inClass sSetting 3) f fd) (Z : Cpl K mg C) (T : Scl K mg S) (O : OfM P w K mg base C cX po fO fdO)
    (TX : Xcl K mg "InvalidPlace" cX "value") (GX : FnOk P w K mg base CX0 1 fX fdX ["self", "value"] (spX1 K cX "value")) (iX : PySem.W.findIn K (.ref cX) "__init__" = some (some (.ref fX))) (tX : PySem.W.typeIn K (.ref fX) = some (.type "function")) (bX : Binds K fdX ["self", "value"] [])
    (pB : PropOf K C "base" pb gb) (Gb : FnOk P w K mg base CX0 1 gb fdb ["self"] (spBase C)) (bb : Binds K fdb ["self"] []) (pS : PropOf K C "shift" ps_ gs) (Gs : FnOk P w K mg base CX0 1 gs fds ["self"] (spShift C)) (bs : Binds K fds ["self"] []) :
    FnOk P w K mg base (L2.CX P w) 6 f fd ["self", "at"] (spGetS K S C cX) := by
  refine F.okX scGetS (fun vs H Q E h => ?_) (fun cdv A outer s H vs Q E hr h => ?_)
  · obtain ⟨s, v, kvs, pg, wt, rfl, _⟩ := h
    rfl
  · obtain ⟨st, v, kvs, pg, wt, rfl, hst, hki, hpl, q1, q2⟩ := h
    have nd := scGetS.nd
    have hr2 : Room 2 _ := hr.mono (by decide)
    have hu : ∀ {X : Cx}, Room 5 X.A → X.A.units + 1 < cLine := fun r => by
      have := r.units
      omega
    refine ⟨_, pss_cons (ps_set (i := 2) nd rfl (Or.inl rfl) (pe_cmethS (pe_glob (v := .ref C) rfl Z.mgC rfl) O.rd O.met O.ok hr O.b (fun σ => passAt (takes_of rfl rfl rfl rfl) σ) (pa_cons (pv 1) pa_nil)))
      (pss_cons (ps_if (pt_cmpR op_eq (pe_prop (pv 2) Z.cl pB Gb hr2 bb .nil pass0 rfl) pe_str (nomark _)) (pss_one (ps_ret (pe_prop (pv 2) Z.cl pS Gs hr2 bs .nil pass0 rfl))) pss_nil)
      (pss_cons (ps_if (pt_cmp (pc_dnotin (hu hr) (pe_prop (pv 2) Z.cl pB Gb hr2 bb .nil pass0 rfl) (pe_fld (pv 0) rfl))) (pss_one (ps_raise rfl (takes_of rfl rfl rfl rfl) (pmk_oex TX.ox iX tX GX hr2 bX .nil pass0 (by rfl) TX.m (pa_cons (pv 1) pa_nil)))) pss_nil)
      (pss_one (ps_ret (pe_op op_add (pe_dget (hu hr) (pe_fld (pv 0) rfl) (pe_prop (pv 2) Z.cl pB Gb hr2 bb .nil pass0 rfl) (fun _ _ => rfl)) (pe_prop (pv 2) Z.cl pS Gs hr2 bs .nil pass0 rfl)))))), ?_⟩
    generalize hT : tSeq (tIfS _ _ _) _ = T2
    have rest : ∀ (p : Addr) (z : Str) (k : Int) (H1 : Hp), Same H H1 → Pl C H1 p z k → wt = wtK kvs z k → T2 { nx := fun _ H' => Q .non H', rt := Q } [some (.ref st), some v, some (.ref p)] H1 := by
      intro p z k H1 sm pp ew
      rw [← hT]
      obtain ⟨dp, hp⟩ := id pp
      obtain ⟨dx, d, h1, h2⟩ := hst.same sm
      refine ⟨_, rfl, p, dp, _, rfl, hp, p, z, k, rfl, pp, rfl, _, rfl, ?_⟩
      by_cases e : z = ""
      · rw [decide_eq_true (show V.str z = V.str "" by rw [e])]
        have : wt = some k := by
          rw [ew]
          exact if_pos e
        exact iteT ⟨_, rfl, p, dp, _, rfl, hp, p, z, k, rfl, pp, q1 k this H1 sm⟩
      · rw [decide_eq_false (show ¬ V.str z = V.str "" from fun x => e (V.str.inj x))]
        have ew2 : wt = match valV kvs (.inr z) with
          | some (.int n) => some (n + k)
          | _ => none := by
          rw [ew]
          exact if_neg e
        refine iteF ⟨_, rfl, p, dp, _, rfl, hp, p, z, k, rfl, pp, _, rfl, st, S, dx, _, _, rfl, h1, T.cl, T.nZ, stF_sizes, d, _, rfl, DGet.k (k := Sum.inr z) h2, _, rfl, ?_⟩
        cases ev : valV kvs (Sum.inr z) with
        | none =>
          rw [ev] at ew2
          exact iteT (mko_x1 rfl fun d2 H' nd2 s2 hd => q2 ew2 d2 H' (sm.free nd2) (sm.trans s2) hd)
        | some y =>
          obtain ⟨n, rfl⟩ := hki z y ev
          rw [ev] at ew2
          refine iteF ⟨_, rfl, st, S, dx, _, _, rfl, h1, T.cl, T.nZ, stF_sizes, _, rfl, p, dp, _, rfl, hp, p, z, k, rfl, pp, d, _, rfl, (by rw [← ev]; exact DGet.k (k := Sum.inr z) h2), _, rfl, p, dp, _, rfl, hp, p, z, k, rfl, pp, _, _, rfl, rfl, q1 _ ew2 H1 sm⟩
    clear hT
    refine ⟨rfl, _, rfl, v, rfl, ?_⟩
    rcases hpl with ⟨a, z, k, rfl, pa, ew⟩ | ⟨np, ew⟩
    · exact .inl ⟨a, z, k, rfl, pa, rest a z k H (Same.refl H) pa ew⟩
    · refine .inr ⟨np, fun z k e p H' n1 sm pp g => rest p z k H' sm pp ?_, fun e d H' nd2 sm hd => q2 ?_ d H' nd2 sm hd⟩
      · rw [ew, e]
        rfl
      · rw [ew, e]
        rfl
def spSizesS (S : Addr) : Sp := fun vs H Q _ => ∃ s kvs pg, vs = [.ref s] ∧ Stg S H s kvs pg ∧ ∀ p, H p = none → Q (.ref p) (upd H p (.dK kvs))
theorem scSizesS : FnScope ["self"] ["self"] (defScope (inClass sSetting 1)) := ⟨rfl, rfl, rfl, by decide +kernel, rfl, by decide +kernel, by decide +kernel⟩
theorem ok_sizesS {f S : Addr} {fd : FuncData} (F : Fun K "sizes" "Setting.sizes" (inClass sSetting 1) f fd) (T : Scl K mg S) (mDct : mg "dict" = none) : FnOk P w K mg base CX0 1 f fd ["self"] (spSizesS S) := by
  refine F.ok scSizesS (fun vs H Q E h => ?_) (fun cdv A outer s H vs Q E hr h => ?_)
  · obtain ⟨s, kvs, pg, rfl, _⟩ := h
    rfl
  · obtain ⟨st, kvs, pg, rfl, ⟨dx, d, h1, h2⟩, q⟩ := h
    exact ⟨_, pss_one (ps_ret (pe_callTy call_dictD (by rfl) mDct (by decide +kernel) (pa_cons (pe_fld (pv 0) rfl) pa_nil))), _, rfl, st, S, dx, _, _, rfl, h1, T.cl, T.nZ, stF_sizes, d, kvs, rfl, .inl h2, q⟩
end
end Mz
set_option Elab.async false
set_option linter.all false
set_option maxRecDepth 100000
set_option maxHeartbeats 4000000
namespace Mz
open PySem PySem.Spec PyProof.Rows L2
def isPlV (pl : Bool) (v : V) : Bool := pl || (ofV v).isSome
def spIsPl (K : PySem.W.Frag) (C : Addr) : Sp := fun vs H Q _ => ∃ v, vs = [v] ∧ ((∃ a z k, v = .ref a ∧ Pl C H a z k ∧ Q (.bl true) H) ∨ (NoPl K C H v ∧ ∀ H', Same H H' → Q (.bl (ofV v).isSome) H'))
section
variable {P : Program} {w : World} {K : PySem.W.Frag} {mg : Str → Option Value} {base : Heap}
theorem scIsPl : FnScope ["value"] ["value"] (defScope sIsPlace) := ⟨rfl, rfl, rfl, by decide +kernel, rfl, by decide +kernel, by decide +kernel⟩
theorem ok_isPl {f fO C cX po : Addr} {fd fdO : FuncData} (F : Fun K "is_place" "is_place" sIsPlace f fd) (T : Cpl K mg C) (O : OfM P w K mg base C cX po fO fdO) (mX : mg "InvalidPlace" = some (.ref cX)) (te : PySem.W.exmOne K (.ref cX) (.ref cX) = some true) :
    FnOk P w K mg base CX0 6 f fd ["value"] (spIsPl K C) := by
  refine F.ok scIsPl (fun vs H Q E h => ?_) (fun cdv A outer s H vs Q E hr h => ?_)
  · obtain ⟨v, rfl, _⟩ := h
    rfl
  · obtain ⟨v, rfl, h⟩ := h
    refine ⟨_, pss_cons (ps_try_only rfl rfl ⟨rfl, by decide, .inl mX⟩ takes0 (fun W pn xe tk _ => pss_one (ps_expr (pe_cmethS (pe_glob (v := .ref C) rfl T.mgC rfl) O.rd O.met O.ok hr O.b (fun σ => passAt tk σ) (pa_cons (pv 0) pa_nil))))
      (fun a oe cls d pn hz hf => pss_one (ps_ret pe_bl))) (pss_one (ps_ret pe_bl)), ?_⟩
    rcases h with ⟨a, z, k, rfl, pa, q⟩ | ⟨nv, q⟩
    · exact ⟨rfl, _, rfl, .ref a, rfl, .inl ⟨a, z, k, rfl, pa, q⟩⟩
    · refine ⟨rfl, _, rfl, v, rfl, .inr ⟨nv, fun z k e p H' np sm pl g => ?_, fun e d H' nd sm hd => ?_⟩⟩
      · have q2 := q H' sm
        rw [e] at q2
        exact q2
      · have q2 := q H' sm
        rw [e] at q2
        exact ⟨true, te, fun _ a ha => q2, fun x => Bool.noConfusion x⟩
end
end Mz
set_option Elab.async false
set_option linter.all false
set_option maxRecDepth 100000
set_option maxHeartbeats 4000000
namespace Mz
open PySem PySem.Spec PyProof.Rows L2
/-! a place's text, read again -/
def sfx (k : Int) : Str := if k = 1 then "+1" else if k = 2 then "+2" else if k = 3 then "+3" else if k = -1 then "-1" else if k = -2 then "-2" else if k = -3 then "-3" else ""
theorem cps_app (z s : Str) : (z ++ s).cps.toList = z.cps.toList ++ s.cps.toList := app_list z s
theorem six0 {n : Nat} : HT.sIx n 0 none = 0 := rfl
theorem six2 {n : Nat} (h : 2 ≤ n) : HT.sIx n n (some (-2)) = n - 2 := by
  unfold HT.sIx
  simp
  omega
theorem six2b {n : Nat} (h : 2 ≤ n) : HT.sIx n 0 (some (-2)) = n - 2 := by
  unfold HT.sIx
  simp
  omega
theorem sixn {n : Nat} : HT.sIx n n none = n := rfl
theorem len_cps (z : Str) : z.cps.toList.length = z.length := by
  rw [Array.length_toList]
  rfl
theorem cut_head {z s : Str} (h : s.length = 2) : headS (z ++ s) = z := by
  refine str_ext ?_
  unfold headS cutS
  have l : (z ++ s).length = z.length + 2 := by rw [strLen_append, h]
  rw [l, six0, six2 (by omega)]
  simp [cps_app]
  rw [← len_cps z, List.take_left]
theorem cut_tail {z s : Str} (h : s.length = 2) : tailS (z ++ s) = s := by
  refine str_ext ?_
  unfold tailS cutS
  have l : (z ++ s).length = z.length + 2 := by rw [strLen_append, h]
  rw [l, six2b (by omega), sixn]
  have e1 : z.length + 2 - 2 = z.cps.toList.length := by rw [len_cps]; omega
  rw [e1, cps_app, List.drop_left]
  rw [List.take_of_length_le (by rw [len_cps, len_cps]; omega)]
theorem num_none {z : Str} (h : 3 ≤ z.length) : numS z = none := by
  unfold numS
  rw [if_neg (fun e => by rw [e] at h; revert h; decide +kernel), if_neg (fun e => by rw [e] at h; revert h; decide +kernel), if_neg (fun e => by rw [e] at h; revert h; decide +kernel), if_neg (fun e => by rw [e] at h; revert h; decide +kernel)]
theorem name_len {z : Str} (h : nameS z = true) : 1 ≤ z.length ∧ z.length ≤ 6 := by
  have := (Bool.and_eq_true_iff.mp h).1
  obtain ⟨h1, h2⟩ := Bool.and_eq_true_iff.mp this
  have h1 := of_decide_eq_true h1
  have h2 := of_decide_eq_true h2
  omega
theorem sfx_len {k : Int} (h0 : -3 ≤ k) (h1 : k ≤ 3) (hk : k ≠ 0) : (sfx k).length = 2 ∧ shS (sfx k) = some k := by
  have h : k = -3 ∨ k = -2 ∨ k = -1 ∨ k = 1 ∨ k = 2 ∨ k = 3 := by omega
  rcases h with rfl | rfl | rfl | rfl | rfl | rfl <;> decide +kernel
theorem sh_noname6 {z : Str} {n : Int} (h : shS (tailS z) = some n) : ¬ nameS z = true := by
  intro hn
  have hall : (z.cps.toList.all fun c => decide (c ∈ abc.cps.toList)) = true := (Bool.and_eq_true_iff.mp hn).2
  have sub : ∀ c ∈ (tailS z).cps.toList, c ∈ abc.cps.toList := by
    intro c hc
    unfold tailS cutS at hc
    have h1 : c ∈ z.cps.toList := List.mem_of_mem_drop (List.mem_of_mem_take (by simpa using hc))
    exact of_decide_eq_true (List.all_eq_true.mp hall c h1)
  generalize tailS z = y at h sub
  unfold shS at h
  repeat' split at h
  all_goals first
    | (rename_i e
       subst e
       revert sub
       decide +kernel)
    | cases h
theorem num_name {z : Str} (h : nameS z = true) : numS z = none := by
  unfold numS
  rw [if_neg (fun e => by rw [e] at h; revert h; decide +kernel), if_neg (fun e => by rw [e] at h; revert h; decide +kernel), if_neg (fun e => by rw [e] at h; revert h; decide +kernel), if_neg (fun e => by rw [e] at h; revert h; decide +kernel)]
theorem parts_sfx {z : Str} {k : Int} (h : nameS z = true) (h0 : -3 ≤ k) (h1 : k ≤ 3) : partsS (z ++ sfx k) = some (z, k) := by
  by_cases hk : k = 0
  · subst hk
    have e : z ++ sfx 0 = z := by
      refine str_ext ?_
      rw [cps_app]
      exact List.append_nil _
    rw [e]
    unfold partsS
    rw [num_name h]
    show (if nameS z = true then some (z, (0 : Int)) else _) = _
    rw [if_pos h]
  · obtain ⟨l, s⟩ := sfx_len h0 h1 hk
    have n := name_len h
    unfold partsS
    have hn := cut_tail (z := z) l
    rw [num_none (by rw [strLen_append, l]; omega)]
    show (if nameS (z ++ sfx k) = true then _ else if nameS (headS (z ++ sfx k)) = true then _ else none) = _
    rw [if_neg (sh_noname6 (n := k) (by rw [hn]; exact s)), if_pos (by rw [cut_head l]; exact h), hn, s, cut_head l]
end Mz
set_option Elab.async false
set_option linter.all false
set_option maxRecDepth 100000
set_option maxHeartbeats 4000000
namespace Mz
open PySem PySem.Spec PyProof.Rows L2
/-- what stands for a place -/
def Pv6 (K : PySem.W.Frag) (C : Addr) (H : Hp) (v : V) (z : Str) (k : Int) : Prop := (∃ a, v = .ref a ∧ Pl C H a z k) ∨ (NoPl K C H v ∧ ofV v = some (z, k))
theorem Pv6.plv {K : PySem.W.Frag} {C : Addr} {H : Hp} {v : V} {z : Str} {k : Int} (h : Pv6 K C H v z k) (kvs : List (Key × V)) : PlV K C H kvs v (wtK kvs z k) := by
  rcases h with ⟨a, e, p⟩ | ⟨n, e⟩
  · exact .inl ⟨a, z, k, e, p, rfl⟩
  · exact .inr ⟨n, by rw [e]; rfl⟩
end Mz
set_option Elab.async false
set_option linter.all false
set_option maxRecDepth 100000
set_option maxHeartbeats 4000000
namespace Mz
open PySem PySem.Spec PyProof.Rows L2
/-! in, ==, page of a setting -/
/-- whether a value is a name of the setting -/
def inSet (kvs : List (Key × V)) : V → Bool
  | .str z => (valV kvs (.inr z)).isSome
  | _ => false
def spContS (K : PySem.W.Frag) (S : Addr) : Sp := fun vs H Q _ => ∃ s v kvs pg, vs = [.ref s, v] ∧ Stg S H s kvs pg ∧ Kd K H v ∧ Q (.bl (inSet kvs v)) H
def spPageS (S : Addr) : Sp := fun vs H Q _ => ∃ s kvs pg, vs = [.ref s] ∧ Stg S H s kvs pg ∧ Q (.int pg) H
def spEqS (K : PySem.W.Frag) (S : Addr) : Sp := fun vs H Q _ => ∃ s kvs pg, Stg S H s kvs pg ∧ AllI kvs ∧
  ((∃ r ls qg, vs = [.ref s, .ref r] ∧ Stg S H r ls qg ∧ AllI ls ∧ Q (.bl (eqDV kvs ls && decide (pg = qg))) H) ∨ ∃ y, vs = [.ref s, y] ∧ Oty K S H y ∧ Q (.bl false) H)
section
variable {P : Program} {w : World} {K : PySem.W.Frag} {mg : Str → Option Value} {base : Heap}
theorem scPageS : FnScope ["self"] ["self"] (defScope (inClass sSetting 2)) := ⟨rfl, rfl, rfl, by decide +kernel, rfl, by decide +kernel, by decide +kernel⟩
theorem ok_pageS {f S : Addr} {fd : FuncData} (F : Fun K "page" "Setting.page" (inClass sSetting 2) f fd) (T : Scl K mg S) : FnOk P w K mg base CX0 1 f fd ["self"] (spPageS S) := by
  refine F.ok scPageS (fun vs H Q E h => ?_) (fun cdv A outer s H vs Q E hr h => ?_)
  · obtain ⟨s, kvs, pg, rfl, _⟩ := h
    rfl
  · obtain ⟨st, kvs, pg, rfl, ⟨dx, d, h1, h2⟩, q⟩ := h
    exact ⟨_, pss_one (ps_ret (pe_fld (pv 0) rfl)), _, rfl, st, S, dx, _, _, rfl, h1, T.cl, T.nP, stF_page, q⟩
theorem scContS : FnScope ["self", "x"] ["self", "x"] (defScope (inClass sSetting 5)) := ⟨rfl, rfl, rfl, by decide +kernel, rfl, by decide +kernel, by decide +kernel⟩
theorem ok_contS {f S : Addr} {fd : FuncData} (F : Fun K "__contains__" "Setting.__contains__" (inClass sSetting 5) f fd) (T : Scl K mg S) (D : Blp mg) : FnOk P w K mg base CX0 1 f fd ["self", "x"] (spContS K S) := by
  refine F.ok scContS (fun vs H Q E h => ?_) (fun cdv A outer s H vs Q E hr h => ?_)
  · obtain ⟨s, v, kvs, pg, rfl, _⟩ := h
    rfl
  · obtain ⟨st, v, kvs, pg, rfl, ⟨dx, d, h1, h2⟩, hv, q⟩ := h
    refine ⟨_, pss_one (ps_ret (pe_and (pe_callB call_isi (by rfl) D.isi (by decide +kernel) (pa_cons (pv 1) (pa_cons (pe_bltn (v := .ty "str") (by rfl) D.str (by decide +kernel) rfl) pa_nil)))
      (pe_one (pe_cmp (pc_din (hu_of hr) (pv 1) (pe_fld (pv 0) rfl)))))), ?_⟩
    refine ⟨_, rfl, ?_⟩
    cases hv with
    | int i => exact ⟨_, _, _, _, false, rfl, .ty _, .base (.int i), kit_ty (by decide +kernel), false, rfl, iteF q⟩
    | bl b => exact ⟨_, _, _, _, false, rfl, .ty _, .base (.bl b), kit_ty (by decide +kernel), false, rfl, iteF q⟩
    | non => exact ⟨_, _, _, _, false, rfl, .ty _, .base .non, kit_ty (by decide +kernel), false, rfl, iteF q⟩
    | oth a t ty ki ks => exact ⟨_, _, _, _, false, rfl, .ty _, ty, ks, false, rfl, iteF q⟩
    | str z l ok => exact ⟨_, _, _, _, true, rfl, .ty _, .base (.str z), kit_ty (by decide +kernel), true, rfl, iteT ⟨_, rfl, _, rfl, st, S, dx, _, _, rfl, h1, T.cl, T.nZ, stF_sizes, d, _, rfl, DGet.k (k := .inr z) h2, q⟩⟩
theorem scEqS : FnScope ["self", "other"] ["self", "other"] (defScope (inClass sSetting 7)) := ⟨rfl, rfl, rfl, by decide +kernel, rfl, by decide +kernel, by decide +kernel⟩
theorem ok_eqS {f S : Addr} {fd : FuncData} (F : Fun K "__eq__" "Setting.__eq__" (inClass sSetting 7) f fd) (T : Scl K mg S) (Y : Pty K S) (D : Blp mg) : FnOk P w K mg base CX0 1 f fd ["self", "other"] (spEqS K S) := by
  refine F.ok scEqS (fun vs H Q E h => ?_) (fun cdv A outer s H vs Q E hr h => ?_)
  · obtain ⟨s, kvs, pg, _, _, ⟨r, ls, qg, rfl, _⟩ | ⟨y, rfl, _⟩⟩ := h
    · rfl
    · rfl
  · obtain ⟨st, kvs, pg, hst, ia, h⟩ := h
    refine ⟨_, pss_one (ps_ret (pe_and (pe_callB call_isi (by rfl) D.isi (by decide +kernel) (pa_cons (pv 1) (pa_cons (pe_glob (v := .ref S) rfl T.mgS rfl) pa_nil)))
      (pe_and (pe_cmpR (op_eqDI (Nat.lt_of_le_of_lt (Nat.le_add_right _ 63) hr.units)) (pe_fld (pv 0) rfl) (pe_fld (pv 1) rfl) (nomark _)) (pe_one (pe_cmpR op_eq (pe_fld (pv 0) rfl) (pe_fld (pv 1) rfl) (nomark _)))))), ?_⟩
    obtain ⟨dx, d, h1, h2⟩ := hst
    rcases h with ⟨r, ls, qg, rfl, ⟨dy, e, h3, h4⟩, ib, q⟩ | ⟨y, rfl, ⟨t, ty, kt⟩, q⟩
    · refine ⟨_, rfl, .ref r, .ref S, .ref S, .ref S, true, rfl, .own S, .base (.ins h3 Y.cl Y.ha Y.hn Y.htk Y.hm), kit_self, true, rfl, iteT ?_⟩
      refine ⟨_, rfl, st, S, dx, _, _, rfl, h1, T.cl, T.nZ, stF_sizes, _, rfl, r, S, dy, _, _, rfl, h3, T.cl, T.nZ, stF_sizes, d, e, kvs, ls, rfl, rfl, h2, h4, ia, ib, _, rfl, ite2 (fun hc => ?_) (fun hc => ?_)⟩
      · refine ⟨_, rfl, st, S, dx, _, _, rfl, h1, T.cl, T.nP, stF_page, _, rfl, r, S, dy, _, _, rfl, h3, T.cl, T.nP, stF_page, rfl, ?_⟩
        have e2 : decide (V.int pg = V.int qg) = decide (pg = qg) := decide_eq_decide.mpr ⟨fun x => V.int.inj x, fun x => by rw [x]⟩
        rw [hc, Bool.true_and] at q
        rw [e2]
        exact q
      · rw [Bool.eq_false_iff.mpr hc, Bool.false_and] at q
        exact q
    · exact ⟨_, rfl, y, .ref S, t, .ref S, false, rfl, .own S, ty, kt, false, rfl, iteF q⟩
end
end Mz
set_option Elab.async false
set_option linter.all false
set_option maxRecDepth 100000
set_option maxHeartbeats 4000000
namespace Mz
open PySem PySem.Spec PyProof.Rows L2
/-! rows of facts -/
/-- a value, and whether it is a place -/
def Pi (K : PySem.W.Frag) (C : Addr) (H : Hp) (v : V) (t : Bool) : Prop := (∃ a z k, v = .ref a ∧ Pl C H a z k ∧ t = true) ∨ (NoPl K C H v ∧ t = (ofV v).isSome)
theorem Pi.same {K : PySem.W.Frag} {C : Addr} {H H' : Hp} {v : V} {t : Bool} (s : Same H H') (h : Pi K C H v t) : Pi K C H' v t := by
  rcases h with ⟨a, z, k, e, ⟨dx, h⟩, r⟩ | ⟨⟨h1, h2⟩, r⟩
  · exact .inl ⟨a, z, k, e, ⟨dx, s _ _ h⟩, r⟩
  · exact .inr ⟨⟨h1.same s, h2.same s⟩, r⟩
theorem Pv6.pi {K : PySem.W.Frag} {C : Addr} {H : Hp} {v : V} {z : Str} {k : Int} (h : Pv6 K C H v z k) : Pi K C H v true := by
  rcases h with ⟨a, e, p⟩ | ⟨n, e⟩
  · exact .inl ⟨a, z, k, e, p, rfl⟩
  · exact .inr ⟨n, by rw [e]; rfl⟩
theorem Pv6.same {K : PySem.W.Frag} {C : Addr} {H H' : Hp} {v : V} {z : Str} {k : Int} (s : Same H H') (h : Pv6 K C H v z k) : Pv6 K C H' v z k := by
  rcases h with ⟨a, e, ⟨dx, p⟩⟩ | ⟨⟨h1, h2⟩, e⟩
  · exact .inl ⟨a, e, dx, s _ _ p⟩
  · exact .inr ⟨⟨h1.same s, h2.same s⟩, e⟩
/-- the words of rows, and how many places each has -/
def plS (z : Str) : Option Int := if z = "at_most" then some 2 else if z = "page" then some 1 else none
theorem plS_le {z : Str} {n : Int} (h : plS z = some n) : 1 ≤ n ∧ n ≤ 2 := by
  unfold plS at h
  split at h
  · cases h
    decide
  · split at h
    · cases h
      decide
    · cases h
def FctT (K : PySem.W.Frag) (C : Addr) (H : Hp) (l : List V) (t : Bool) : Prop := (l = [] ∧ t = false) ∨ ∃ x r, l = x :: r ∧ ((∃ ty, TyX K H x ty ∧ PySem.W.kitOne K ty (.type "str") = some false ∧ t = false) ∨
  ∃ z : Str, x = .str z ∧ ((plS z = none ∧ t = false) ∨ ∃ n, plS z = some n ∧ ((r.length ≠ n.toNat ∧ r.length ≤ 100 ∧ t = false) ∨ (r.length = n.toNat ∧ ∃ ts : List Bool, ts.length = r.length ∧ (∀ (i : Nat) (v : V) (b : Bool), r[i]? = some v → ts[i]? = some b → Pi K C H v b) ∧ t = ts.all id))))
/-- whether a value is a row of facts -/
def Fct (K : PySem.W.Frag) (C : Addr) (H : Hp) (v : V) (t : Bool) : Prop := (∃ ty, TyX K H v ty ∧ PySem.W.kitOne K ty (.type "tuple") = some false ∧ t = false) ∨ ∃ a l, v = .ref a ∧ H a = some (.tup l) ∧ FctT K C H l t
def spIsFact (K : PySem.W.Frag) (C : Addr) : Sp := fun vs H Q _ => ∃ (v : V) (t : Bool), vs = [v] ∧ Fct K C H v t ∧ ∀ H', Same H H' → Q (.bl t) H'
section
variable {P : Program} {w : World} {K : PySem.W.Frag} {mg : Str → Option Value} {base : Heap}
theorem scIsFact : FnScope ["value", "item"] ["value"] (defScope sIsFact) := ⟨rfl, rfl, rfl, by decide +kernel, rfl, by decide +kernel, by decide +kernel⟩
theorem ok_isFact {f f1 dP C : Addr} {fd fd1 : FuncData} (F : Fun K "is_fact" "is_fact" sIsFact f fd) (G1 : FnOk P w K mg base CX0 6 f1 fd1 ["value"] (spIsPl K C)) (m1 : mg "is_place" = some (.ref f1)) (k1 : PySem.W.keepIn K (.ref f1) = true) (b1 : Binds K fd1 ["value"] [])
    (mP : mg "_PLACES" = some (.ref dP)) (tP : Tab K w dP plS) (B : Blt mg) (D : Blp mg) (mT : mg "tuple" = none) : FnOk P w K mg base CX0 7 f fd ["value"] (spIsFact K C) := by
  refine F.ok scIsFact (fun vs H Q E h => ?_) (fun cdv A outer s H vs Q E hr h => ?_)
  · obtain ⟨v, t, rfl, _⟩ := h
    rfl
  · obtain ⟨v, t, rfl, hv, q⟩ := h
    have nd := scIsFact.nd
    obtain ⟨es, n, DF, lF⟩ := tP
    refine ⟨_, (pss_cons (ps_if (PW.pt (pw_or (pt_not (pt_val (pe_callB call_isi (by rfl) D.isi (by decide +kernel) (pa_cons (pv 0) (pa_cons (pe_bltn (v := .ty "tuple") (by rfl) mT (by decide +kernel) rfl) pa_nil))))) (pw_or (pt_cmpR (op_eqT0 hr.units) (pv 0) (pe_tup pa_nil) (nomark _)) (pw_or1 (pt_not (pt_val (pe_callB call_isi (by rfl) D.isi (by decide +kernel) (pa_cons (pe_ix ix_tup (pv 0) pe_int (fun _ _ => rfl)) (pa_cons (pe_bltn (v := .ty "str") (by rfl) D.str (by decide +kernel) rfl) pa_nil))))))))) (pss_one (ps_ret pe_bl)) pss_nil)
      (pss_cons (ps_if (PW.pt (pw_or (pt_cmpR (op_notIn_kd DF) (pe_ix ix_tup (pv 0) pe_int (fun _ _ => rfl)) (pe_glob (v := .ref dP) rfl mP rfl) (by rfl)) (pw_or1 (pt_cmpR op_ne (pe_callB call_len_seq (by rfl) B.len PySem.boot_len (pa_cons (pv 0) pa_nil)) (pe_op op_add pe_int (pe_ix ix_kdict (pe_glob (v := .ref dP) rfl mP rfl) (pe_ix ix_tup (pv 0) pe_int (fun _ _ => rfl)) (fun _ _ => rfl))) (nomark _))))) (pss_one (ps_ret pe_bl)) pss_nil)
      (pss_one (ps_ret (pe_callB (cr_all rfl) (by rfl) D.all (by decide +kernel) (pa_cons (pe_lc (own := [("item", 1)]) (g := gName 1) (tt := tYes) rfl nd (pi_tup (pe_slice sl_tup (pv 0) (po_some pe_int) po_none)) (blkOk_by (N := ["value", "item"]) (sc := defScope sIsFact) (by decide +kernel)) (fun _ _ _ _ _ => pg_name (i := 1) nd rfl (Or.inl rfl)) (fun _ _ _ _ _ => pts_nil) (fun _ _ _ _ _ => (pe_call G1 hr (by rfl) m1 k1 b1 .nil pass0 (pa_cons (pv 1) pa_nil)))) pa_nil)))))), ?_⟩
    refine ⟨_, rfl, ?_⟩
    rcases hv with ⟨ty, hty, kt, rfl⟩ | ⟨a, l, rfl, ha, hl⟩
    · exact ⟨_, _, _, _, false, rfl, .ty _, hty, kt, false, rfl, iteT (iteT (q H (Same.refl H)))⟩
    refine ⟨_, _, _, _, true, rfl, .ty _, .base (.tup ha), kit_ty (by decide +kernel), true, rfl, iteF ?_⟩
    refine ⟨_, rfl, (by show 0 ≤ sizeLine; decide), fun p0 np0 => ?_⟩
    have s1 : Same H (upd H p0 (.tup [])) := same_nw np0
    have t1 : upd H p0 (.tup []) p0 = some (.tup []) := upd_same
    generalize upd H p0 (.tup []) = H1 at s1 t1
    have a1 := s1 _ _ ha
    refine ⟨a, p0, l, rfl, rfl, SqT.of a1, SqT.of t1, _, rfl, ?_⟩
    rcases hl with ⟨rfl, rfl⟩ | ⟨x, r, rfl, hx⟩
    · exact iteT (iteT (q _ s1))
    refine iteF ?_
    have i0 : atI (x :: r) (0 : Int) = some x := atI_nat (xs := x :: r) (j := 0) rfl
    rcases hx with ⟨ty, hty, kt, rfl⟩ | ⟨z, rfl, hz⟩
    · exact ⟨_, rfl, a, _, _, _, rfl, rfl, SqT.of a1, i0, _, _, _, _, false, rfl, .ty _, ty_at (fun _ _ o e => s1 _ o e) hty, kt, false, rfl, iteT (q _ s1)⟩
    refine ⟨_, rfl, a, _, _, _, rfl, rfl, SqT.of a1, i0, _, _, _, _, true, rfl, .ty _, .base (.str z), kit_ty (by decide +kernel), true, rfl, iteF ?_⟩
    obtain ⟨v, ev, hv⟩ := lF z
    refine ⟨_, rfl, a, _, _, _, rfl, rfl, SqT.of a1, i0, z, v, rfl, rfl, ev, _, rfl, ?_⟩
    rcases hv with ⟨fz, rfl⟩ | ⟨m, tk, fz, rfl⟩
    · rcases hz with ⟨_, rfl⟩ | ⟨gs, e, _⟩
      · exact iteT (iteT (q _ s1))
      · rw [fz] at e
        cases e
    rcases hz with ⟨e, _⟩ | ⟨gs, e, hz⟩
    · rw [fz] at e
      cases e
    rw [fz] at e
    cases e
    obtain ⟨m1', m2'⟩ := plS_le fz
    refine iteF ⟨_, rfl, a, _, rfl, .inr (SqT.of a1), _, rfl, a, _, _, _, rfl, rfl, SqT.of a1, i0, dP, z, .int m, rfl, rfl, ⟨_, _, _, DF.at_, DF.lit, ev, ⟨tk, rfl⟩⟩, _, _, rfl, rfl, rfl, _, rfl, ?_⟩
    rcases hz with ⟨hne, hle, rfl⟩ | ⟨hlen, ts, lts, hts, rfl⟩
    · rw [show (!decide (V.int (((V.str z :: r).length : Nat) : Int) = V.int (1 + m))) = true by
        rw [decide_eq_false (fun e => by have := V.int.inj e; rw [List.length_cons] at this; omega)]
        rfl]
      exact iteT (q _ s1)
    rw [show (!decide (V.int (((V.str z :: r).length : Nat) : Int) = V.int (1 + m))) = false by
      rw [decide_eq_true (by rw [List.length_cons]; congr 1; omega)]
      rfl]
    refine iteF ?_
    have s10 : HT.sIx (r.length + 1) 0 (some (1 : Int)) = 1 := by
      unfold HT.sIx
      simp
    have ecut : cutV (V.str z :: r) (some (1 : Int)) none = r := by
      unfold cutV
      rw [List.length_cons, s10]
      show ((V.str z :: r).drop 1).take (r.length + 1 - 1) = r
      simp
    refine ⟨_, rfl, _, rfl, a, _, rfl, SqT.of a1, (fun h => by rw [List.length_cons, s10] at h; exact absurd h.1 (by decide)), fun p2 np2 => ?_⟩
    rw [ecut]
    have s2 : Same H1 (upd H1 p2 (.tup r)) := same_nw np2
    have t2 : upd H1 p2 (.tup r) p2 = some (.tup r) := upd_same
    generalize upd H1 p2 (.tup r) = H2 at s2 t2
    refine ⟨p2, rfl, ⟨_, SqT.of t2⟩, fun D nD => ?_⟩
    have p2D : p2 ≠ D := ne_of_none t2 nD
    refine lc_tup (xs := r) (fun i H' => (∀ q o, q ≠ D → H2 q = some o → H' q = some o) ∧ H' D = some (.lst ((ts.take i).map V.bl)))
      ⟨fun q o n e => by rw [upd_ne n]; exact e, upd_same⟩ (fun i H' _ h => SqT.of (h.1 _ _ p2D t2)) ?_ ?_
    · rintro i x H3 hx ⟨keep, hD⟩
      have hi : i < r.length := (List.getElem?_eq_some_iff.mp hx).1
      have hb : ts[i]? = some (ts[i]'(by omega)) := List.getElem?_eq_getElem (by omega)
      have old : Same H H3 := fun q o e => keep q o (ne_of_none (s2 _ _ (s1 _ _ e)) nD) (s2 _ _ (s1 _ _ e))
      have pi := (hts i x _ hx hb).same old
      have fin : ∀ H4, Same H3 H4 → ∃ acc, H4 D = some (.lst acc) ∧ acc.length < sizeLine ∧ (∀ q o, q ≠ D → H2 q = some o → upd H4 D (.lst (acc ++ [V.bl (ts[i]'(by omega))])) q = some o) ∧ upd H4 D (.lst (acc ++ [V.bl (ts[i]'(by omega))])) D = some (.lst ((ts.take (i + 1)).map V.bl)) := by
        intro H4 s6
        refine ⟨_, s6 _ _ hD, ?_, ?_, ?_⟩
        · rw [List.length_map, List.length_take]
          exact Nat.lt_of_le_of_lt (Nat.min_le_left _ _) (Nat.lt_of_lt_of_le (show i < 4 by omega) (by decide))
        · intro q o n e
          rw [upd_ne n]
          exact s6 _ _ (keep q o n e)
        · rw [upd_same, List.take_succ, hb, List.map_append]
          rfl
      refine ⟨rfl, ?_⟩
      unfold tYes
      refine iteT ⟨_, rfl, _, rfl, ?_⟩
      rcases pi with ⟨a2, z2, k2, rfl, pa, eb⟩ | ⟨np, eb⟩
      · refine .inl ⟨a2, z2, k2, rfl, pa, ?_⟩
        have f := fin H3 (Same.refl _)
        rw [eb] at f
        exact f
      · refine .inr ⟨np, fun H4 s6 => ?_⟩
        have f := fin H4 s6
        rw [eb] at f
        exact f
    · rintro H3 ⟨keep, hD⟩
      rw [List.take_of_length_le (by omega)] at hD
      exact ⟨D, ts, rfl, SqL.of hD, q _ fun q2 o e => keep q2 o (ne_of_none (s2 _ _ (s1 _ _ e)) nD) (s2 _ _ (s1 _ _ e))⟩
end
end Mz
set_option Elab.async false
set_option linter.all false
set_option maxRecDepth 100000
set_option maxHeartbeats 4000000
/-! two lists item by item; comprehensions with two clauses -/
namespace Mz
open PySem PySem.Spec PyProof.Rows L2
inductive Lk {α β : Type} (R : α → β → Prop) : List α → List β → Prop
  | nil : Lk R [] []
  | cons {x : α} {y : β} {xs : List α} {ys : List β} (h : R x y) (t : Lk R xs ys) : Lk R (x :: xs) (y :: ys)
section
variable {α β : Type} {R : α → β → Prop} {xs xs2 : List α} {ys ys2 : List β}
theorem Lk.length (h : Lk R xs ys) : xs.length = ys.length := by
  induction h with
  | nil => rfl
  | cons _ _ ih => rw [List.length_cons, List.length_cons, ih]
theorem Lk.imp {S : α → β → Prop} (h : Lk R xs ys) (f : ∀ x y, R x y → S x y) : Lk S xs ys := by
  induction h with
  | nil => exact .nil
  | cons h _ ih => exact .cons (f _ _ h) ih
theorem Lk.append (h : Lk R xs ys) (k : Lk R xs2 ys2) : Lk R (xs ++ xs2) (ys ++ ys2) := by
  induction h with
  | nil => exact k
  | cons h _ ih => exact .cons h ih
theorem Lk.one {x : α} {y : β} (h : R x y) : Lk R [x] [y] := .cons h .nil
theorem Lk.get (h : Lk R xs ys) : ∀ {i : Nat} {x : α}, xs[i]? = some x → ∃ y, ys[i]? = some y ∧ R x y := by
  induction h with
  | nil => intro i x e; simp at e
  | cons h _ ih =>
    intro i x e
    match i, e with
    | 0, e =>
      simp at e
      exact ⟨_, rfl, e ▸ h⟩
    | i + 1, e => exact ih (i := i) (by simpa using e)
theorem Lk.memL (h : Lk R xs ys) : ∀ {x : α}, x ∈ xs → ∃ y ∈ ys, R x y := by
  induction h with
  | nil => intro x e; cases e
  | cons h _ ih =>
    intro x e
    rcases List.mem_cons.mp e with rfl | e
    · exact ⟨_, List.mem_cons_self .., h⟩
    · obtain ⟨y, hy, r⟩ := ih e
      exact ⟨y, List.mem_cons_of_mem _ hy, r⟩
theorem Lk.memR (h : Lk R xs ys) : ∀ {y : β}, y ∈ ys → ∃ x ∈ xs, R x y := by
  induction h with
  | nil => intro x e; cases e
  | cons h _ ih =>
    intro x e
    rcases List.mem_cons.mp e with rfl | e
    · exact ⟨_, List.mem_cons_self .., h⟩
    · obtain ⟨y, hy, r⟩ := ih e
      exact ⟨y, List.mem_cons_of_mem _ hy, r⟩
theorem Lk.take (h : Lk R xs ys) (n : Nat) : Lk R (xs.take n) (ys.take n) := by
  induction h generalizing n with
  | nil => rw [List.take_nil, List.take_nil]; exact .nil
  | cons h _ ih =>
    cases n with
    | zero => exact .nil
    | succ n => exact .cons h (ih n)
theorem Lk.drop (h : Lk R xs ys) (n : Nat) : Lk R (xs.drop n) (ys.drop n) := by
  induction h generalizing n with
  | nil => rw [List.drop_nil, List.drop_nil]; exact .nil
  | cons h t ih =>
    cases n with
    | zero => exact .cons h t
    | succ n => exact ih n
end
/-- a term by a name of its own -/
def tW (t : TE) : TE := t
theorem pe_w {X : Cx} {e : Expr} {t : TE} (h : PE X e t) : PE X e (tW t) := h
theorem yesT {σ : L2.St} {H : Hp} {f g : Hp → Prop} (h : f H) : tYes σ H (fun b H3 => if b = true then f H3 else g H3) := by
  show if true = true then f H else g H
  rw [if_pos rfl]
  exact h
/-- rules whose terms speak of K alone, for use within a comprehension -/
theorem pi_tupK {X : Cx} {tg l : Expr} {tl : TE} (K : PySem.W.Frag) (hl : PE X l tl) (hK : X.K = K := by rfl) : PI X tg l (iTup K tl) := by
  subst hK
  exact pi_tup hl
theorem pi_listK {X : Cx} {tg l : Expr} {tl : TE} (K : PySem.W.Frag) (hl : PE X l tl) (hK : X.K = K := by rfl) : PI X tg l (iList K tl) := by
  subst hK
  exact pi_list hl
theorem sl_tupK {X : Cx} (K : PySem.W.Frag) (hK : X.K = K := by rfl) : SlR X (rSlT K) := by
  subst hK
  exact sl_tup
/-- the inner walk of a comprehension with two clauses -/
theorem lc2_in {J : It} {n : Nat} {G : Hp → Prop} {Y : Nat → Hp → V → Hp → Prop} (wk : L2.Walk J n G Y) {g : TG} {tt : TT} {te : TE} {vs : List Nat} {σ : L2.St} {H0 : Hp} {D : Addr} {Nx : Hp → Prop} (Pv : Nat → Hp → Prop) (h0 : Pv 0 H0) (hG : ∀ i H, i ≤ n → Pv i H → G H)
    (hs : ∀ i x H H', i < n → Pv i H → Y i H x H' → g x (wipe σ vs) H' fun σ3 H5 => wipe σ3 vs = wipe σ vs ∧ tt σ3 H5 fun b H6 =>
      if b = true then te σ3 H6 fun y H7 => ∃ acc, H7 D = some (.lst acc) ∧ acc.length < sizeLine ∧ Pv (i + 1) (upd H7 D (.lst (acc ++ [y]))) else Pv (i + 1) H6) (hd : ∀ H, Pv n H → Nx H) :
    ∃ W1 : Nat → Nat → Hp → Prop, (∃ m, W1 0 m H0) ∧ ∀ j k H, W1 j k H →
      (J.stop j H ∧ Nx H) ∨ (J.go j H ∧ ∃ Nx1 : Hp → Prop, (∀ H', Nx1 H' → ∃ k', k' < k ∧ W1 (j + 1) k' H') ∧ ∀ x H', J.yld j H x H' → g x (wipe σ vs) H' fun σ3 H5 => wipe σ3 vs = wipe σ vs ∧ tt σ3 H5 fun b H6 =>
        if b = true then te σ3 H6 fun y H7 => ∃ acc, H7 D = some (.lst acc) ∧ acc.length < sizeLine ∧ Nx1 (upd H7 D (.lst (acc ++ [y]))) else Nx1 H6) := by
  refine ⟨fun i m H => m + i = n ∧ Pv i H, ⟨n, by omega, h0⟩, fun i m H ⟨hm, p⟩ => ?_⟩
  have gs := hG i H (by omega) p
  rcases Nat.lt_or_ge i n with lt | ge
  · exact .inr ⟨wk.goes i H lt gs, Pv (i + 1), fun H' p' => ⟨m - 1, by omega, by omega, p'⟩, fun x H' y => hs i x H H' lt p (wk.yields i H x H' lt gs y)⟩
  · have e : i = n := by omega
    subst e
    exact .inl ⟨wk.stops H gs, hd H p⟩
/-- the outer walk -/
theorem lc2_out {J : It} {n : Nat} {G : Hp → Prop} {Y : Nat → Hp → V → Hp → Prop} (wk : L2.Walk J n G Y) {g g1 : TG} {tt tt1 : TT} {wi1 : TI} {te : TE} {vs vs1 : List Nat} {σ : L2.St} {H1 : Hp} {D : Addr} {Qd : Hp → Prop} (Pv : Nat → Hp → Prop) (h0 : Pv 0 (upd H1 D (.lst []))) (hG : ∀ i H, i ≤ n → Pv i H → G H)
    (hs : ∀ i x H H', i < n → Pv i H → Y i H x H' → g x (wipe σ vs) H' fun σ2 H2 => wipe σ2 vs = wipe σ vs ∧ tt σ2 H2 fun b H3 =>
      if b = true then wi1 σ2 H3 fun J1 H4 => ∃ W1 : Nat → Nat → Hp → Prop, (∃ m, W1 0 m H4) ∧ ∀ j k H, W1 j k H →
        (J1.stop j H ∧ Pv (i + 1) H) ∨ (J1.go j H ∧ ∃ Nx1 : Hp → Prop, (∀ H', Nx1 H' → ∃ k', k' < k ∧ W1 (j + 1) k' H') ∧ ∀ x H', J1.yld j H x H' → g1 x (wipe σ2 vs1) H' fun σ3 H5 => wipe σ3 vs1 = wipe σ2 vs1 ∧ tt1 σ3 H5 fun b H6 =>
          if b = true then te σ3 H6 fun y H7 => ∃ acc, H7 D = some (.lst acc) ∧ acc.length < sizeLine ∧ Nx1 (upd H7 D (.lst (acc ++ [y]))) else Nx1 H6)
      else Pv (i + 1) H3) (hd : ∀ H, Pv n H → Qd H) :
    ∃ W : Nat → Nat → Hp → Prop, (∃ m, W 0 m (upd H1 D (.lst []))) ∧ ∀ i m H, W i m H →
      (J.stop i H ∧ Qd H) ∨ (J.go i H ∧ ∃ Nx : Hp → Prop, (∀ H', Nx H' → ∃ m', m' < m ∧ W (i + 1) m' H') ∧ ∀ x H', J.yld i H x H' → g x (wipe σ vs) H' fun σ2 H2 => wipe σ2 vs = wipe σ vs ∧ tt σ2 H2 fun b H3 =>
        if b = true then wi1 σ2 H3 fun J1 H4 => ∃ W1 : Nat → Nat → Hp → Prop, (∃ m, W1 0 m H4) ∧ ∀ j k H, W1 j k H →
          (J1.stop j H ∧ Nx H) ∨ (J1.go j H ∧ ∃ Nx1 : Hp → Prop, (∀ H', Nx1 H' → ∃ k', k' < k ∧ W1 (j + 1) k' H') ∧ ∀ x H', J1.yld j H x H' → g1 x (wipe σ2 vs1) H' fun σ3 H5 => wipe σ3 vs1 = wipe σ2 vs1 ∧ tt1 σ3 H5 fun b H6 =>
            if b = true then te σ3 H6 fun y H7 => ∃ acc, H7 D = some (.lst acc) ∧ acc.length < sizeLine ∧ Nx1 (upd H7 D (.lst (acc ++ [y]))) else Nx1 H6)
        else Nx H3) := by
  refine ⟨fun i m H => m + i = n ∧ Pv i H, ⟨n, by omega, h0⟩, fun i m H ⟨hm, p⟩ => ?_⟩
  have gs := hG i H (by omega) p
  rcases Nat.lt_or_ge i n with lt | ge
  · exact .inr ⟨wk.goes i H lt gs, Pv (i + 1), fun H' p' => ⟨m - 1, by omega, by omega, p'⟩, fun x H' y => hs i x H H' lt p (wk.yields i H x H' lt gs y)⟩
  · have e : i = n := by omega
    subst e
    exact .inl ⟨wk.stops H gs, hd H p⟩
end Mz
set_option Elab.async false
set_option linter.all false
set_option maxRecDepth 100000
set_option maxHeartbeats 4000000
namespace Mz
open PySem PySem.Spec PyProof.Rows L2
theorem rd_keep {H H' : Hp} {a : Addr} {u : HO} (h : Rd H a u) (k : ∀ b o, H b = some o → H' b = some o) : Rd H' a u := by
  rcases h with h | ⟨o, h⟩
  · exact .inl (k _ _ h)
  · exact .inr ⟨o, k _ _ h⟩
theorem sqL_keep {K : PySem.W.Frag} {H H' : Hp} {a : Addr} {xs : List V} (h : SqL K H a xs) (k : ∀ b o, H b = some o → H' b = some o) : SqL K H' a xs := by
  rcases h with h | h
  · exact .inl (rd_keep h k)
  · exact .inr h
theorem sqT_keep {K : PySem.W.Frag} {H H' : Hp} {a : Addr} {xs : List V} (h : SqT K H a xs) (k : ∀ b o, H b = some o → H' b = some o) : SqT K H' a xs := by
  rcases h with h | h
  · exact .inl (rd_keep h k)
  · exact .inr h
/-- a place at an address, by its parts -/
def PlR (C : Addr) (H : Hp) : Addr → Str × Int → Prop := fun a p => Pl C H a p.1 p.2
theorem PlR.same {C : Addr} {H H' : Hp} (s : Same H H') {a : Addr} {p : Str × Int} (h : PlR C H a p) : PlR C H' a p := by
  obtain ⟨dx, h⟩ := h
  exact ⟨dx, s _ _ h⟩
abbrev Row := Str × List (Str × Int)
/-- a row: a word with as many places as it wants, each of them one -/
def RwOk (rw : Row) : Prop := plS rw.1 = some (rw.2.length : Int) ∧ ∀ p ∈ rw.2, Good p.1 p.2
/-- a row that is given: a tuple of its word and of what stands for its places -/
def RwG (K : PySem.W.Frag) (C : Addr) (H : Hp) (a : Addr) (rw : Row) : Prop := ∃ items, H a = some (.tup (.str rw.1 :: items)) ∧ Lk (fun v (p : Str × Int) => Pv6 K C H v p.1 p.2) items rw.2 ∧ RwOk rw
theorem RwG.same {K : PySem.W.Frag} {C : Addr} {H H' : Hp} (s : Same H H') {a : Addr} {rw : Row} (h : RwG K C H a rw) : RwG K C H' a rw := by
  obtain ⟨items, h1, h2, h3⟩ := h
  exact ⟨items, s _ _ h1, h2.imp fun _ _ x => x.same s, h3⟩
/-- a row with Place objects -/
def RwP (C : Addr) (H : Hp) (a : Addr) (rw : Row) : Prop := ∃ qs : List Addr, H a = some (.tup (.str rw.1 :: qs.map V.ref)) ∧ Lk (PlR C H) qs rw.2 ∧ RwOk rw
theorem RwP.same {C : Addr} {H H' : Hp} (s : Same H H') {a : Addr} {rw : Row} (h : RwP C H a rw) : RwP C H' a rw := by
  obtain ⟨items, h1, h2, h3⟩ := h
  exact ⟨items, s _ _ h1, h2.imp fun _ _ x => x.same s, h3⟩
theorem Row.le {rw : Row} (h : RwOk rw) : 1 ≤ rw.2.length ∧ rw.2.length ≤ 2 := by
  have := plS_le h.1
  omega
theorem RwG.fct {K : PySem.W.Frag} {C : Addr} {H : Hp} {a : Addr} {rw : Row} (h : RwG K C H a rw) : Fct K C H (.ref a) true := by
  obtain ⟨items, h1, h2, h3⟩ := h
  have hl := h2.length
  have hp1 := h3.1
  refine .inr ⟨a, _, rfl, h1, .inr ⟨_, items, rfl, .inr ⟨rw.1, rfl, .inr ⟨_, h3.1, .inr ⟨by omega, List.replicate items.length true, by simp, fun i v b hv hb => ?_, by simp⟩⟩⟩⟩⟩
  obtain ⟨p, _, hp⟩ := h2.get hv
  have : b = true := by
    have m := List.mem_of_getElem? hb
    exact List.eq_of_mem_replicate m
  rw [this]
  exact hp.pi
def spPlaced (K : PySem.W.Frag) (C : Addr) : Sp := fun vs H Q _ => ∃ (a : Addr) (rw : Row), vs = [.ref a] ∧ RwG K C H a rw ∧ ∀ q H', Same H H' → H q = none → RwP C H' q rw → Q (.ref q) H'
/-- all the places of rows -/
def plsOf (rws : List Row) : List (Str × Int) := rws.flatMap (·.2)
def spPlacesOf (K : PySem.W.Frag) (C : Addr) : Sp := fun vs H Q _ => ∃ (rl : Addr) (as : List Addr) (rws : List Row), vs = [.ref rl] ∧ SqL K H rl (as.map V.ref) ∧ Lk (RwP C H) as rws ∧ rws.length ≤ 100 ∧
  ∀ (p : Addr) (qs : List Addr) (H' : Hp), Same H H' → H p = none → H' p = some (.lst (qs.map V.ref)) → Lk (PlR C H') qs (plsOf rws) → Q (.ref p) H'
section
variable {P : Program} {w : World} {K : PySem.W.Frag} {mg : Str → Option Value} {base : Heap}
theorem cut1 {x : V} {r : List V} : cutV (x :: r) (some (1 : Int)) none = r := by
  unfold cutV
  have s10 : HT.sIx (r.length + 1) 0 (some (1 : Int)) = 1 := by
    unfold HT.sIx
    simp
  rw [List.length_cons, s10]
  show ((x :: r).drop 1).take (r.length + 1 - 1) = r
  simp
theorem cut1n {x : V} {r : List V} : ¬ (HT.sIx (x :: r).length 0 (some (1 : Int)) = 0 ∧ HT.sIx (x :: r).length (x :: r).length none = (x :: r).length) := by
  have s10 : HT.sIx (r.length + 1) 0 (some (1 : Int)) = 1 := by
    unfold HT.sIx
    simp
  rw [List.length_cons, s10]
  exact fun h => absurd h.1 (by decide)
theorem scPlaced : FnScope ["row", "item"] ["row"] (defScope sPlacedRow) := ⟨rfl, rfl, rfl, by decide +kernel, rfl, by decide +kernel, by decide +kernel⟩
theorem ok_placed {f fO C cX po : Addr} {fd fdO : FuncData} (F : Fun K "placed_row" "placed_row" sPlacedRow f fd) (Z : Cpl K mg C) (O : OfM P w K mg base C cX po fO fdO) : FnOk P w K mg base CX0 6 f fd ["row"] (spPlaced K C) := by
  refine F.ok scPlaced (fun vs H Q E h => ?_) (fun cdv A outer s H vs Q E hr h => ?_)
  · obtain ⟨a, rw, rfl, _⟩ := h
    rfl
  · obtain ⟨a, rw, rfl, ⟨items, ha, hit, hpl⟩, q⟩ := h
    have nd := scPlaced.nd
    refine ⟨_, pss_one (ps_ret (pe_tup (pa_cons (pe_ix ix_tup (pv 0) pe_int (fun _ _ => rfl)) (StX.pa_star (pe_lc (own := [("item", 1)]) (g := gName 1) (tt := tYes) rfl nd (pi_tup (pe_slice sl_tup (pv 0) (po_some pe_int) po_none)) (blkOk_by (N := ["row", "item"]) (sc := defScope sPlacedRow) (by decide +kernel)) (fun _ _ _ _ _ => pg_name (i := 1) nd rfl (Or.inl rfl)) (fun _ _ _ _ _ => pts_nil)
      (fun _ _ _ _ _ => pe_w (pe_cmethS (ES := fun _ => E0) (pe_glob (v := .ref C) rfl Z.mgC rfl) O.rd O.met O.ok hr O.b (fun σ => pass_no) (pa_cons (pv 1) pa_nil)))) pa_nil)))), ?_⟩
    have i0 : atI (V.str rw.1 :: items) (0 : Int) = some (.str rw.1) := atI_nat (xs := V.str rw.1 :: items) (j := 0) rfl
    refine ⟨_, rfl, a, _, _, _, rfl, rfl, SqT.of ha, i0, ?_⟩
    refine ⟨_, rfl, _, rfl, a, _, rfl, SqT.of ha, cut1n, fun p1 n1 => ?_⟩
    rw [cut1]
    have s1 : Same H (upd H p1 (.tup items)) := same_nw n1
    have t1 : upd H p1 (.tup items) p1 = some (.tup items) := upd_same
    generalize upd H p1 (.tup items) = H1 at s1 t1
    refine ⟨p1, rfl, ⟨_, SqT.of t1⟩, fun D nD => ?_⟩
    have p1D : p1 ≠ D := ne_of_none t1 nD
    have oldD : ∀ b o, H b = some o → b ≠ D := fun b o e => ne_of_none (s1 _ _ e) nD
    have hl2 := Row.le hpl
    have hll := hit.length
    refine lc_tup (xs := items) (fun i H' => (∀ b o, b ≠ D → H1 b = some o → H' b = some o) ∧ ∃ qs : List Addr, H' D = some (.lst (qs.map V.ref)) ∧ Lk (PlR C H') qs (rw.2.take i))
      ⟨fun b o n e => by rw [upd_ne n]; exact e, [], upd_same, by rw [List.take_zero]; exact .nil⟩ (fun i H' _ h => SqT.of (h.1 _ _ p1D t1)) ?_ ?_
    · rintro i x H3 hx ⟨keep, qs, hD, hq⟩
      obtain ⟨⟨z, k⟩, hy, pv6⟩ := hit.get hx
      have hi : i < items.length := (List.getElem?_eq_some_iff.mp hx).1
      have old : Same H H3 := fun b o e => keep b o (oldD b o e) (s1 _ _ e)
      have lq := hq.length
      rw [List.length_take] at lq
      have fin : ∀ (r : Addr) (H4 : Hp), Same H3 H4 → Pl C H4 r z k → ∃ acc, H4 D = some (.lst acc) ∧ acc.length < sizeLine ∧ (∀ b o, b ≠ D → H1 b = some o → upd H4 D (.lst (acc ++ [V.ref r])) b = some o) ∧ ∃ qs : List Addr, upd H4 D (.lst (acc ++ [V.ref r])) D = some (.lst (qs.map V.ref)) ∧ Lk (PlR C (upd H4 D (.lst (acc ++ [V.ref r])))) qs (rw.2.take (i + 1)) := by
        intro r H4 s4 pr
        have hD4 := s4 _ _ hD
        have kp : ∀ {b : Addr} {p : Str × Int} (o : HO), PlR C H4 b p → PlR C (upd H4 D o) b p := fun {b p} o ⟨dx, e⟩ => ⟨dx, by rw [upd_ne (fun e2 => by rw [e2, hD4] at e; cases e)]; exact e⟩
        refine ⟨_, hD4, ?_, fun b o n e => by rw [upd_ne n]; exact s4 _ _ (keep b o n e), qs ++ [r], by rw [upd_same, List.map_append]; rfl, ?_⟩
        · rw [List.length_map]
          exact Nat.lt_of_lt_of_le (show qs.length < 10 by omega) (by decide)
        · rw [List.take_succ, hy]
          exact (hq.imp fun _ _ x => kp _ (x.same s4)).append (Lk.one (kp _ pr))
      refine ⟨rfl, ?_⟩
      unfold tYes tW
      refine iteT ⟨rfl, _, rfl, x, rfl, ?_⟩
      rcases pv6.same old with ⟨r, rfl, pr⟩ | ⟨np, ev⟩
      · exact .inl ⟨r, z, k, rfl, pr, fin r H3 (Same.refl _) pr⟩
      · refine .inr ⟨np, fun z2 k2 e p H4 n4 sm pp g => ?_, fun e d H4 n4 sm hd => ?_⟩
        · rw [ev] at e
          cases e
          exact fin p H4 sm pp
        · rw [ev] at e
          cases e
    · rintro H3 ⟨keep, qs, hD, hq⟩
      have old : Same H H3 := fun b o e => keep b o (oldD b o e) (s1 _ _ e)
      rw [List.take_of_length_le (by omega)] at hq
      have lq := hq.length
      refine ⟨D, qs.map V.ref, rfl, .inr (SqL.of hD), ?_⟩
      refine ⟨?_, fun t nt => ?_⟩
      · show (V.str rw.1 :: (qs.map V.ref ++ [])).length ≤ sizeLine
        rw [List.append_nil, List.length_cons, List.length_map]
        exact Nat.le_trans (show qs.length + 1 ≤ 10 by omega) (by decide)
      · refine q t _ (old.trans (same_nw nt)) (old.free nt) ⟨qs, ?_, hq.imp fun _ _ x => x.same (same_nw nt), hpl⟩
        rw [upd_same, List.append_nil]
theorem scPlacesOf : FnScope ["rows", "row", "place"] ["rows"] (defScope sPlacesOf) := ⟨rfl, rfl, rfl, by decide +kernel, rfl, by decide +kernel, by decide +kernel⟩
theorem ok_placesOf {f C : Addr} {fd : FuncData} (F : Fun K "places_of_rows" "places_of_rows" sPlacesOf f fd) : FnOk P w K mg base CX0 1 f fd ["rows"] (spPlacesOf K C) := by
  refine F.ok scPlacesOf (fun vs H Q E h => ?_) (fun cdv A outer s H vs Q E hr h => ?_)
  · obtain ⟨rl, as, rws, rfl, _⟩ := h
    rfl
  · obtain ⟨rl, as, rws, rfl, hL, hR, hn, q⟩ := h
    have nd := scPlacesOf.nd
    refine ⟨_, pss_one (ps_ret (by exact pe_lc2 (own := [("row", 1), ("place", 2)]) (vs1 := [2]) (g := gName 1) (g1 := gName 2) (tt := tYes) (tt1 := tYes) rfl nd (pi_list (pv 0)) (blkOk_by (N := ["rows", "row", "place"]) (sc := defScope sPlacesOf) (by decide +kernel)) (by decide) (fun _ _ _ _ _ => pg_name (i := 1) nd rfl (Or.inl rfl)) (fun _ _ _ _ _ => pts_nil) (fun _ _ _ _ _ => pi_tupK K (pe_slice (sl_tupK K) (pv 1) (po_some pe_int) po_none)) (fun _ _ _ _ _ => pg_name (i := 2) nd rfl (Or.inl rfl)) (fun _ _ _ _ _ => pts_nil) (fun _ _ _ _ _ => pv 2))), ?_⟩
    refine ⟨_, rfl, rl, rfl, ⟨_, hL⟩, fun D nD => ?_⟩
    have oldD : ∀ b o, H b = some o → b ≠ D := fun b o e => ne_of_none e nD
    have big : 1000 ≤ sizeLine := by decide
    have two : ∀ n, (plsOf (rws.take n)).length ≤ 2 * n := by
      intro n
      have all : ∀ l : List Row, (∀ rw ∈ l, rw.2.length ≤ 2) → (plsOf l).length ≤ 2 * l.length := by
        intro l
        induction l with
        | nil => intro _; decide
        | cons r l ih =>
          intro h
          have h1 := h r (List.mem_cons_self ..)
          have h2 := ih fun x hx => h x (List.mem_cons_of_mem _ hx)
          show (r.2 ++ plsOf l).length ≤ _
          rw [List.length_append, List.length_cons]
          omega
      refine Nat.le_trans (all _ fun rw hrw => ?_) (by rw [List.length_take]; omega)
      obtain ⟨a, _, items, _, _, h3⟩ := hR.memR (List.mem_of_mem_take hrw)
      exact (Row.le h3).2
    have lR := hR.length
    refine lc2_out (walk_list (xs := as.map V.ref)) (fun i H' => (∀ b o, b ≠ D → H b = some o → H' b = some o) ∧ ∃ qs : List Addr, H' D = some (.lst (qs.map V.ref)) ∧ Lk (PlR C H') qs (plsOf (rws.take i)))
      ⟨fun b o n e => by rw [upd_ne n]; exact e, [], upd_same, by rw [List.take_zero]; exact .nil⟩ (fun i H' _ h => sqL_keep hL fun b o e => h.1 b o (oldD b o e) e) ?_ ?_
    · rintro i x H1 H2 hi ⟨keep, qs, hD, hq⟩ ⟨rfl, hx⟩
      rw [List.getElem?_map] at hx
      obtain ⟨a, ha, rfl⟩ := Option.map_eq_some_iff.mp hx
      obtain ⟨rw, hrw, items, h1, h2, h3⟩ := hR.get ha
      have hi2 : i < rws.length := (List.getElem?_eq_some_iff.mp hrw).1
      have a2 := keep a _ (oldD a _ h1) h1
      have n2 := h2.length
      refine ⟨rfl, yesT ?_⟩
      refine ⟨_, rfl, _, rfl, a, _, rfl, SqT.of a2, cut1n, fun p1 n1 => ?_⟩
      rw [cut1]
      have s3 : Same H2 (upd H2 p1 (.tup (items.map V.ref))) := same_nw n1
      have t3 : upd H2 p1 (.tup (items.map V.ref)) p1 = some (.tup (items.map V.ref)) := upd_same
      generalize upd H2 p1 (.tup (items.map V.ref)) = H3 at s3 t3
      have hD3 := s3 _ _ hD
      have p1D : p1 ≠ D := fun e => by
        rw [e, hD] at n1
        cases n1
      refine ⟨p1, rfl, ⟨_, SqT.of t3⟩, ?_⟩
      refine lc2_in (walk_tup (xs := items.map V.ref)) (fun j H' => (∀ b o, b ≠ D → H3 b = some o → H' b = some o) ∧ ∃ qs : List Addr, H' D = some (.lst (qs.map V.ref)) ∧ Lk (PlR C H') qs (plsOf (rws.take i) ++ rw.2.take j))
        ⟨fun b o n e => e, qs, hD3, by rw [List.take_zero, List.append_nil]; exact hq.imp fun _ _ x => x.same s3⟩ (fun j H' _ h => SqT.of (h.1 _ _ p1D t3)) ?_ ?_
      · rintro j y H4 H5 hj ⟨keep4, qs4, hD4, hq4⟩ ⟨rfl, hy⟩
        rw [List.getElem?_map] at hy
        obtain ⟨r, hr2, rfl⟩ := Option.map_eq_some_iff.mp hy
        obtain ⟨p, hp, pr⟩ := h2.get hr2
        have l4 := hq4.length
        have t2i := two i
        rw [List.length_append, List.length_take] at l4
        have le2 := (Row.le h3).2
        refine ⟨rfl, yesT ?_⟩
        refine ⟨_, rfl, _, hD4, ?_, fun b o n e => by rw [upd_ne n]; exact keep4 b o n e, qs4 ++ [r], by rw [upd_same, List.map_append]; rfl, ?_⟩
        · rw [List.length_map]
          omega
        · have kp : ∀ {b : Addr} {p : Str × Int} (o : HO), PlR C H5 b p → PlR C (upd H5 D o) b p := fun {b p} o ⟨dx, e⟩ => ⟨dx, by rw [upd_ne (fun e2 => by rw [e2, hD4] at e; cases e)]; exact e⟩
          rw [List.take_succ, hp, ← List.append_assoc]
          refine (hq4.imp fun _ _ x => kp _ x).append (Lk.one (kp _ ?_))
          obtain ⟨dx, e⟩ := pr
          exact ⟨dx, keep4 _ _ (oldD _ _ e) (s3 _ _ (keep _ _ (oldD _ _ e) e))⟩
      · rintro H4 ⟨keep4, qs4, hD4, hq4⟩
        refine ⟨fun b o n e => keep4 b o n (s3 _ _ (keep b o n e)), qs4, hD4, ?_⟩
        rw [List.length_map, n2, List.take_length] at hq4
        rw [List.take_succ, hrw]
        unfold plsOf
        rw [List.flatMap_append]
        show Lk _ _ (plsOf (rws.take i) ++ (rw.2 ++ []))
        rw [List.append_nil]
        exact hq4
    · rintro H1 ⟨keep, qs, hD, hq⟩
      rw [List.length_map, List.take_of_length_le (by omega)] at hq
      exact q D qs H1 (fun b o e => keep b o (oldD b o e) e) nD hD hq
end
end Mz
set_option Elab.async false
set_option linter.all false
set_option maxRecDepth 100000
set_option maxHeartbeats 4000000
namespace Mz
open PySem PySem.Spec PyProof.Rows L2
/-- the names of places, ascending -/
def Unk (ps : List (Str × Int)) (ys : List Str) : Prop := sortedS ys = true ∧ ys.Nodup ∧ ∀ z, z ∈ ys ↔ z ≠ "" ∧ ∃ k, (z, k) ∈ ps
def spUnkOf (K : PySem.W.Frag) (C : Addr) : Sp := fun vs H Q _ => ∃ (pl : Addr) (qs : List Addr) (ps : List (Str × Int)), vs = [.ref pl] ∧ SqL K H pl (qs.map V.ref) ∧ Lk (PlR C H) qs ps ∧ ps.length < 60 ∧
  ∀ (p : Addr) (ys : List Str) (H' : Hp), Same H H' → H p = none → H' p = some (.lst (ys.map V.str)) → Unk ps ys → Q (.ref p) H'
section
variable {P : Program} {w : World} {K : PySem.W.Frag} {mg : Str → Option Value} {base : Heap}
theorem scUnkOf : FnScope ["places", "place"] ["places"] (defScope sUnkOf) := ⟨rfl, rfl, rfl, by decide +kernel, rfl, by decide +kernel, by decide +kernel⟩
theorem ok_unkOf {f C pb gb : Addr} {fd fdb : FuncData} (F : Fun K "unknowns_of" "unknowns_of" sUnkOf f fd) (Z : Cpl K mg C) (mS : mg "sorted" = none) (pB : PropOf K C "base" pb gb) (Gb : FnOk P w K mg base CX0 1 gb fdb ["self"] (spBase C)) (bb : Binds K fdb ["self"] []) :
    FnOk P w K mg base CX0 3 f fd ["places"] (spUnkOf K C) := by
  refine F.ok scUnkOf (fun vs H Q E h => ?_) (fun cdv A outer s H vs Q E hr h => ?_)
  · obtain ⟨pl, qs, ps, rfl, _⟩ := h
    rfl
  · obtain ⟨pl, qs, ps, rfl, hL, hq, hn, q⟩ := h
    have nd := scUnkOf.nd
    refine ⟨_, pss_one (ps_ret (pe_callB (cr_sortSet rfl) (by rfl) mS (by decide +kernel) (pa_cons (pe_scS (own := [("place", 1)]) (g := gName 1) rfl nd (pi_list (pv 0)) (blkOk_by (N := ["places", "place"]) (sc := defScope sUnkOf) (by decide +kernel)) (fun _ _ _ _ _ => pg_name (i := 1) nd rfl (Or.inl rfl)) (fun _ _ _ _ _ => pts_one (pt_cmpR op_ne (pe_w (pe_prop (pv 1) Z.cl pB Gb hr bb .nil pass0 rfl)) pe_str (nomark _))) (fun _ _ _ _ _ => pe_w (pe_prop (pv 1) Z.cl pB Gb hr bb .nil pass0 rfl))) pa_nil))), ?_⟩
    refine ⟨_, rfl, pl, rfl, ⟨_, hL⟩, fun D nD => ?_⟩
    have oldD : ∀ b o, H b = some o → b ≠ D := fun b o e => ne_of_none e nD
    have lq := hq.length
    refine scS_it (P := P) (w := w) (walk_list (xs := qs.map V.ref)) (fun i H' => (∀ b o, b ≠ D → H b = some o → H' b = some o) ∧ ∃ (S : Str → Bool) (n : Nat), H' D = some (SetS P w D S n) ∧ n ≤ i ∧ ∀ z, S z = true ↔ z ≠ "" ∧ ∃ k, (z, k) ∈ ps.take i)
      ⟨fun b o n e => by rw [upd_ne n]; exact e, _, 0, upd_same, Nat.le_refl _, fun z => by simp⟩ (fun i H' _ h => sqL_keep hL fun b o e => h.1 b o (oldD b o e) e) ?_ ?_
    · rintro i x H1 H2 hi ⟨keep, S, n, hD, hni, hS⟩ ⟨rfl, hx⟩
      rw [List.getElem?_map] at hx
      obtain ⟨a, ha, rfl⟩ := Option.map_eq_some_iff.mp hx
      obtain ⟨⟨z, k⟩, hp, dx, pa⟩ := hq.get ha
      have pa2 := keep a _ (oldD a _ pa) pa
      have tk : ps.take (i + 1) = ps.take i ++ [(z, k)] := by rw [List.take_succ, hp]; rfl
      rw [List.length_map] at hi
      have sb : 1000 < scanBound := by decide
      refine ⟨rfl, ?_⟩
      refine ⟨_, rfl, a, dx, _, rfl, pa2, a, z, k, rfl, ⟨dx, pa2⟩, ?_⟩
      refine ⟨rfl, _, rfl, ?_⟩
      by_cases e : z = ""
      · subst e
        refine iteF ⟨keep, S, n, hD, by omega, fun y => ?_⟩
        rw [hS y, tk]
        constructor
        · rintro ⟨h1, k1, h2⟩
          exact ⟨h1, k1, List.mem_append_left _ h2⟩
        · rintro ⟨h1, k1, h2⟩
          rcases List.mem_append.mp h2 with h2 | h2
          · exact ⟨h1, k1, h2⟩
          · cases List.mem_singleton.mp h2
            exact absurd rfl h1
      · rw [show (!decide (V.str z = V.str "")) = true by rw [decide_eq_false (fun x => e (V.str.inj x))]; rfl]
        refine iteT ⟨_, rfl, a, dx, _, rfl, pa2, a, z, k, rfl, ⟨dx, pa2⟩, z, S, n, rfl, hD, by omega, fun b o n2 e2 => by rw [upd_ne n2]; exact keep b o n2 e2, _, _, upd_same, ?_, fun y => ?_⟩
        · split <;> omega
        · rw [Bool.or_eq_true, decide_eq_true_eq, hS y, tk]
          constructor
          · rintro (⟨h1, k1, h2⟩ | rfl)
            · exact ⟨h1, k1, List.mem_append_left _ h2⟩
            · exact ⟨e, k, List.mem_append_right _ (List.mem_singleton.mpr rfl)⟩
          · rintro ⟨h1, k1, h2⟩
            rcases List.mem_append.mp h2 with h2 | h2
            · exact .inl ⟨h1, k1, h2⟩
            · cases List.mem_singleton.mp h2
              exact .inr rfl
    · rintro H1 ⟨keep, S, n, hD, hni, hS⟩
      rw [List.length_map] at hni
      rw [List.length_map, List.take_of_length_le (by omega)] at hS
      have old : Same H H1 := fun b o e => keep b o (oldD b o e) e
      exact ⟨D, S, n, rfl, hD, by omega, fun ys p h1 h2 h3 h4 np => q p ys _ (old.trans (same_nw np)) (old.free np) upd_same ⟨h1, h2, fun z => (h3 z).trans (hS z)⟩⟩
end
end Mz
set_option Elab.async false
set_option linter.all false
set_option maxRecDepth 100000
set_option maxHeartbeats 4000000
namespace Mz
open PySem PySem.Spec PyProof.Rows L2
/-- the value of a place at sizes -/
def wtP (kvs : List (Key × V)) (p : Str × Int) : Int := (wtK kvs p.1 p.2).getD 0
/-- whether a setting keeps a row -/
def keepR (kvs : List (Key × V)) (pg : Int) (rw : Row) : Bool := match rw.2 with
  | [p] => decide (wtP kvs p % pg = 0)
  | [p, r] => decide (wtP kvs p ≤ wtP kvs r)
  | _ => false
/-- a setting has all that a row wants -/
def HasR (kvs : List (Key × V)) (rw : Row) : Prop := ∀ p ∈ rw.2, ∃ n, wtK kvs p.1 p.2 = some n
def spHasSizes (K : PySem.W.Frag) (S : Addr) : Sp := fun vs H Q _ => ∃ (s ul : Addr) (kvs : List (Key × V)) (pg : Int) (ys : List Str), vs = [.ref s, .ref ul] ∧ Stg S H s kvs pg ∧ SqL K H ul (ys.map V.str) ∧ (∀ y ∈ ys, Sm 1000 y) ∧ ys.length ≤ 100 ∧
  ∀ H', Same H H' → Q (.bl (ys.all fun y => (valV kvs (.inr y)).isSome)) H'
def spKeeps (K : PySem.W.Frag) (S C : Addr) : Sp := fun vs H Q _ => ∃ (s a : Addr) (kvs : List (Key × V)) (pg : Int) (rw : Row), vs = [.ref s, .ref a] ∧ Stg S H s kvs pg ∧ KInt kvs ∧ 1 ≤ pg ∧ RwP C H a rw ∧ HasR kvs rw ∧ ∀ H', Same H H' → Q (.bl (keepR kvs pg rw)) H'
section
variable {P : Program} {w : World} {K : PySem.W.Frag} {mg : Str → Option Value} {base : Heap}
theorem scHasSizes : FnScope ["setting", "unknowns", "name"] ["setting", "unknowns"] (defScope sHasSizes) := ⟨rfl, rfl, rfl, by decide +kernel, rfl, by decide +kernel, by decide +kernel⟩
theorem ok_hasSizes {f S g5 : Addr} {fd fd5 : FuncData} (F : Fun K "has_sizes" "has_sizes" sHasSizes f fd) (D : Blp mg) (GC : FnOk P w K mg base CX0 1 g5 fd5 ["self", "x"] (spContS K S)) (bC : Binds K fd5 ["self", "x"] []) (iC : PySem.W.findIn K (.ref S) "__contains__" = some (some (.ref g5))) (jC : PySem.W.isFn K (.ref g5) = true) :
    FnOk P w K mg base CX0 2 f fd ["setting", "unknowns"] (spHasSizes K S) := by
  refine F.ok scHasSizes (fun vs H Q E h => ?_) (fun cdv A outer s H vs Q E hr h => ?_)
  · obtain ⟨s, ul, kvs, pg, ys, rfl, _⟩ := h
    rfl
  · obtain ⟨st, ul, kvs, pg, ys, rfl, hst, hL, hsm, hn, q⟩ := h
    have nd := scHasSizes.nd
    refine ⟨_, pss_one (ps_ret (pe_callB (cr_all rfl) (by rfl) D.all (by decide +kernel) (pa_cons (pe_lc (own := [("name", 2)]) (g := gName 2) (tt := tYes) rfl nd (pi_list (pv 1)) (blkOk_by (N := ["setting", "unknowns", "name"]) (sc := defScope sHasSizes) (by decide +kernel)) (fun _ _ _ _ _ => pg_name (i := 2) nd rfl (Or.inl rfl)) (fun _ _ _ _ _ => pts_nil)
      (fun _ _ _ _ _ => pe_w (pe_cmpR (op_inO GC hr bC iC jC) (pv 2) (pv 0) (by rfl)))) pa_nil))), ?_⟩
    refine ⟨_, rfl, ul, rfl, ⟨_, hL⟩, fun Dd nD => ?_⟩
    have oldD : ∀ b o, H b = some o → b ≠ Dd := fun b o e => ne_of_none e nD
    refine lc_it (walk_list (xs := ys.map V.str)) (fun i H' => (∀ b o, b ≠ Dd → H b = some o → H' b = some o) ∧ H' Dd = some (.lst (((ys.take i).map fun y => (valV kvs (.inr y)).isSome).map V.bl)))
      ⟨fun b o n e => by rw [upd_ne n]; exact e, upd_same⟩ (fun i H' _ h => sqL_keep hL fun b o e => h.1 b o (oldD b o e) e) ?_ ?_
    · rintro i x H1 H2 hi ⟨keep, hD⟩ ⟨rfl, hx⟩
      rw [List.getElem?_map] at hx
      obtain ⟨y, hy, rfl⟩ := Option.map_eq_some_iff.mp hx
      have hm := hsm y (List.mem_of_getElem? hy)
      have old : Same H H2 := fun b o e => keep b o (oldD b o e) e
      obtain ⟨dx, d, h1, h2⟩ := hst.same old
      rw [List.length_map] at hi
      refine ⟨rfl, yesT ?_⟩
      unfold tW
      refine ⟨_, rfl, _, rfl, st, dx, _, rfl, h1, st, .str y, kvs, pg, rfl, ⟨dx, d, h1, h2⟩, .str y hm.1 hm.2, _, rfl, _, hD, ?_, fun b o n e => by rw [upd_ne n]; exact keep b o n e, ?_⟩
      · rw [List.length_map, List.length_map, List.length_take]
        exact Nat.lt_of_lt_of_le (show min i ys.length < 1000 by omega) (by decide)
      · rw [upd_same, List.take_succ, hy, List.map_append, List.map_append]
        rfl
    · rintro H1 ⟨keep, hD⟩
      rw [List.length_map, List.take_length] at hD
      have e : (ys.map fun y => (valV kvs (.inr y)).isSome).all id = ys.all fun y => (valV kvs (.inr y)).isSome := by
        rw [List.all_map]
        rfl
      refine ⟨Dd, ys.map fun y => (valV kvs (.inr y)).isSome, rfl, SqL.of hD, ?_⟩
      rw [e]
      exact q _ fun b o e => keep b o (oldD b o e) e
theorem scKeeps : FnScope ["setting", "row"] ["setting", "row"] (defScope sKeeps) := ⟨rfl, rfl, rfl, by decide +kernel, rfl, by decide +kernel, by decide +kernel⟩
theorem ok_keeps {f S C cX fG pg2 g2 : Addr} {fd fdG fd2 : FuncData} (F : Fun K "keeps" "keeps" sKeeps f fd) (T : Scl K mg S) (GG : FnOk P w K mg base (L2.CX P w) 6 fG fdG ["self", "at"] (spGetS K S C cX)) (bG : Binds K fdG ["self", "at"] [])
    (iG : PySem.W.findIn K (.ref S) "__getitem__" = some (some (.ref fG))) (fG2 : PySem.W.fnIn K fG = true) (jG : PySem.W.isFn K (.ref fG) = true) (pP : PropOf K S "page" pg2 g2) (GP : FnOk P w K mg base CX0 1 g2 fd2 ["self"] (spPageS S)) (bP : Binds K fd2 ["self"] []) :
    FnOk P w K mg base CX0 8 f fd ["setting", "row"] (spKeeps K S C) := by
  refine F.ok scKeeps (fun vs H Q E h => ?_) (fun cdv A outer s H vs Q E hr h => ?_)
  · obtain ⟨s, a, kvs, pg, rw, rfl, _⟩ := h
    rfl
  · obtain ⟨st, a, kvs, pg, rw, rfl, hst, hki, hpg, ⟨qs, ha, hq, hpl, _⟩, hh, q⟩ := h
    have hr2 : Room 2 _ := hr.mono (by decide)
    refine ⟨_, pss_cons (ps_if (pt_cmpR op_eq (pe_ix ix_tup (pv 1) pe_int (fun _ _ => rfl)) pe_str (nomark _)) (pss_one (ps_ret (pe_cmpR op_eq (pe_op op_modN (pe_subS (E := fun _ => E0) GG hr bG iG fG2 jG (fun σ => pass_no) (pv 0) (pe_ix ix_tup (pv 1) pe_int (fun _ _ => rfl))) (pe_prop (pv 0) T.cl pP GP hr2 bP .nil pass0 rfl)) pe_int (nomark _)))) pss_nil)
      (pss_one (ps_ret (pe_cmpR op_le (pe_subS (E := fun _ => E0) GG hr bG iG fG2 jG (fun σ => pass_no) (pv 0) (pe_ix ix_tup (pv 1) pe_int (fun _ _ => rfl))) (pe_subS (E := fun _ => E0) GG hr bG iG fG2 jG (fun σ => pass_no) (pv 0) (pe_ix ix_tup (pv 1) pe_int (fun _ _ => rfl))) (nomark _)))), ?_⟩
    have i0 : atI (V.str rw.1 :: qs.map V.ref) (0 : Int) = some (.str rw.1) := atI_nat (xs := V.str rw.1 :: qs.map V.ref) (j := 0) rfl
    refine ⟨_, rfl, a, _, _, _, rfl, rfl, SqT.of ha, i0, rfl, _, rfl, ?_⟩
    have lq := hq.length
    have plv : ∀ {H2 : Hp} {r : Addr} {p : Str × Int}, Same H H2 → PlR C H r p → PlV K C H2 kvs (.ref r) (wtK kvs p.1 p.2) := fun {H2 r p} sm pr => .inl ⟨r, p.1, p.2, rfl, pr.same sm, rfl⟩
    obtain ⟨dx, d, h1, h2⟩ := id hst
    obtain ⟨wd, prs⟩ := rw
    match prs, hq, hpl, hh, q, lq with
    | [p], .cons (x := r) pr .nil, hpl, hh, q, _ =>
      have ew : wd = "page" := by
        by_cases e1 : wd = "at_most"
        · subst e1
          cases hpl
        · have hpl : plS wd = some 1 := hpl
          unfold plS at hpl
          rw [if_neg e1] at hpl
          split at hpl
          · assumption
          · cases hpl
      obtain ⟨n, hn⟩ := hh p (List.mem_singleton.mpr rfl)
      rw [decide_eq_true (by rw [ew])]
      have i1 : atI [V.str wd, V.ref r] (1 : Int) = some (.ref r) := rfl
      refine iteT ⟨_, rfl, _, rfl, a, _, _, _, rfl, rfl, SqT.of ha, i1, st, dx, _, rfl, h1, st, .ref r, kvs, pg, _, rfl, hst, hki, plv (Same.refl H) pr, fun m hm H1 s1 => ?_, fun e => by rw [hn] at e; cases e⟩
      rw [hn] at hm
      cases hm
      obtain ⟨dx1, d1, h11, h21⟩ := hst.same s1
      refine ⟨_, rfl, st, dx1, _, rfl, h11, st, kvs, pg, rfl, ⟨dx1, d1, h11, h21⟩, _, _, rfl, rfl, by omega, rfl, ?_⟩
      have e : keepR kvs pg (wd, [p]) = decide (V.int (n.fmod pg) = V.int 0) := by
        show decide (wtP kvs p % pg = 0) = _
        unfold wtP
        rw [hn, Int.fmod_eq_emod_of_nonneg _ (by omega)]
        exact decide_eq_decide.mpr ⟨fun x => by rw [← x]; rfl, fun x => V.int.inj x⟩
      rw [← e]
      exact q H1 s1
    | [p, p2], .cons (x := r) pr (.cons (x := r2) pr2 .nil), hpl, hh, q, _ =>
      have ew : ¬ wd = "page" := fun e => by
        subst e
        cases hpl
      obtain ⟨n, hn⟩ := hh p (by simp)
      obtain ⟨n2, hn2⟩ := hh p2 (by simp)
      rw [decide_eq_false (fun x => ew (V.str.inj x))]
      have i1 : atI [V.str wd, V.ref r, V.ref r2] (1 : Int) = some (.ref r) := rfl
      have i2 : atI [V.str wd, V.ref r, V.ref r2] (2 : Int) = some (.ref r2) := rfl
      refine iteF ⟨_, rfl, _, rfl, a, _, _, _, rfl, rfl, SqT.of ha, i1, st, dx, _, rfl, h1, st, .ref r, kvs, pg, _, rfl, hst, hki, plv (Same.refl H) pr, fun m hm H1 s1 => ?_, fun e => by rw [hn] at e; cases e⟩
      rw [hn] at hm
      cases hm
      obtain ⟨dx1, d1, h11, h21⟩ := hst.same s1
      refine ⟨_, rfl, _, rfl, a, _, _, _, rfl, rfl, SqT.of (s1 _ _ ha), i2, st, dx1, _, rfl, h11, st, .ref r2, kvs, pg, _, rfl, ⟨dx1, d1, h11, h21⟩, hki, plv s1 pr2, fun m hm H2 s2 => ?_, fun e => by rw [hn2] at e; cases e⟩
      rw [hn2] at hm
      cases hm
      refine ⟨_, _, rfl, rfl, ?_⟩
      have e : keepR kvs pg (wd, [p, p2]) = decide (n ≤ n2) := by
        show decide (wtP kvs p ≤ wtP kvs p2) = _
        unfold wtP
        rw [hn, hn2]
        rfl
      show Q (.bl (decide (n ≤ n2))) H2
      rw [← e]
      exact q H2 (s1.trans s2)
    | [], _, hpl, _, _, _ =>
      have h0 : (1 : Int) ≤ 0 := (plS_le hpl).1
      omega
    | _ :: _ :: _ :: _, _, hpl, _, _, _ =>
      have := (plS_le hpl).2
      simp only [List.length_cons] at this
      omega
end
end Mz
set_option Elab.async false
set_option linter.all false
set_option maxRecDepth 100000
set_option maxHeartbeats 4000000
namespace Mz
open PySem PySem.Spec PyProof.Rows L2
theorem FctT.same {K : PySem.W.Frag} {C : Addr} {H H' : Hp} {l : List V} {t : Bool} (s : Same H H') (h : FctT K C H l t) : FctT K C H' l t := by
  rcases h with h | ⟨x, r, e, h⟩
  · exact .inl h
  · refine .inr ⟨x, r, e, ?_⟩
    rcases h with ⟨ty, h1, h2⟩ | ⟨z, e1, h⟩
    · exact .inl ⟨ty, ty_at (fun a _ o e => s a o e) h1, h2⟩
    · refine .inr ⟨z, e1, ?_⟩
      rcases h with h | ⟨n, h1, h⟩
      · exact .inl h
      · refine .inr ⟨n, h1, ?_⟩
        rcases h with h | ⟨h2, ts, h3, h4, h5⟩
        · exact .inl h
        · exact .inr ⟨h2, ts, h3, fun i v b a c => (h4 i v b a c).same s, h5⟩
theorem Fct.same {K : PySem.W.Frag} {C : Addr} {H H' : Hp} {v : V} {t : Bool} (s : Same H H') (h : Fct K C H v t) : Fct K C H' v t := by
  rcases h with ⟨ty, h1, h2⟩ | ⟨a, l, e, h1, h2⟩
  · exact .inl ⟨ty, ty_at (fun a _ o e => s a o e) h1, h2⟩
  · exact .inr ⟨a, l, e, s _ _ h1, h2.same s⟩
def fcF (rl ul : Addr) : List (Str × V) := putF "_unknowns" (.ref ul) (putF "_rows" (.ref rl) [])
theorem fcF_rows {rl ul : Addr} : (fcF rl ul).lookup ("_rows" : Str) = some (.ref rl) := by
  unfold fcF
  rw [lookup_putF, if_neg (by decide +kernel), lookup_putF, if_pos rfl]
theorem fcF_unk {rl ul : Addr} : (fcF rl ul).lookup ("_unknowns" : Str) = some (.ref ul) := by
  unfold fcF
  rw [lookup_putF, if_pos rfl]
/-- facts, by their rows -/
def Fac (F C : Addr) (H : Hp) (f : Addr) (rws : List Row) : Prop := ∃ (dx rl ul : Addr) (as : List Addr) (ys : List Str), H f = some (.ins F dx (fcF rl ul)) ∧ H rl = some (.lst (as.map V.ref)) ∧ Lk (RwP C H) as rws ∧ H ul = some (.lst (ys.map V.str)) ∧ Unk (plsOf rws) ys ∧ ys.length ≤ 2 ∧ rws.length ≤ 20
theorem Fac.same {F C : Addr} {H H' : Hp} {f : Addr} {rws : List Row} (s : Same H H') (h : Fac F C H f rws) : Fac F C H' f rws := by
  obtain ⟨dx, rl, ul, as, ys, h1, h2, h3, h4, h5⟩ := h
  exact ⟨dx, rl, ul, as, ys, s _ _ h1, s _ _ h2, h3.imp fun _ _ x => x.same s, s _ _ h4, h5⟩
/-- facts just made: their lists are new -/
def FacN (F C : Addr) (H0 H : Hp) (f : Addr) (rws : List Row) : Prop := ∃ (dx rl ul : Addr) (as : List Addr) (ys : List Str), H f = some (.ins F dx (fcF rl ul)) ∧ H rl = some (.lst (as.map V.ref)) ∧ Lk (RwP C H) as rws ∧ H ul = some (.lst (ys.map V.str)) ∧ Unk (plsOf rws) ys ∧ ys.length ≤ 2 ∧ rws.length ≤ 20 ∧ H0 rl = none ∧ H0 ul = none
theorem FacN.fac {F C : Addr} {H0 H : Hp} {f : Addr} {rws : List Row} (h : FacN F C H0 H f rws) : Fac F C H f rws := by
  obtain ⟨dx, rl, ul, as, ys, h1, h2, h3, h4, h5, h6, h7, _⟩ := h
  exact ⟨dx, rl, ul, as, ys, h1, h2, h3, h4, h5, h6, h7⟩
theorem FacN.old {F C : Addr} {H0 H1 H : Hp} {f : Addr} {rws : List Row} (s : Same H0 H1) (h : FacN F C H1 H f rws) : FacN F C H0 H f rws := by
  obtain ⟨dx, rl, ul, as, ys, h1, h2, h3, h4, h5, h6, h7, h8, h9⟩ := h
  exact ⟨dx, rl, ul, as, ys, h1, h2, h3, h4, h5, h6, h7, s.free h8, s.free h9⟩
structure Fcl (K : PySem.W.Frag) (mg : Str → Option Value) (F : Addr) : Prop where
  cl : Cls K F
  nR : NoAttr K F "_rows"
  nU : NoAttr K F "_unknowns"
  mgF : mg "Facts" = some (.ref F)
def spInitF (K : PySem.W.Frag) (C F cR cF : Addr) : Sp := fun vs H Q E => ∃ (p dx tp : Addr) (vals : List V), vs = [.ref p, .ref tp] ∧ H p = some (.ins F dx []) ∧ H tp = some (.tup vals) ∧ vals.length ≤ 20 ∧
  ((∃ (as : List Addr) (rws : List Row), vals = as.map V.ref ∧ Lk (RwG K C H) as rws ∧
      (((∀ ys, Unk (plsOf rws) ys → ys.length ≤ 2) ∧ ∀ H', (∀ q o, q ≠ p → H q = some o → H' q = some o) → FacN F C H H' p rws → Q .non H') ∨
        ((∀ ys, Unk (plsOf rws) ys → ¬ ys.length ≤ 2) ∧ ∀ d H', H d = none → Same H H' → H' d = some (.xd [("value", .ref tp)]) → E (.ref cF) (some d) H'))) ∨
    ∃ (i : Nat) (v : V), vals[i]? = some v ∧ (∀ (j : Nat) (u : V), j < i → vals[j]? = some u → Fct K C H u true) ∧ Fct K C H v false ∧ ∀ d H', H d = none → Same H H' → H' d = some (.xd [("value", v)]) → E (.ref cR) (some d) H')
section
variable {P : Program} {w : World} {K : PySem.W.Frag} {mg : Str → Option Value} {base : Heap}
theorem scXinitR : FnScope ["self", "value"] ["self", "value"] (defScope (inClass sInvFact 0)) := ⟨rfl, rfl, rfl, by decide +kernel, rfl, by decide +kernel, by decide +kernel⟩
theorem ok_xinitR {f C cM : Addr} {fd : FuncData} (F : Fun K "__init__" "InvalidFact.__init__" (inClass sInvFact 0) f fd) (T : Xcl K mg "InvalidFact" C "value") (mM : mg "MapError" = some (.ref cM)) (rd : ClX.CRead K cM (.type "type"))
    (fc : PySem.W.findCls K (.ref cM) (.type "type") "__init__" = some (.val (.builtin "ValueError.__init__"))) : FnOk P w K mg base CX0 1 f fd ["self", "value"] (spX1 K C "value") := by
  refine F.ok scXinitR (fun vs H Q E h => ?_) (fun cdv A outer s H vs Q E hr h => ?_)
  · obtain ⟨a, v, rfl, _⟩ := h
    rfl
  · obtain ⟨a, v, rfl, ha, q⟩ := h
    refine ⟨_, pss_cons (ps_expr (pe_meinit (by rfl) mM rd fc (pa_cons (pv 0) (pa_cons pe_str pa_nil)))) (pss_one (ps_ost (pv 0) (pv 1))), ?_⟩
    refine ⟨_, rfl, a, C, _, rfl, (by show 1 ≤ 1000; decide), T.ox, ha, ?_⟩
    exact ⟨_, rfl, _, rfl, a, C, rfl, T.ox, T.no, .inl ⟨ha, fun dx n1 n2 => q dx n1 n2⟩⟩
theorem scXinitFs : FnScope ["self", "value"] ["self", "value"] (defScope (inClass sInvFacts 0)) := ⟨rfl, rfl, rfl, by decide +kernel, rfl, by decide +kernel, by decide +kernel⟩
theorem ok_xinitFs {f C cM : Addr} {fd : FuncData} (F : Fun K "__init__" "InvalidFacts.__init__" (inClass sInvFacts 0) f fd) (T : Xcl K mg "InvalidFacts" C "value") (mM : mg "MapError" = some (.ref cM)) (rd : ClX.CRead K cM (.type "type"))
    (fc : PySem.W.findCls K (.ref cM) (.type "type") "__init__" = some (.val (.builtin "ValueError.__init__"))) : FnOk P w K mg base CX0 1 f fd ["self", "value"] (spX1 K C "value") := by
  refine F.ok scXinitFs (fun vs H Q E h => ?_) (fun cdv A outer s H vs Q E hr h => ?_)
  · obtain ⟨a, v, rfl, _⟩ := h
    rfl
  · obtain ⟨a, v, rfl, ha, q⟩ := h
    refine ⟨_, pss_cons (ps_expr (pe_meinit (by rfl) mM rd fc (pa_cons (pv 0) (pa_cons pe_str pa_nil)))) (pss_one (ps_ost (pv 0) (pv 1))), ?_⟩
    refine ⟨_, rfl, a, C, _, rfl, (by show 1 ≤ 1000; decide), T.ox, ha, ?_⟩
    exact ⟨_, rfl, _, rfl, a, C, rfl, T.ox, T.no, .inl ⟨ha, fun dx n1 n2 => q dx n1 n2⟩⟩
theorem scInitF : FnScope ["self", "rows", "row", "placed", "unknowns"] ["self", "rows"] (defScope (inClass sFacts 0)) := ⟨rfl, rfl, rfl, by decide +kernel, rfl, by decide +kernel, by decide +kernel⟩
/-- what a class with one exception wants for a raise -/
structure Xr (P : Program) (w : World) (K : PySem.W.Frag) (mg : Str → Option Value) (base : Heap) (x : Str) (c f : Addr) (fd : FuncData) : Prop where
  T : Xcl K mg x c "value"
  G : FnOk P w K mg base CX0 1 f fd ["self", "value"] (spX1 K c "value")
  i : PySem.W.findIn K (.ref c) "__init__" = some (some (.ref f))
  t : PySem.W.typeIn K (.ref f) = some (.type "function")
  b : Binds K fd ["self", "value"] []
/-- a def of the module by its name -/
structure D1 (P : Program) (w : World) (K : PySem.W.Frag) (mg : Str → Option Value) (base : Heap) (x : Str) (k : Nat) (ps : List Str) (sp : Sp) (f : Addr) (fd : FuncData) : Prop where
  ok : FnOk P w K mg base CX0 k f fd ps sp
  m : mg x = some (.ref f)
  k : PySem.W.keepIn K (.ref f) = true
  b : Binds K fd ps []
theorem ok_initF {f C F cR cF fR fF f1 f2 f3 f4 : Addr} {fd fdR fdF fd1 fd2 fd3 fd4 : FuncData} {t : Tok} (F0 : Fun K "__init__" "Facts.__init__" (inClass sFacts 0) f fd) (T : Fcl K mg F) (XR : Xr P w K mg base "InvalidFact" cR fR fdR) (XF : Xr P w K mg base "InvalidFacts" cF fF fdF) (B : Blt mg)
    (G1 : D1 P w K mg base "is_fact" 7 ["value"] (spIsFact K C) f1 fd1) (G2 : D1 P w K mg base "placed_row" 6 ["row"] (spPlaced K C) f2 fd2) (G3 : D1 P w K mg base "places_of_rows" 1 ["rows"] (spPlacesOf K C) f3 fd3) (G4 : D1 P w K mg base "unknowns_of" 3 ["places"] (spUnkOf K C) f4 fd4)
    (mU : mg "MOST_UNKNOWNS" = some (.int 2 t))
    (hb : ∀ us rest : List Value, us.length = (["self"] : List Str).length → bindArgs fd ⟨us ++ rest, []⟩ = (newTuple rest >>= fun t => pure ((["self"] : List Str).zip us ++ [(("rows" : Str), t)]))) :
    FnR P w K mg base (L2.CX P w) 8 f (fun vs H Q E => ∃ ws rest, vs = ws ++ rest ∧ ws.length = (["self"] : List Str).length ∧ rest.length ≤ sizeLine ∧ ∀ p, H p = Option.none → spInitF K C F cR cF (ws ++ [V.ref p]) (upd H p (.tup rest)) Q E) := by
  obtain ⟨oc, od, kV, doc, pm, an, cdv, ct, osl, rfl, lk, hcd⟩ := F0.ex
  refine StX.fn_star (k := 7) lk hcd scInitF StX.cxUp hb fun A outer s H vs Q E hr h => ?_
  obtain ⟨p, dx, tp, vals, rfl, hp, ht, hn, h⟩ := h
  have nd := scInitF.nd
  have hr1 : Room 1 _ := hr.mono (by decide)
  have hr2 : Room 2 _ := hr.mono (by decide)
  have hr3 : Room 3 _ := hr.mono (by decide)
  have hr6 : Room 6 _ := hr.mono (by decide)
  refine ⟨_, pss_cons (ps_for (passes_of rfl) rfl (pi_tup (pv 1)) (pg_name (i := 2) nd rfl (Or.inl rfl)) (pss_one (ps_if (pt_not (pt_val (pe_call G1.ok hr (by rfl) G1.m G1.k G1.b .nil pass0 (pa_cons (pv 2) pa_nil)))) (pss_one (ps_raise rfl (takes_of rfl rfl rfl rfl) (pmk_oex XR.T.ox XR.i XR.t XR.G hr2 XR.b .nil pass0 (by rfl) XR.T.m (pa_cons (pv 2) pa_nil)))) pss_nil)))
    (pss_cons (ps_setLc (i := 3) (own := [("row", 2)]) (g := gName 2) (tt := tYes) rfl nd rfl rfl (sw_true rfl rfl rfl (by decide +kernel)) (pi_tup (pv 1)) (blkOk_by (N := ["self", "rows", "row", "placed", "unknowns"]) (sc := defScope (inClass sFacts 0)) (by decide +kernel)) (fun _ _ _ _ _ => pg_name (i := 2) nd rfl (Or.inl rfl)) (fun _ _ _ _ _ => pts_nil) (fun _ _ _ _ _ => pe_call G2.ok hr6 (by rfl) G2.m G2.k G2.b .nil pass0 (pa_cons (pv 2) pa_nil)))
    (pss_cons (ps_set (i := 4) nd rfl (Or.inl rfl) (pe_call G4.ok hr3 (by rfl) G4.m G4.k G4.b .nil pass0 (pa_cons (pe_call G3.ok hr1 (by rfl) G3.m G3.k G3.b .nil pass0 (pa_cons (pv 3) pa_nil)) pa_nil)))
    (pss_cons (ps_if (pt_cmpR op_gt (pe_callB call_len_seq (by rfl) B.len PySem.boot_len (pa_cons (pv 4) pa_nil)) (pe_glob (v := .int 2) rfl mU ⟨_, rfl⟩) (nomark _)) (pss_one (ps_raise rfl (takes_of rfl rfl rfl rfl) (pmk_oex XF.T.ox XF.i XF.t XF.G hr2 XF.b .nil pass0 (by rfl) XF.T.m (pa_cons (pv 1) pa_nil)))) pss_nil)
    (pss_cons (ps_fld (pv 0) (pv 3) rfl) (pss_one (ps_fld (pv 0) (pv 4) rfl)))))), ?_⟩
  refine ⟨_, rfl, tp, rfl, ⟨_, SqT.of ht⟩, ?_⟩
  -- the first row that is none, or all are rows
  obtain ⟨ib, hg, hbad, hgood⟩ : ∃ ib : Nat, (∀ (j : Nat) (u : V), j < ib → vals[j]? = some u → Fct K C H u true) ∧
      (∀ v, vals[ib]? = some v → Fct K C H v false ∧ ∀ d H', H d = none → Same H H' → H' d = some (.xd [("value", v)]) → E (.ref cR) (some d) H') ∧
      (vals[ib]? = none → ∃ (as : List Addr) (rws : List Row), vals = as.map V.ref ∧ Lk (RwG K C H) as rws ∧
        (((∀ ys, Unk (plsOf rws) ys → ys.length ≤ 2) ∧ ∀ H', (∀ q o, q ≠ p → H q = some o → H' q = some o) → FacN F C H H' p rws → Q .non H') ∨
          ((∀ ys, Unk (plsOf rws) ys → ¬ ys.length ≤ 2) ∧ ∀ d H', H d = none → Same H H' → H' d = some (.xd [("value", .ref tp)]) → E (.ref cF) (some d) H'))) := by
    rcases h with ⟨as, rws, e, hR, h⟩ | ⟨i, v, hi, hg, hf, q⟩
    · refine ⟨vals.length, fun j u hj hu => ?_, fun v hv => ?_, fun _ => ⟨as, rws, e, hR, h⟩⟩
      · rw [e, List.getElem?_map] at hu
        obtain ⟨a, ha, rfl⟩ := Option.map_eq_some_iff.mp hu
        obtain ⟨rw, _, r⟩ := hR.get ha
        exact r.fct
      · rw [List.getElem?_eq_none (Nat.le_refl _)] at hv
        cases hv
    · refine ⟨i, hg, fun u hu => ?_, fun e => ?_⟩
      · rw [hi] at hu
        cases hu
        exact ⟨hf, q⟩
      · rw [hi] at e
        cases e
  clear h
  refine for_tup (K := K) (a := tp) (xs := vals) (fun j σ H' => ∃ x2 : Option V, σ = [some (.ref p), some (.ref tp), x2, none, none] ∧ Same H H' ∧ j ≤ ib) ⟨_, rfl, Same.refl _, Nat.zero_le _⟩ (fun j σ H' _ ⟨_, _, s, _⟩ => SqT.of (s _ _ ht)) ?_ ?_
  · rintro j x σ H1 hx ⟨x2, rfl, s1, hj⟩
    generalize hDE : ({ nx := _, rt := _, bk := _, ct := _ } : Ends) = DE
    have enx : ∀ σ' H', (∃ x2 : Option V, σ' = [some (.ref p), some (.ref tp), x2, none, none] ∧ Same H H' ∧ j + 1 ≤ ib) → DE.nx σ' H' := fun σ' H' h => by
      rw [← hDE]
      exact h
    clear hDE
    rcases Nat.lt_or_ge j ib with lt | ge
    · refine ⟨_, rfl, x, true, rfl, (hg j x lt hx).same s1, fun H2 s2 => ⟨_, rfl, iteF ?_⟩⟩
      exact enx _ _ ⟨_, rfl, s1.trans s2, lt⟩
    · have ej : j = ib := by omega
      subst ej
      obtain ⟨hf, q⟩ := hbad x hx
      refine ⟨_, rfl, x, false, rfl, hf.same s1, fun H2 s2 => ⟨_, rfl, iteT (mko_x1 rfl fun d H' nd s3 hd => q d H' ((s1.trans s2).free nd) ((s1.trans s2).trans s3) hd)⟩⟩
  · rintro σ H1 ⟨x2, rfl, s1, hj⟩
    obtain ⟨as, rws, rfl, hR, h⟩ := hgood (List.getElem?_eq_none hj)
    clear hgood hbad hg
    have ht1 := s1 _ _ ht
    have hp1 := s1 _ _ hp
    refine ⟨_, rfl, tp, rfl, ⟨_, SqT.of ht1⟩, fun D nD => ?_⟩
    have oldD : ∀ b o, H b = some o → b ≠ D := fun b o e => ne_of_none (s1 _ _ e) nD
    have oldD1 : ∀ b o, H1 b = some o → b ≠ D := fun b o e => ne_of_none e nD
    have lR := hR.length
    rw [List.length_map] at hn
    refine lc_tup (xs := as.map V.ref) (fun i H' => (∀ b o, b ≠ D → H1 b = some o → H' b = some o) ∧ ∃ bs : List Addr, H' D = some (.lst (bs.map V.ref)) ∧ Lk (RwP C H') bs (rws.take i))
      ⟨fun b o n e => by rw [upd_ne n]; exact e, [], upd_same, by rw [List.take_zero]; exact .nil⟩ (fun i H' _ h => SqT.of (h.1 _ _ (oldD1 _ _ ht1) ht1)) ?_ ?_
    · rintro i x H3 hx ⟨keep, bs, hD, hB⟩
      rw [List.getElem?_map] at hx
      obtain ⟨a, ha, rfl⟩ := Option.map_eq_some_iff.mp hx
      obtain ⟨rw, hrw, r⟩ := hR.get ha
      have hi : i < rws.length := (List.getElem?_eq_some_iff.mp hrw).1
      have old : Same H H3 := fun b o e => keep b o (oldD b o e) (s1 _ _ e)
      have lB := hB.length
      rw [List.length_take] at lB
      refine ⟨rfl, yesT ?_⟩
      refine ⟨_, rfl, a, rw, rfl, r.same old, fun q2 H4 s4 nq r4 => ?_⟩
      have hD4 := s4 _ _ hD
      have kp : ∀ {b : Addr} {rw : Row} (o : HO), RwP C H4 b rw → RwP C (upd H4 D o) b rw := fun {b rw} o ⟨qs, e1, e2, e3⟩ => by
        refine ⟨qs, by rw [upd_ne (fun e => by rw [e, hD4] at e1; cases e1)]; exact e1, e2.imp fun y z ⟨dx, e⟩ => ⟨dx, ?_⟩, e3⟩
        rw [upd_ne (fun e0 => by rw [e0, hD4] at e; cases e)]
        exact e
      refine ⟨_, hD4, ?_, fun b o n e => by rw [upd_ne n]; exact s4 _ _ (keep b o n e), bs ++ [q2], by rw [upd_same, List.map_append]; rfl, ?_⟩
      · rw [List.length_map]
        exact Nat.lt_of_lt_of_le (show bs.length < 100 by omega) (by decide)
      · rw [List.take_succ, hrw]
        exact (hB.imp fun _ _ x => kp _ (x.same s4)).append (Lk.one (kp _ r4))
    · rintro H3 ⟨keep, bs, hD, hB⟩
      rw [List.length_map, List.take_of_length_le (by omega)] at hB
      have s13 : Same H1 H3 := fun b o e => keep b o (oldD1 b o e) e
      have lB := hB.length
      refine ⟨_, rfl, D, bs, rws, rfl, SqL.of hD, hB, by omega, fun pl qs H4 s4 npl hpl hq => ?_⟩
      have l2 : (plsOf rws).length ≤ 2 * rws.length := by
        have all : ∀ l : List Row, (∀ rw ∈ l, rw.2.length ≤ 2) → (plsOf l).length ≤ 2 * l.length := by
          intro l
          induction l with
          | nil => intro _; decide
          | cons r l ih =>
            intro h
            have h1 := h r (List.mem_cons_self ..)
            have h2 := ih fun x hx => h x (List.mem_cons_of_mem _ hx)
            show (r.2 ++ plsOf l).length ≤ _
            rw [List.length_append, List.length_cons]
            omega
        refine all _ fun rw hrw => ?_
        obtain ⟨a, _, items, _, _, h3⟩ := hR.memR hrw
        exact (Row.le h3).2
      refine ⟨pl, qs, plsOf rws, rfl, SqL.of hpl, hq, by omega, fun ul ys H5 s5 nul hul hU => ?_⟩
      refine ⟨_, rfl, ul, _, rfl, .inl (SqL.of hul), _, _, rfl, rfl, _, rfl, ?_⟩
      have s35 := s4.trans s5
      have s05 : Same H H5 := (s1.trans s13).trans s35
      rcases h with ⟨two, q⟩ | ⟨more, q⟩
      · have ly := two ys hU
        rw [decide_eq_false (by rw [List.length_map]; omega)]
        refine iteF ?_
        have hp5 := s05 _ _ hp
        have nR := lR
        refine ⟨_, rfl, _, rfl, p, F, dx, _, rfl, hp5, T.cl, T.nR, (by show 0 < 1000; decide), _, rfl, _, rfl, p, F, dx, _, rfl, upd_same, T.cl, T.nU, (by show 1 < 1000; decide), ?_⟩
        rw [upd_upd]
        have other : ∀ b o, b ≠ p → H5 b = some o → upd H5 p (.ins F dx (fcF D ul)) b = some o := fun b o n e => by
          rw [upd_ne n]
          exact e
        have np : ∀ {b : Addr} {o : HO}, H5 b = some o → (∀ z, o ≠ .ins F dx z) → b ≠ p := fun {b o} e n x => by
          rw [x, hp5] at e
          cases e
          exact n _ rfl
        refine q _ (fun b o n e => other b o n (s05 _ _ e)) ⟨dx, D, ul, bs, ys, upd_same, other _ _ (np (s35 _ _ hD) (fun z => by intro e; cases e)) (s35 _ _ hD), hB.imp fun b rw ⟨qs2, e1, e2, e3⟩ => ?_, other _ _ (np hul (fun z => by intro e; cases e)) hul, hU, ly, by omega, s1.free nD, (s1.trans (s13.trans s4)).free nul⟩
        refine ⟨qs2, other _ _ (np (s35 _ _ e1) (fun z => by intro e; cases e)) (s35 _ _ e1), e2.imp fun y z ⟨dy, e⟩ => ⟨dy, ?_⟩, e3⟩
        refine other _ _ (fun x => ?_) (s35 _ _ e)
        have e' := s35 _ _ e
        rw [x, hp5] at e'
        injection e' with e'
        injection e' with _ _ e'
        have pne : ∀ (a : Str) (b : Int), plF a b ≠ [] := fun a b e => by
          have z := congrArg (fun l : List (Str × V) => l.lookup ("_shift" : Str)) e
          unfold plF at z
          rw [lookup_putF, if_pos rfl] at z
          cases z
        exact pne _ _ e'.symm
      · have ly := more ys hU
        rw [decide_eq_true (by rw [List.length_map]; omega)]
        exact iteT (mko_x1 rfl fun d H' nd s6 hd => q d H' (s05.free nd) (s05.trans s6) hd)
end
end Mz
set_option Elab.async false
set_option linter.all false
set_option maxRecDepth 100000
set_option maxHeartbeats 4000000
namespace Mz
open PySem PySem.Spec PyProof.Rows L2
/-- a setting has sizes for all names of rows -/
def hasAll (kvs : List (Key × V)) (rws : List Row) : Bool := (plsOf rws).all fun p => decide (p.1 = "") || (valV kvs (.inr p.1)).isSome
def spHolds (K : PySem.W.Frag) (F S C cS : Addr) : Sp := fun vs H Q E => ∃ (f : Addr) (v : V) (rws : List Row), vs = [.ref f, v] ∧ Fac F C H f rws ∧
  ((∃ (s : Addr) (kvs : List (Key × V)) (pg : Int), v = .ref s ∧ Stg S H s kvs pg ∧ KInt kvs ∧ 1 ≤ pg ∧ hasAll kvs rws = true ∧ ∀ H', Same H H' → Q (.bl (rws.all (keepR kvs pg))) H') ∨
    (((∃ (s : Addr) (kvs : List (Key × V)) (pg : Int), v = .ref s ∧ Stg S H s kvs pg ∧ hasAll kvs rws = false) ∨ Oty K S H v) ∧ ∀ d H', H d = none → Same H H' → H' d = some (.xd [("value", v)]) → E (.ref cS) (some d) H'))
theorem Fac.ok {F C : Addr} {H : Hp} {f : Addr} {rws : List Row} (h : Fac F C H f rws) : ∀ rw ∈ rws, RwOk rw := by
  obtain ⟨dx, rl, ul, as, ys, h1, h2, h3, _⟩ := h
  intro rw hrw
  obtain ⟨a, _, qs, _, _, h4⟩ := h3.memR hrw
  exact h4
theorem has_unk {kvs : List (Key × V)} {rws : List Row} {ys : List Str} (h : Unk (plsOf rws) ys) : (ys.all fun y => (valV kvs (.inr y)).isSome) = hasAll kvs rws := by
  rw [Bool.eq_iff_iff, List.all_eq_true]
  unfold hasAll
  rw [List.all_eq_true]
  constructor
  · intro a p hp
    by_cases e : p.1 = ""
    · rw [decide_eq_true e, Bool.true_or]
    · rw [a p.1 ((h.2.2 p.1).mpr ⟨e, p.2, hp⟩), Bool.or_true]
  · intro a y hy
    obtain ⟨e, k, hk⟩ := (h.2.2 y).mp hy
    have z := a _ hk
    rw [decide_eq_false e, Bool.false_or] at z
    exact z
theorem hasR_of {kvs : List (Key × V)} {rws : List Row} (hk : KInt kvs) (h : hasAll kvs rws = true) : ∀ rw ∈ rws, HasR kvs rw := by
  intro rw hrw p hp
  have m : p ∈ plsOf rws := List.mem_flatMap.mpr ⟨rw, hrw, hp⟩
  have z := List.all_eq_true.mp h p m
  unfold wtK
  by_cases e : p.1 = ""
  · exact ⟨p.2, if_pos e⟩
  · rw [if_neg e]
    rw [decide_eq_false e, Bool.false_or] at z
    obtain ⟨v, hv⟩ := Option.isSome_iff_exists.mp z
    obtain ⟨n, rfl⟩ := hk _ _ hv
    rw [hv]
    exact ⟨_, rfl⟩
section
variable {P : Program} {w : World} {K : PySem.W.Frag} {mg : Str → Option Value} {base : Heap}
theorem scHolds : FnScope ["self", "setting", "row"] ["self", "setting"] (defScope (inClass sFacts 3)) := ⟨rfl, rfl, rfl, by decide +kernel, rfl, by decide +kernel, by decide +kernel⟩
theorem ok_holds {f F S C cS fS f1 f2 : Addr} {fd fdS fd1 fd2 : FuncData} (F0 : Fun K "holds" "Facts.holds" (inClass sFacts 3) f fd) (T : Fcl K mg F) (TS : Scl K mg S) (Y : Pty K S) (XS : Xr P w K mg base "InvalidSetting" cS fS fdS) (D : Blp mg)
    (G1 : D1 P w K mg base "has_sizes" 2 ["setting", "unknowns"] (spHasSizes K S) f1 fd1) (G2 : D1 P w K mg base "keeps" 8 ["setting", "row"] (spKeeps K S C) f2 fd2) :
    FnOk P w K mg base (L2.CX P w) 9 f fd ["self", "setting"] (spHolds K F S C cS) := by
  refine F0.okX scHolds (fun vs H Q E h => ?_) (fun cdv A outer s H vs Q E hr h => ?_)
  · obtain ⟨f, v, rws, rfl, _⟩ := h
    rfl
  · obtain ⟨fa, v, rws, rfl, hf, h⟩ := h
    have nd := scHolds.nd
    have hr2 : Room 2 _ := hr.mono (by decide)
    refine ⟨_, pss_cons (ps_if (PW.pt (pw_or (pt_not (pt_val (pe_callB call_isi (by rfl) D.isi (by decide +kernel) (pa_cons (pv 1) (pa_cons (pe_glob (v := .ref S) rfl TS.mgS rfl) pa_nil))))) (pw_or1 (pt_not (pt_val (pe_call G1.ok hr2 (by rfl) G1.m G1.k G1.b .nil pass0 (pa_cons (pv 1) (pa_cons (pe_fld (pv 0) rfl) pa_nil))))))))
        (pss_one (ps_raise rfl (takes_of rfl rfl rfl rfl) (pmk_oex XS.T.ox XS.i XS.t XS.G hr2 XS.b .nil pass0 (by rfl) XS.T.m (pa_cons (pv 1) pa_nil)))) pss_nil)
      (pss_cons (ps_for (passes_of rfl) rfl (pi_list (pe_fld (pv 0) rfl)) (pg_name (i := 2) nd rfl (Or.inl rfl)) (pss_one (ps_if (pt_not (pt_val (pe_call G2.ok hr (by rfl) G2.m G2.k G2.b .nil pass0 (pa_cons (pv 1) (pa_cons (pv 2) pa_nil))))) (pss_one (ps_ret pe_bl)) pss_nil)))
      (pss_one (ps_ret pe_bl))), ?_⟩
    have hok := hf.ok
    obtain ⟨dx, rl, ul, as, ys, h1, h2, h3, h4, h5, h6, h7⟩ := id hf
    have ysm : ∀ y ∈ ys, Sm 1000 y := fun y hy => by
      obtain ⟨e, k, hk⟩ := (h5.2.2 y).mp hy
      obtain ⟨rw, hrw, hp⟩ := List.mem_flatMap.mp hk
      have g := (hok rw hrw).2 _ hp
      exact ⟨g.1, g.2.1⟩
    refine ⟨_, rfl, ?_⟩
    have isS : ∀ {s : Addr} {kvs : List (Key × V)} {pg : Int}, Stg S H s kvs pg → TyX K H (.ref s) (.ref S) := fun {s kvs pg} ⟨dy, d, hs, _⟩ => .base (.ins hs Y.cl Y.ha Y.hn Y.htk Y.hm)
    rcases h with ⟨s, kvs, pg, rfl, hst, hki, hpg, hall, q⟩ | ⟨h, q⟩
    · refine ⟨.ref s, .ref S, .ref S, .ref S, true, rfl, .own S, isS hst, kit_self, true, rfl, iteF ?_⟩
      refine ⟨_, rfl, _, rfl, fa, F, dx, _, _, rfl, h1, T.cl, T.nU, fcF_unk, s, ul, kvs, pg, ys, rfl, hst, SqL.of h4, ysm, by omega, fun H1 s1 => ⟨_, rfl, ?_⟩⟩
      rw [has_unk h5, hall]
      refine iteF ⟨_, rfl, fa, F, dx, _, _, rfl, s1 _ _ h1, T.cl, T.nR, fcF_rows, rl, rfl, ⟨_, SqL.of (s1 _ _ h2)⟩, ?_⟩
      refine for_list (K := K) (a := rl) (xs := as.map V.ref) (fun j σ H' => ∃ x2 : Option V, σ = [some (.ref fa), some (.ref s), x2] ∧ Same H H' ∧ (rws.take j).all (keepR kvs pg) = true) ⟨_, rfl, s1, rfl⟩ (fun j σ H' _ ⟨_, _, s2, _⟩ => SqL.of (s2 _ _ h2)) ?_ ?_
      · rintro j x σ H2 hx ⟨x2, rfl, s2, hj⟩
        rw [List.getElem?_map] at hx
        obtain ⟨a, ha, rfl⟩ := Option.map_eq_some_iff.mp hx
        obtain ⟨rw, hrw, r⟩ := h3.get ha
        have mem : rw ∈ rws := List.mem_of_getElem? hrw
        generalize hDE : ({ nx := _, rt := _, bk := _, ct := _ } : Ends) = DE
        have enx : ∀ σ' H', (∃ x2 : Option V, σ' = [some (.ref fa), some (.ref s), x2] ∧ Same H H' ∧ (rws.take (j + 1)).all (keepR kvs pg) = true) → DE.nx σ' H' := fun σ' H' h => by
          rw [← hDE]
          exact h
        have ert : DE.rt = Q := by rw [← hDE]
        clear hDE
        refine ⟨_, rfl, _, rfl, s, a, kvs, pg, rw, rfl, hst.same s2, hki, hpg, r.same s2, hasR_of hki hall rw mem, fun H3 s3 => ⟨_, rfl, ?_⟩⟩
        cases hk : keepR kvs pg rw with
        | true =>
          refine iteF (enx _ _ ⟨_, rfl, s2.trans s3, ?_⟩)
          rw [List.take_succ, hrw, List.all_append, hj]
          show (true && (keepR kvs pg rw && true)) = true
          rw [hk]
          rfl
        | false =>
          refine iteT ?_
          show DE.rt (.bl false) H3
          rw [ert]
          have e : rws.all (keepR kvs pg) = false := by
            rw [List.all_eq_false]
            exact ⟨rw, mem, by rw [hk]; decide⟩
          rw [e] at q
          exact q _ (s2.trans s3)
      · rintro σ H2 ⟨x2, rfl, s2, hj⟩
        rw [List.length_map, h3.length, List.take_length] at hj
        rw [hj] at q
        exact q _ s2
    · rcases h with ⟨s, kvs, pg, rfl, hst, hall⟩ | ⟨t, ty, kt⟩
      · refine ⟨.ref s, .ref S, .ref S, .ref S, true, rfl, .own S, isS hst, kit_self, true, rfl, iteF ?_⟩
        refine ⟨_, rfl, _, rfl, fa, F, dx, _, _, rfl, h1, T.cl, T.nU, fcF_unk, s, ul, kvs, pg, ys, rfl, hst, SqL.of h4, ysm, by omega, fun H1 s1 => ⟨_, rfl, ?_⟩⟩
        rw [has_unk h5, hall]
        exact iteT (mko_x1 rfl fun d H' nd2 s2 hd => q d H' (s1.free nd2) (s1.trans s2) hd)
      · exact ⟨v, .ref S, t, .ref S, false, rfl, .own S, ty, kt, false, rfl, iteT (iteT (mko_x1 rfl fun d H' nd2 s2 hd => q d H' nd2 s2 hd))⟩
/-- len -/
def spLenF (F C : Addr) : Sp := fun vs H Q _ => ∃ (f : Addr) (rws : List Row), vs = [.ref f] ∧ Fac F C H f rws ∧ Q (.int (rws.length : Nat)) H
theorem scLenF : FnScope ["self"] ["self"] (defScope (inClass sFacts 5)) := ⟨rfl, rfl, rfl, by decide +kernel, rfl, by decide +kernel, by decide +kernel⟩
theorem ok_lenF {f F C : Addr} {fd : FuncData} (F0 : Fun K "__len__" "Facts.__len__" (inClass sFacts 5) f fd) (T : Fcl K mg F) (B : Blt mg) : FnOk P w K mg base CX0 1 f fd ["self"] (spLenF F C) := by
  refine F0.ok scLenF (fun vs H Q E h => ?_) (fun cdv A outer s H vs Q E hr h => ?_)
  · obtain ⟨f, rws, rfl, _⟩ := h
    rfl
  · obtain ⟨fa, rws, rfl, ⟨dx, rl, ul, as, ys, h1, h2, h3, _⟩, q⟩ := h
    refine ⟨_, pss_one (ps_ret (pe_callB call_len_seq (by rfl) B.len PySem.boot_len (pa_cons (pe_fld (pv 0) rfl) pa_nil))), ?_⟩
    refine ⟨_, rfl, fa, F, dx, _, _, rfl, h1, T.cl, T.nR, fcF_rows, rl, _, rfl, .inl (SqL.of h2), ?_⟩
    rw [List.length_map, h3.length]
    exact q
end
end Mz
set_option Elab.async false
set_option linter.all false
set_option maxRecDepth 100000
set_option maxHeartbeats 4000000
namespace Mz
open PySem PySem.Spec PyProof.Rows L2
theorem RwP.g {K : PySem.W.Frag} {C : Addr} {H : Hp} {a : Addr} {rw : Row} (h : RwP C H a rw) : RwG K C H a rw := by
  obtain ⟨qs, h1, h2, h3⟩ := h
  refine ⟨qs.map V.ref, h1, ?_, h3⟩
  clear h1 h3
  generalize rw.2 = ps at h2
  induction h2 with
  | nil => exact .nil
  | cons h _ ih => exact .cons (.inl ⟨_, rfl, h⟩) ih
/-- the rows have at most two names -/
def Two (rws : List Row) : Prop := ∀ ys, Unk (plsOf rws) ys → ys.length ≤ 2
/-- Facts(..), as its __init__ promises -/
def spMakeF (K : PySem.W.Frag) (C F cR cF : Addr) : Sp := fun vs H Q E => ∃ ws rest, vs = ws ++ rest ∧ ws.length = (["self"] : List Str).length ∧ rest.length ≤ sizeLine ∧ ∀ p, H p = Option.none → spInitF K C F cR cF (ws ++ [V.ref p]) (upd H p (.tup rest)) Q E
theorem mk_facts {K : PySem.W.Frag} {C F cR cF x dx : Addr} {H : Hp} {as : List Addr} {rws : List Row} {R : Addr → Hp → Prop} {E : XK} (nx : H x = Option.none) (ndx : H dx = Option.none) (hR : Lk (RwG K C H) as rws) (hn : rws.length ≤ 20) (h2 : Two rws)
    (q : ∀ f H', Same H H' → H f = none → Fac F C H' f rws → R f H') : spMakeF K C F cR cF (V.ref x :: as.map V.ref) (upd (upd H dx (.own x)) x (.ins F dx [])) (fun v H2 => v = .non ∧ R x H2) E := by
  have sm : Same H (upd (upd H dx (.own x)) x (.ins F dx [])) := fun b o e => by
    rw [upd_ne (ne_of_none e nx), upd_ne (ne_of_none e ndx)]
    exact e
  have tx : upd (upd H dx (.own x)) x (.ins F dx []) x = some (.ins F dx []) := upd_same
  generalize upd (upd H dx (.own x)) x (.ins F dx []) = H1 at sm tx
  have lR := hR.length
  refine ⟨[.ref x], as.map V.ref, rfl, rfl, ?_, fun p np => ?_⟩
  · rw [List.length_map]
    exact Nat.le_trans (show as.length ≤ 100 by omega) (by decide)
  have s2 : Same H1 (upd H1 p (.tup (as.map V.ref))) := same_nw np
  have t2 : upd H1 p (.tup (as.map V.ref)) p = some (.tup (as.map V.ref)) := upd_same
  generalize upd H1 p (.tup (as.map V.ref)) = H2 at s2 t2
  have s02 := sm.trans s2
  refine ⟨x, dx, p, _, rfl, s2 _ _ tx, t2, by rw [List.length_map]; omega, .inl ⟨as, rws, rfl, hR.imp fun _ _ r => r.same s02, .inl ⟨h2, fun H3 k hf => ⟨rfl, q x H3 (fun b o e => k b o (ne_of_none e nx) (s02 _ _ e)) nx hf.fac⟩⟩⟩⟩
theorem mk_factsN0 {K : PySem.W.Frag} {C F cR cF x dx : Addr} {H : Hp} {as : List Addr} {rws : List Row} {R : Addr → Hp → Prop} {E : XK} (nx : H x = Option.none) (ndx : H dx = Option.none) (hR : Lk (RwG K C H) as rws) (hn : rws.length ≤ 20) (h2 : Two rws)
    (q : ∀ f H', Same H H' → H f = none → FacN F C H H' f rws → R f H') : spMakeF K C F cR cF (V.ref x :: as.map V.ref) (upd (upd H dx (.own x)) x (.ins F dx [])) (fun v H2 => v = .non ∧ R x H2) E := by
  have sm : Same H (upd (upd H dx (.own x)) x (.ins F dx [])) := fun b o e => by
    rw [upd_ne (ne_of_none e nx), upd_ne (ne_of_none e ndx)]
    exact e
  have tx : upd (upd H dx (.own x)) x (.ins F dx []) x = some (.ins F dx []) := upd_same
  generalize upd (upd H dx (.own x)) x (.ins F dx []) = H1 at sm tx
  have lR := hR.length
  refine ⟨[.ref x], as.map V.ref, rfl, rfl, ?_, fun p np => ?_⟩
  · rw [List.length_map]
    exact Nat.le_trans (show as.length ≤ 100 by omega) (by decide)
  have s2 : Same H1 (upd H1 p (.tup (as.map V.ref))) := same_nw np
  have t2 : upd H1 p (.tup (as.map V.ref)) p = some (.tup (as.map V.ref)) := upd_same
  generalize upd H1 p (.tup (as.map V.ref)) = H2 at s2 t2
  have s02 := sm.trans s2
  refine ⟨x, dx, p, _, rfl, s2 _ _ tx, t2, by rw [List.length_map]; omega, .inl ⟨as, rws, rfl, hR.imp fun _ _ r => r.same s02, .inl ⟨h2, fun H3 k hf => ⟨rfl, q x H3 (fun b o e => k b o (ne_of_none e nx) (s02 _ _ e)) nx (hf.old s02)⟩⟩⟩⟩
theorem mk_factsA {K : PySem.W.Frag} {C F cR cF : Addr} {H : Hp} {as : List Addr} {rws : List Row} {R : Addr → Hp → Prop} {E : XK} (hR : Lk (RwG K C H) as rws) (hn : rws.length ≤ 20) (h2 : Two rws)
    (q : ∀ f H', Same H H' → H f = none → Fac F C H' f rws → R f H') : ∀ x dx, H x = Option.none → H dx = Option.none → dx ≠ x → spMakeF K C F cR cF (V.ref x :: as.map V.ref) (upd (upd H dx (.own x)) x (.ins F dx [])) (fun v H2 => v = .non ∧ R x H2) E :=
  fun x dx nx ndx _ => mk_facts nx ndx hR hn h2 q
theorem mk_factsN {K : PySem.W.Frag} {C F cR cF : Addr} {H : Hp} {as : List Addr} {rws : List Row} {R : Addr → Hp → Prop} {E : XK} (hR : Lk (RwG K C H) as rws) (hn : rws.length ≤ 20) (h2 : Two rws)
    (q : ∀ f H', Same H H' → H f = none → FacN F C H H' f rws → R f H') : ∀ x dx, H x = Option.none → H dx = Option.none → dx ≠ x → spMakeF K C F cR cF (V.ref x :: as.map V.ref) (upd (upd H dx (.own x)) x (.ins F dx [])) (fun v H2 => v = .non ∧ R x H2) E :=
  fun x dx nx ndx _ => mk_factsN0 nx ndx hR hn h2 q
def spAnd (K : PySem.W.Frag) (F C cF : Addr) : Sp := fun vs H Q E => ∃ (f : Addr) (v : V) (rws : List Row), vs = [.ref f, v] ∧ Fac F C H f rws ∧
  ((∃ (g : Addr) (rws2 : List Row), v = .ref g ∧ Fac F C H g rws2 ∧ (rws ++ rws2).length ≤ 20 ∧ ((Two (rws ++ rws2) ∧ ∀ h H', Same H H' → H h = none → Fac F C H' h (rws ++ rws2) → Q (.ref h) H') ∨
      ((∀ ys, Unk (plsOf (rws ++ rws2)) ys → ¬ ys.length ≤ 2) ∧ ∀ d H', H d = none → Same H H' → H' d = some (.xd [("value", v)]) → E (.ref cF) (some d) H'))) ∨
    (Oty K F H v ∧ ∀ d H', H d = none → Same H H' → H' d = some (.xd [("value", v)]) → E (.ref cF) (some d) H'))
theorem pass_all {X : Cx} : Passes (L2.CX X.prog X.w) X E0 := by
  intro pins σ H s e s2 I c
  obtain ⟨_, _, _, _, _, _, _, _, _, _, _, _, z⟩ := c
  exact z.elim
section
variable {P : Program} {w : World} {K : PySem.W.Frag} {mg : Str → Option Value} {base : Heap}
theorem scAnd : FnScope ["self", "other", "rows"] ["self", "other"] (defScope (inClass sFacts 4)) := ⟨rfl, rfl, rfl, by decide +kernel, rfl, by decide +kernel, by decide +kernel⟩
theorem ok_and {f F C cR cF fI fF f3 f4 : Addr} {fd fdF fd3 fd4 : FuncData} {t : Tok} (F0 : Fun K "__and__" "Facts.__and__" (inClass sFacts 4) f fd) (T : Fcl K mg F) (Y : Pty K F) (XF : Xr P w K mg base "InvalidFacts" cF fF fdF) (B : Blt mg) (D : Blp mg) (M : Mk K F fI) (GI : FnR P w K mg base (L2.CX P w) 8 fI (spMakeF K C F cR cF))
    (G3 : D1 P w K mg base "places_of_rows" 1 ["rows"] (spPlacesOf K C) f3 fd3) (G4 : D1 P w K mg base "unknowns_of" 3 ["places"] (spUnkOf K C) f4 fd4) (mU : mg "MOST_UNKNOWNS" = some (.int 2 t)) :
    FnOk P w K mg base (L2.CX P w) 10 f fd ["self", "other"] (spAnd K F C cF) := by
  refine F0.okX scAnd (fun vs H Q E h => ?_) (fun cdv A outer s H vs Q E hr h => ?_)
  · obtain ⟨f, v, rws, rfl, _⟩ := h
    rfl
  · obtain ⟨fa, v, rws, rfl, hf, h⟩ := h
    have nd := scAnd.nd
    have hr1 : Room 1 _ := hr.mono (by decide)
    have hr2 : Room 2 _ := hr.mono (by decide)
    have hr3 : Room 3 _ := hr.mono (by decide)
    refine ⟨_, pss_cons (ps_if (pt_not (pt_val (pe_callB call_isi (by rfl) D.isi (by decide +kernel) (pa_cons (pv 1) (pa_cons (pe_glob (v := .ref F) rfl T.mgF rfl) pa_nil))))) (pss_one (ps_raise rfl (takes_of rfl rfl rfl rfl) (pmk_oex XF.T.ox XF.i XF.t XF.G hr2 XF.b .nil pass0 (by rfl) XF.T.m (pa_cons (pv 1) pa_nil)))) pss_nil)
      (pss_cons (ps_set (i := 2) nd rfl (Or.inl rfl) (pe_op op_cat (pe_fld (pv 0) rfl) (pe_fld (pv 1) rfl)))
      (pss_cons (ps_if (pt_cmpR op_gt (pe_callB call_len_seq (by rfl) B.len PySem.boot_len (pa_cons (pe_call G4.ok hr3 (by rfl) G4.m G4.k G4.b .nil pass0 (pa_cons (pe_call G3.ok hr1 (by rfl) G3.m G3.k G3.b .nil pass0 (pa_cons (pv 2) pa_nil)) pa_nil)) pa_nil)) (pe_glob (v := .int 2) rfl mU ⟨_, rfl⟩) (nomark _)) (pss_one (ps_raise rfl (takes_of rfl rfl rfl rfl) (pmk_oex XF.T.ox XF.i XF.t XF.G hr2 XF.b .nil pass0 (by rfl) XF.T.m (pa_cons (pv 1) pa_nil)))) pss_nil)
      (pss_one (ps_ret (pe_makeRS (E := E0) M GI hr (by rfl) T.mgF pass_all (pv 2)))))), ?_⟩
    obtain ⟨dx, rl, ul, as, ys, h1, h2, h3, h4, h5, h6, h7⟩ := id hf
    refine ⟨_, rfl, ?_⟩
    rcases h with ⟨g, rws2, rfl, hg, hn, h⟩ | ⟨⟨t0, ty, kt⟩, q⟩
    · obtain ⟨dy, rl2, ul2, as2, ys2, e1, e2, e3, e4, e5, e6, e7⟩ := id hg
      refine ⟨.ref g, .ref F, .ref F, .ref F, true, rfl, .own F, .base (.ins e1 Y.cl Y.ha Y.hn Y.htk Y.hm), kit_self, true, rfl, iteF ?_⟩
      have l1 := h3.length
      have l2 := e3.length
      rw [List.length_append] at hn
      refine ⟨_, rfl, fa, F, dx, _, _, rfl, h1, T.cl, T.nR, fcF_rows, _, rfl, g, F, dy, _, _, rfl, e1, T.cl, T.nR, fcF_rows, rl, rl2, _, _, rfl, rfl, h2, e2, ?_, fun p np => ?_⟩
      · rw [List.length_map, List.length_map]
        exact Nat.le_trans (show as.length + as2.length ≤ 100 by omega) (by decide)
      have s1 : Same H (upd H p (.lst (as.map V.ref ++ as2.map V.ref))) := same_nw np
      have t1 : upd H p (.lst (as.map V.ref ++ as2.map V.ref)) p = some (.lst ((as ++ as2).map V.ref)) := by rw [upd_same, List.map_append]
      generalize upd H p (.lst (as.map V.ref ++ as2.map V.ref)) = H1 at s1 t1
      have hR : Lk (RwP C H1) (as ++ as2) (rws ++ rws2) := (h3.imp fun _ _ x => x.same s1).append (e3.imp fun _ _ x => x.same s1)
      refine ⟨_, rfl, p, as ++ as2, rws ++ rws2, rfl, SqL.of t1, hR, by rw [List.length_append]; omega, fun pl qs H2 s2 npl hpl hq => ?_⟩
      have lp : (plsOf (rws ++ rws2)).length ≤ 2 * (rws ++ rws2).length := by
        have all : ∀ l : List Row, (∀ rw ∈ l, rw.2.length ≤ 2) → (plsOf l).length ≤ 2 * l.length := by
          intro l
          induction l with
          | nil => intro _; decide
          | cons r l ih =>
            intro h
            have h1 := h r (List.mem_cons_self ..)
            have h2 := ih fun x hx => h x (List.mem_cons_of_mem _ hx)
            show (r.2 ++ plsOf l).length ≤ _
            rw [List.length_append, List.length_cons]
            omega
        refine all _ fun rw hrw => ?_
        obtain ⟨a, _, items, _, _, x3⟩ := hR.memR hrw
        exact (Row.le x3).2
      rw [List.length_append] at lp
      refine ⟨pl, qs, _, rfl, SqL.of hpl, hq, by omega, fun u2 zs H3 s3 nu hu hU => ?_⟩
      refine ⟨u2, _, rfl, .inl (SqL.of hu), _, _, rfl, rfl, _, rfl, ?_⟩
      have s03 := s1.trans (s2.trans s3)
      rcases h with ⟨two, q⟩ | ⟨more, q⟩
      · have lz := two zs hU
        rw [decide_eq_false (by rw [List.length_map]; omega)]
        refine iteF ⟨_, rfl, p, _, rfl, .inr (SqL.of (s3 _ _ (s2 _ _ t1))), ?_⟩
        exact fun x dx nx ndx ne => mk_facts nx ndx (hR.imp fun _ _ x => (x.same (s2.trans s3)).g) (by rw [List.length_append]; omega) two fun h H4 s4 nh hh => q h H4 (s03.trans s4) (s03.free nh) hh
      · have lz := more zs hU
        rw [decide_eq_true (by rw [List.length_map]; omega)]
        exact iteT (mko_x1 rfl fun d H' nd2 s4 hd => q d H' (s03.free nd2) (s03.trans s4) hd)
    · exact ⟨v, .ref F, t0, .ref F, false, rfl, .own F, ty, kt, false, rfl, iteT (mko_x1 rfl fun d H' nd2 s2 hd => q d H' nd2 s2 hd)⟩
end
end Mz
set_option Elab.async false
set_option linter.all false
set_option maxRecDepth 100000
set_option maxHeartbeats 4000000
namespace Mz
open PySem PySem.Spec PyProof.Rows L2
section
variable {P : Program} {w : World} {K : PySem.W.Frag} {mg : Str → Option Value} {base : Heap}
theorem scIsMark : FnScope ["value"] ["value"] (defScope sIsMark) := ⟨rfl, rfl, rfl, by decide +kernel, rfl, by decide +kernel, by decide +kernel⟩
theorem ok_isMark {f f1 pM : Addr} {fd fd1 : FuncData} (F : Fun K "is_mark" "is_mark" sIsMark f fd) (G : FnOk P w K mg base CX0 1 f1 fd1 ["value"] (spIsName K)) (m1 : mg "is_name" = some (.ref f1)) (k1 : PySem.W.keepIn K (.ref f1) = true) (b1 : Binds K fd1 ["value"] [])
    (mM : mg "_NO_MARKS" = some (.ref pM)) (hM : ∀ H, SqT K H pM noMarks) : FnOk P w K mg base CX0 2 f fd ["value"] (spIsMark K) := by
  refine F.ok scIsMark (fun vs H Q E h => ?_) (fun cdv A outer s H vs Q E hr h => ?_)
  · obtain ⟨v, rfl, _⟩ := h
    rfl
  · obtain ⟨v, rfl, hk, q⟩ := h
    refine ⟨_, pss_one (ps_ret (pe_and (pe_call G hr (by rfl) m1 k1 b1 .nil pass0 (pa_cons (pv 0) pa_nil)) (pe_one (pe_cmpR op_notIn_seq (pv 0) (pe_glob (v := .ref pM) rfl mM rfl) (by rfl))))), ?_⟩
    refine ⟨_, rfl, v, rfl, hk, fun H' sm => ⟨_, rfl, ite2 (fun hn => ?_) (fun hn => ?_)⟩⟩
    · cases hk with
      | str z hz ok =>
        refine ⟨_, rfl, pM, noMarks, rfl, .inr (hM _), rfl, rfl, ?_⟩
        have e : markV (.str z) = !inV (.str z) noMarks := by
          show (nameS z && !inV (.str z) noMarks) = _
          rw [show nameS z = true from hn, Bool.true_and]
        have q2 := q H' sm
        rw [e] at q2
        exact q2
      | int i => exact absurd hn (by simp [nameV])
      | bl b => exact absurd hn (by simp [nameV])
      | non => exact absurd hn (by simp [nameV])
      | oth a t ty ki ks => exact absurd hn (by simp [nameV])
    · have e : markV v = false := by
        cases v with
        | str z =>
          show (nameS z && !inV (.str z) noMarks) = false
          rw [show nameS z = false from Bool.eq_false_iff.mpr hn, Bool.false_and]
        | _ => rfl
      have q2 := q H' sm
      rw [e] at q2
      exact q2
end
theorem walk_zipT {K : PySem.W.Frag} {a b : Addr} {xs ys : List V} {n : Nat} (hn : n = min xs.length ys.length) : Walk (RZ.ItzT K a b) n (fun H => SqT K H a xs ∧ SqT K H b ys) (YPair (fun i => xs[i]?) (fun i => ys[i]?)) := by
  subst hn
  refine ⟨fun i _ hi q => ?_, fun _ q => ⟨xs, ys, q.1, q.2, by omega⟩, fun i H v H' _ q y => ?_⟩
  · have h1 : i < xs.length := by omega
    have h2 : i < ys.length := by omega
    exact ⟨xs, ys, xs[i], ys[i], q.1, q.2, by simp [h1], by simp [h2]⟩
  · obtain ⟨T, x, z, h1, h2, h3, h4, h5⟩ := y
    exact ⟨T, x, z, h1, h2, h3, h4 xs q.1, h5 ys q.2⟩
/-- a value at an item of a form -/
def Ft (K : PySem.W.Frag) (C : Addr) (H : Hp) (v : V) (form : Str) (t : Bool) : Prop := Kd K H v ∧
  ((form = "place" ∧ ((∃ a z k, v = .ref a ∧ Pl C H a z k ∧ t = true) ∨ (Oty K C H v ∧ t = (ofV v).isSome))) ∨ (form = "mark" ∧ t = markV v) ∨ (form = "name" ∧ t = nameV v))
theorem Ft.at {K : PySem.W.Frag} {C : Addr} {H H' : Hp} {v : V} {form : Str} {t : Bool} (s : ∀ a, v = .ref a → ∀ o, H a = some o → H' a = some o) (h : Ft K C H v form t) : Ft K C H' v form t := by
  obtain ⟨hk, h⟩ := h
  refine ⟨hk.at s, ?_⟩
  rcases h with ⟨hf, ⟨a, z, k, e, ⟨dx, h⟩, r⟩ | ⟨⟨u, ty, k⟩, r⟩⟩ | h | h
  · exact .inl ⟨hf, .inl ⟨a, z, k, e, ⟨dx, s a e _ h⟩, r⟩⟩
  · exact .inl ⟨hf, .inr ⟨⟨u, ty_at s ty, k⟩, r⟩⟩
  · exact .inr (.inl h)
  · exact .inr (.inr h)
theorem Ft.same {K : PySem.W.Frag} {C : Addr} {H H' : Hp} {v : V} {form : Str} {t : Bool} (s : Same H H') (h : Ft K C H v form t) : Ft K C H' v form t := h.at fun a _ o e => s a o e
def spFits (K : PySem.W.Frag) (C : Addr) : Sp := fun vs H Q _ => ∃ (v : V) (form : Str) (t : Bool), vs = [v, .str form] ∧ Ft K C H v form t ∧ ∀ H', Same H H' → Q (.bl t) H'
section
variable {P : Program} {w : World} {K : PySem.W.Frag} {mg : Str → Option Value} {base : Heap}
theorem scFits : FnScope ["item", "form"] ["item", "form"] (defScope sFits) := ⟨rfl, rfl, rfl, by decide +kernel, rfl, by decide +kernel, by decide +kernel⟩
theorem ok_fits {f f1 f2 f3 C : Addr} {fd fd1 fd2 fd3 : FuncData} (F : Fun K "_fits" "_fits" sFits f fd) (G1 : FnOk P w K mg base CX0 6 f1 fd1 ["value"] (spIsPl K C)) (m1 : mg "is_place" = some (.ref f1)) (k1 : PySem.W.keepIn K (.ref f1) = true) (b1 : Binds K fd1 ["value"] [])
    (G2 : FnOk P w K mg base CX0 2 f2 fd2 ["value"] (spIsMark K)) (m2 : mg "is_mark" = some (.ref f2)) (k2 : PySem.W.keepIn K (.ref f2) = true) (b2 : Binds K fd2 ["value"] [])
    (G3 : FnOk P w K mg base CX0 1 f3 fd3 ["value"] (spIsName K)) (m3 : mg "is_name" = some (.ref f3)) (k3 : PySem.W.keepIn K (.ref f3) = true) (b3 : Binds K fd3 ["value"] []) : FnOk P w K mg base CX0 7 f fd ["item", "form"] (spFits K C) := by
  refine F.ok scFits (fun vs H Q E h => ?_) (fun cdv A outer s H vs Q E hr h => ?_)
  · obtain ⟨v, form, t, rfl, _⟩ := h
    rfl
  · obtain ⟨v, form, t, rfl, ⟨hk, hf⟩, q⟩ := h
    have hr1 : Room 1 _ := hr.mono (by decide)
    have hr2 : Room 2 _ := hr.mono (by decide)
    refine ⟨_, pss_cons (ps_if (pt_cmpR op_eq (pv 1) pe_str (nomark _)) (pss_one (ps_ret (pe_call G1 hr (by rfl) m1 k1 b1 .nil pass0 (pa_cons (pv 0) pa_nil)))) pss_nil)
      (pss_one (ps_ret (pe_ifExp (pt_cmpR op_eq (pv 1) pe_str (nomark _)) (pe_call G2 hr2 (by rfl) m2 k2 b2 .nil pass0 (pa_cons (pv 0) pa_nil)) (pe_call G3 hr1 (by rfl) m3 k3 b3 .nil pass0 (pa_cons (pv 0) pa_nil))))), ?_⟩
    have ne1 : decide (V.str "mark" = V.str "place") = false := by decide +kernel
    have ne2 : decide (V.str "name" = V.str "place") = false := by decide +kernel
    have ne3 : decide (V.str "name" = V.str "mark") = false := by decide +kernel
    rcases hf with ⟨rfl, h⟩ | ⟨rfl, rfl⟩ | ⟨rfl, rfl⟩
    · refine ⟨_, rfl, rfl, _, rfl, ?_⟩
      rw [decide_eq_true rfl]
      refine iteT ?_
      rcases h with ⟨a, z, k, rfl, pa, rfl⟩ | ⟨oty, rfl⟩
      · exact ⟨_, rfl, .ref a, rfl, .inl ⟨a, z, k, rfl, pa, q H (Same.refl H)⟩⟩
      · exact ⟨_, rfl, v, rfl, .inr ⟨⟨hk, oty⟩, q⟩⟩
    · refine ⟨_, rfl, rfl, _, rfl, ?_⟩
      rw [ne1]
      refine iteF ⟨_, rfl, rfl, _, rfl, ?_⟩
      rw [decide_eq_true rfl]
      exact iteT ⟨_, rfl, v, rfl, hk, q⟩
    · refine ⟨_, rfl, rfl, _, rfl, ?_⟩
      rw [ne2]
      refine iteF ⟨_, rfl, rfl, _, rfl, ?_⟩
      rw [ne3]
      exact iteF ⟨_, rfl, v, rfl, hk, q⟩
end
/-! is_step -/
def formL : List (Str × List Str) := [("cut", ["place"]), ("write", ["place", "place", "mark"]), ("read", ["place"]), ("look", ["place"]), ("store", ["place", "mark"]), ("test", ["place"]), ("sync", ["place", "place"]), ("lock", ["name"]), ("unlock", ["name"])]
def formS (z : Str) : Option (List Str) := (formL.find? fun q => decide (z = q.1)).map (·.2)
/-- the written dict of the forms -/
def FTab (K : PySem.W.Frag) (w : World) (d : Addr) : Prop := ∃ es n, KDict K w d es n ∧ ∀ z : Str, ∃ r, PySem.W.nsIn K d z = some r ∧ ((formS z = none ∧ r = none) ∨ ∃ fs a, formS z = some fs ∧ r = some (.ref a) ∧ ∀ H, SqT K H a (fs.map V.str))
inductive Fts (K : PySem.W.Frag) (C : Addr) (H : Hp) : List V → List Str → List Bool → Prop
  | nil : Fts K C H [] [] []
  | cons {v vs f fs t ts} (h : Ft K C H v f t) (r : Fts K C H vs fs ts) : Fts K C H (v :: vs) (f :: fs) (t :: ts)
theorem Fts.len {K : PySem.W.Frag} {C : Addr} {H : Hp} {r : List V} {fs : List Str} {ts : List Bool} (h : Fts K C H r fs ts) : r.length = fs.length := by
  induction h with
  | nil => rfl
  | cons _ _ ih => rw [List.length_cons, List.length_cons, ih]
theorem Fts.len2 {K : PySem.W.Frag} {C : Addr} {H : Hp} {r : List V} {fs : List Str} {ts : List Bool} (h : Fts K C H r fs ts) : r.length = ts.length := by
  induction h with
  | nil => rfl
  | cons _ _ ih => rw [List.length_cons, List.length_cons, ih]
theorem Fts.get {K : PySem.W.Frag} {C : Addr} {H : Hp} {r : List V} {fs : List Str} {ts : List Bool} (h : Fts K C H r fs ts) : ∀ {i : Nat}, i < r.length → ∃ v f t, r[i]? = some v ∧ fs[i]? = some f ∧ ts[i]? = some t ∧ Ft K C H v f t := by
  induction h with
  | nil => intro i h; exact absurd h (by simp)
  | cons h _ ih =>
    intro i hi
    match i, hi with
    | 0, _ => exact ⟨_, _, _, rfl, rfl, rfl, h⟩
    | i + 1, hi => exact ih (i := i) (by simpa using hi)
theorem forms_le {z : Str} {fs : List Str} (h : formS z = some fs) : fs.length ≤ 3 := by
  unfold formS at h
  cases e : formL.find? fun q => decide (z = q.1) with
  | none => rw [e] at h; cases h
  | some q =>
    rw [e] at h
    cases h
    have all : ∀ q ∈ formL, q.2.length ≤ 3 := by decide +kernel
    exact all q (List.mem_of_find?_eq_some e)
/-- whether a tuple is a step -/
def Tpl (K : PySem.W.Frag) (C : Addr) (H : Hp) (l : List V) (t : Bool) : Prop := (l = [] ∧ t = false) ∨ ∃ x r, l = x :: r ∧ ((∃ ty, TyX K H x ty ∧ PySem.W.kitOne K ty (.type "str") = some false ∧ t = false) ∨
  ∃ z : Str, x = .str z ∧ ((formS z = none ∧ t = false) ∨ ∃ fs, formS z = some fs ∧ ((r.length ≠ fs.length ∧ r.length ≤ 100 ∧ t = false) ∨ ∃ ts, Fts K C H r fs ts ∧ t = ts.all id)))
/-- whether a value is a step -/
def Stp (K : PySem.W.Frag) (C : Addr) (H : Hp) (v : V) (t : Bool) : Prop := (∃ ty, TyX K H v ty ∧ PySem.W.kitOne K ty (.type "tuple") = some false ∧ t = false) ∨ ∃ a l, v = .ref a ∧ H a = some (.tup l) ∧ Tpl K C H l t
def spIsStep (K : PySem.W.Frag) (C : Addr) : Sp := fun vs H Q _ => ∃ (v : V) (t : Bool), vs = [v] ∧ Stp K C H v t ∧ ∀ H', Same H H' → Q (.bl t) H'
section
variable {P : Program} {w : World} {K : PySem.W.Frag} {mg : Str → Option Value} {base : Heap}
theorem scIsStep : FnScope ["value", "item", "form"] ["value"] (defScope sIsStep) := ⟨rfl, rfl, rfl, by decide +kernel, rfl, by decide +kernel, by decide +kernel⟩
theorem ok_isStep {f f1 dF C : Addr} {fd fd1 : FuncData} (F : Fun K "is_step" "is_step" sIsStep f fd) (G1 : FnOk P w K mg base CX0 7 f1 fd1 ["item", "form"] (spFits K C)) (m1 : mg "_fits" = some (.ref f1)) (k1 : PySem.W.keepIn K (.ref f1) = true) (b1 : Binds K fd1 ["item", "form"] [])
    (mF : mg "_FORMS" = some (.ref dF)) (tF : FTab K w dF) (B : Blt mg) (D : Blp mg) (mT : mg "tuple" = none) (mZ : mg "zip" = none) : FnOk P w K mg base CX0 8 f fd ["value"] (spIsStep K C) := by
  refine F.ok scIsStep (fun vs H Q E h => ?_) (fun cdv A outer s H vs Q E hr h => ?_)
  · obtain ⟨v, t, rfl, _⟩ := h
    rfl
  · obtain ⟨v, t, rfl, hv, q⟩ := h
    have nd := scIsStep.nd
    obtain ⟨es, n, DF, lF⟩ := tF
    refine ⟨_, (pss_cons (ps_if (PW.pt (pw_or (pt_not (pt_val (pe_callB call_isi (by rfl) D.isi (by decide +kernel) (pa_cons (pv 0) (pa_cons (pe_bltn (v := .ty "tuple") (by rfl) mT (by decide +kernel) rfl) pa_nil))))) (pw_or (pt_cmpR (op_eqT0 hr.units) (pv 0) (pe_tup pa_nil) (nomark _)) (pw_or1 (pt_not (pt_val (pe_callB call_isi (by rfl) D.isi (by decide +kernel) (pa_cons (pe_ix ix_tup (pv 0) pe_int (fun _ _ => rfl)) (pa_cons (pe_bltn (v := .ty "str") (by rfl) D.str (by decide +kernel) rfl) pa_nil))))))))) (pss_one (ps_ret pe_bl)) pss_nil)
      (pss_cons (ps_if (PW.pt (pw_or (pt_cmpR (op_notIn_kd DF) (pe_ix ix_tup (pv 0) pe_int (fun _ _ => rfl)) (pe_glob (v := .ref dF) rfl mF rfl) (by rfl)) (pw_or1 (pt_cmpR op_ne (pe_callB call_len_seq (by rfl) B.len PySem.boot_len (pa_cons (pv 0) pa_nil)) (pe_op op_add pe_int (pe_callB call_len_seq (by rfl) B.len PySem.boot_len (pa_cons (pe_ix ix_kdict (pe_glob (v := .ref dF) rfl mF rfl) (pe_ix ix_tup (pv 0) pe_int (fun _ _ => rfl)) (fun _ _ => rfl)) pa_nil))) (nomark _))))) (pss_one (ps_ret pe_bl)) pss_nil)
      (pss_one (ps_ret (pe_callB (cr_all rfl) (by rfl) D.all (by decide +kernel) (pa_cons (pe_lc (own := [("item", 1), ("form", 2)]) (g := gTup K 2 (gCons (gName 1) (gCons (gName 2) (gNil)))) (tt := tYes) rfl nd (RZ.pi_zipA (by rfl) mZ (pa_cons (pe_slice sl_tup (pv 0) (po_some pe_int) po_none) (pa_cons (pe_ix ix_kdict (pe_glob (v := .ref dF) rfl mF rfl) (pe_ix ix_tup (pv 0) pe_int (fun _ _ => rfl)) (fun _ _ => rfl)) pa_nil))) (blkOk_by (N := ["value", "item", "form"]) (sc := defScope sIsStep) (by decide +kernel)) (fun _ _ _ _ _ => pg_tup (by rfl) (pgs_cons (pg_name (i := 1) nd rfl (Or.inl rfl)) (pgs_cons (pg_name (i := 2) nd rfl (Or.inl rfl)) (pgs_nil)))) (fun _ _ _ _ _ => pts_nil) (fun _ _ _ _ _ => (pe_call G1 hr (by rfl) m1 k1 b1 .nil pass0 (pa_cons (pv 1) (pa_cons (pv 2) pa_nil))))) pa_nil)))))), ?_⟩
    refine ⟨_, rfl, ?_⟩
    rcases hv with ⟨ty, hty, kt, rfl⟩ | ⟨a, l, rfl, ha, hl⟩
    · exact ⟨_, _, _, _, false, rfl, .ty _, hty, kt, false, rfl, iteT (iteT (q H (Same.refl H)))⟩
    · refine ⟨_, _, _, _, true, rfl, .ty _, .base (.tup ha), kit_ty (by decide +kernel), true, rfl, iteF ?_⟩
      refine ⟨_, rfl, (by show 0 ≤ sizeLine; decide), fun p0 np0 => ?_⟩
      have s1 : Same H (upd H p0 (.tup [])) := same_nw np0
      have t1 : upd H p0 (.tup []) p0 = some (.tup []) := upd_same
      generalize upd H p0 (.tup []) = H1 at s1 t1
      have a1 := s1 _ _ ha
      refine ⟨a, p0, l, rfl, rfl, SqT.of a1, SqT.of t1, _, rfl, ?_⟩
      rcases hl with ⟨rfl, rfl⟩ | ⟨x, r, rfl, hx⟩
      · exact iteT (iteT (q _ s1))
      refine iteF ?_
      have i0 : atI (x :: r) (0 : Int) = some x := atI_nat (xs := x :: r) (j := 0) rfl
      rcases hx with ⟨ty, hty, kt, rfl⟩ | ⟨z, rfl, hz⟩
      · exact ⟨_, rfl, a, _, _, _, rfl, rfl, SqT.of a1, i0, _, _, _, _, false, rfl, .ty _, ty_at (fun _ _ o e => s1 _ o e) hty, kt, false, rfl, iteT (q _ s1)⟩
      refine ⟨_, rfl, a, _, _, _, rfl, rfl, SqT.of a1, i0, _, _, _, _, true, rfl, .ty _, .base (.str z), kit_ty (by decide +kernel), true, rfl, iteF ?_⟩
      obtain ⟨v, ev, hv⟩ := lF z
      refine ⟨_, rfl, a, _, _, _, rfl, rfl, SqT.of a1, i0, z, v, rfl, rfl, ev, _, rfl, ?_⟩
      rcases hv with ⟨fz, rfl⟩ | ⟨fs, af, fz, rfl, hfs⟩
      · rcases hz with ⟨_, rfl⟩ | ⟨gs, e, _⟩
        · exact iteT (iteT (q _ s1))
        · rw [fz] at e
          cases e
      rcases hz with ⟨e, _⟩ | ⟨gs, e, hz⟩
      · rw [fz] at e
        cases e
      rw [fz] at e
      cases e
      refine iteF ⟨_, rfl, a, _, rfl, .inr (SqT.of a1), _, rfl, a, _, _, _, rfl, rfl, SqT.of a1, i0, dF, z, .ref af, rfl, rfl, ⟨_, _, _, DF.at_, DF.lit, ev, rfl⟩, af, _, rfl, .inr (hfs _), _, _, rfl, rfl, rfl, _, rfl, ?_⟩
      have lnf : ((fs.map V.str).length : Int) = (fs.length : Int) := by rw [List.length_map]
      rcases hz with ⟨hne, hle, rfl⟩ | ⟨ts, hfts, rfl⟩
      · rw [show (!decide (V.int (((V.str z :: r).length : Nat) : Int) = V.int (1 + (((fs.map V.str).length : Nat) : Int)))) = true by
          rw [lnf, decide_eq_false (fun e => by have := V.int.inj e; rw [List.length_cons] at this; omega)]
          rfl]
        exact iteT (q _ s1)
      have lr := hfts.len
      rw [show (!decide (V.int (((V.str z :: r).length : Nat) : Int) = V.int (1 + (((fs.map V.str).length : Nat) : Int)))) = false by
        rw [lnf, decide_eq_true (by rw [List.length_cons]; congr 1; omega)]
        rfl]
      refine iteF ?_
      have lf3 : fs.length ≤ 3 := forms_le fz
      have s10 : HT.sIx (r.length + 1) 0 (some (1 : Int)) = 1 := by
        unfold HT.sIx
        simp
      have ecut : cutV (V.str z :: r) (some (1 : Int)) none = r := by
        unfold cutV
        rw [List.length_cons, s10]
        show ((V.str z :: r).drop 1).take (r.length + 1 - 1) = r
        simp
      refine ⟨_, rfl, _, rfl, a, _, rfl, SqT.of a1, (fun h => by rw [List.length_cons, s10] at h; exact absurd h.1 (by decide)), fun p2 np2 => ?_⟩
      rw [ecut]
      have s2 : Same H1 (upd H1 p2 (.tup r)) := same_nw np2
      have t2 : upd H1 p2 (.tup r) p2 = some (.tup r) := upd_same
      generalize upd H1 p2 (.tup r) = H2 at s2 t2
      refine ⟨_, rfl, a, _, _, _, rfl, rfl, SqT.of (s2 _ _ a1), i0, dF, z, .ref af, rfl, rfl, ⟨_, _, _, DF.at_, DF.lit, ev, rfl⟩, p2, af, r, fs.map V.str, rfl, .inr ⟨SqT.of t2, hfs _, fun D nD => ?_⟩⟩
      have p2D : p2 ≠ D := ne_of_none t2 nD
      refine lc_it (walk_zipT (n := r.length) (by rw [List.length_map]; omega)) (fun i H' => (∀ q o, q ≠ D → H2 q = some o → H' q = some o) ∧ H' D = some (.lst ((ts.take i).map V.bl)))
        ⟨fun q o n e => by rw [upd_ne n]; exact e, upd_same⟩ (fun i H' _ h => ⟨SqT.of (h.1 _ _ p2D t2), hfs _⟩) ?_ ?_
      · rintro i x H3 H4 hi ⟨keep, hD⟩ ⟨T, x1, y1, rfl, nT, rfl, e1, e2⟩
        obtain ⟨v1, f1, t1, g1, g2, g3, ft⟩ := hfts.get hi
        have e1 : r[i]? = some x1 := e1
        have e2 : (fs.map V.str)[i]? = some y1 := e2
        rw [g1] at e1
        have ex : v1 = x1 := Option.some.inj e1
        subst ex
        rw [List.getElem?_map, g2] at e2
        have ey : V.str f1 = y1 := Option.some.inj e2
        subst ey
        have sT : Same H3 (upd H3 T (.tup [v1, .str f1])) := same_nw nT
        have tT : upd H3 T (.tup [v1, .str f1]) T = some (.tup [v1, .str f1]) := upd_same
        generalize upd H3 T (.tup [v1, .str f1]) = H5 at sT tT
        refine ⟨T, _, rfl, SqT.of tT, rfl, _, _, rfl, _, _, rfl, rfl, ?_⟩
        refine ⟨rfl, ?_⟩
        unfold tYes
        have old : ∀ q o, H q = some o → H5 q = some o := fun q o e => sT _ _ (keep q o (ne_of_none (s2 _ _ (s1 _ _ e)) nD) (s2 _ _ (s1 _ _ e)))
        refine iteT ⟨_, rfl, _, rfl, v1, f1, t1, rfl, ft.same old, fun H6 s6 => ?_⟩
        refine ⟨_, s6 _ _ (sT _ _ hD), ?_, ?_, ?_⟩
        · rw [List.length_map, List.length_take]
          exact Nat.lt_of_le_of_lt (Nat.min_le_left _ _) (Nat.lt_of_lt_of_le (show i < 4 by omega) (by decide))
        · intro q o n e
          rw [upd_ne n]
          exact s6 _ _ (sT _ _ (keep q o n e))
        · rw [upd_same, List.take_succ, g3, List.map_append]
          rfl
      · rintro H3 ⟨keep, hD⟩
        rw [List.take_of_length_le (by have := hfts.len2; omega)] at hD
        exact ⟨D, ts, rfl, SqL.of hD, q _ fun q2 o e => keep q2 o (ne_of_none (s2 _ _ (s1 _ _ e)) nD) (s2 _ _ (s1 _ _ e))⟩
end
end Mz
set_option Elab.async false
set_option linter.all false
set_option maxRecDepth 100000
set_option maxHeartbeats 4000000
/-! list.remove of a text -/
namespace Mz
open PySem PySem.Spec PyProof.Rows L2
/-- whether a value is this text -/
def isTx (z : Str) : Value → Bool
  | .str y _ => y.cps.toList == z.cps.toList
  | _ => false
theorem tx_at : ∀ {zs : List Str} {its : List Value}, Vals (zs.map V.str) its → ∀ {i : Nat} {v : Value}, its[i]? = some v → ∃ y t, zs[i]? = some y ∧ v = .str y t
  | [], its, r, i, v, h => by
    cases r
    simp at h
  | y :: zs, its, r, i, v, h => by
    rw [List.map_cons] at r
    cases r with
    | cons h1 h2 =>
      obtain ⟨t, rfl⟩ := h1
      match i, h with
      | 0, h =>
        simp at h
        exact ⟨y, t, rfl, h.symm⟩
      | i + 1, h => exact tx_at h2 (i := i) (by simpa using h)
theorem erase_tx : ∀ (zs : List Str) (j : Nat), (zs.map V.str).eraseIdx j = (zs.eraseIdx j).map V.str
  | [], j => by simp
  | y :: zs, 0 => by simp
  | y :: zs, j + 1 => by simp [erase_tx zs j]
theorem cps_inj {a b : Str} (h : a.cps.toList = b.cps.toList) : a = b := by
  cases a with
  | mk a => cases b with
    | mk b =>
      have h : a.toList = b.toList := h
      rw [Array.toList_inj.mp h]
def rRemS : V → List V → Hp → VK → Prop := fun x xs H Q => ∃ (l : Addr) (zs : List Str) (z : Str) (j : Nat), x = .ref l ∧ xs = [.str z] ∧ H l = some (.lst (zs.map V.str)) ∧ zs[j]? = some z ∧ (∀ m, m < j → zs[m]? ≠ some z) ∧ Q .non (upd H l (.lst ((zs.eraseIdx j).map V.str)))
theorem mt_removeS {X : Cx} : MtM X "list.remove" rRemS := by
  intro pins s σ H x xs v us Q I rx rxs h
  obtain ⟨l, zs, z, j, rfl, rfl, hH, hj, hno, q⟩ := h
  cases rx
  obtain ⟨_, rfl, t, rfl⟩ := rxs.one
  obtain ⟨sz, its, n, r, hl, e⟩ := I.lstM hH
  rw [List.length_map] at hl sz
  have hjn := (List.getElem?_eq_some_iff.mp hj).1
  have same : ∀ m (hm : m < its.length), ∃ y t, zs[m]? = some y ∧ its[m] = .str y t := fun m hm => tx_at r (List.getElem?_eq_getElem hm)
  have all : ∀ y, y ∈ its.toArray → MeetsSeq.EqGives y (.str z t) (isTx z y) := fun y hy => by
    obtain ⟨m, hm, e2⟩ := List.getElem_of_mem (by simpa using hy : y ∈ its)
    obtain ⟨w, t2, _, e3⟩ := same m hm
    rw [← e2, e3]
    exact SeqRoads2.EqGives.str w z t2 t
  have li : zs.length = its.length := by omega
  refine call_meets PySem.F.slot_list_remove ⟨_, e, rfl⟩ PySem.F.entry_list_remove (PySem.F.args_list_remove_2 _ _) (MeetsSeq.list_remove l its.toArray n (.str z t) (isTx z) all j (by rw [List.size_toArray]; omega) ?_ (fun m hm hmj => ?_) (by rw [List.size_toArray]; omega)) ⟨e, ?_⟩
  · obtain ⟨w, t2, e1, e3⟩ := same j (by omega)
    rw [hj] at e1
    cases e1
    rw [List.getElem_toArray, e3]
    exact beq_self_eq_true _
  · rw [List.size_toArray] at hm
    obtain ⟨w, t2, e1, e3⟩ := same m hm
    rw [List.getElem_toArray, e3]
    refine beq_eq_false_iff_ne.mpr fun e2 => hno m hmj ?_
    rw [e1, cps_inj e2]
  · have rr := r.eraseIdx j
    rw [erase_tx] at rr
    refine ⟨.non, _, I.lset (its' := its.eraseIdx j) (t' := s.toks) hH e (by show its.toArray.eraseIdxIfInBounds j = _; rw [List.eraseIdxIfInBounds_toArray]) rr ?_, rfl, q⟩
    rw [List.length_map]
    exact Nat.le_trans (len_erase zs j) (by omega)
end Mz
set_option Elab.async false
set_option linter.all false
set_option maxRecDepth 100000
set_option maxHeartbeats 4000000
/-! what goes over a list or a tuple, whichever it is -/
namespace Mz
open PySem PySem.Spec PyProof.Rows L2
def SqLT (K : PySem.W.Frag) (H : Hp) (a : Addr) (xs : List V) : Prop := SqL K H a xs ∨ SqT K H a xs
def iSeq (K : PySem.W.Frag) (tl : TE) : TI := fun σ H R => iList K tl σ H R ∨ iTup K tl σ H R
theorem pi_seq {X : Cx} {tg l : Expr} {tl : TE} (K : PySem.W.Frag) (hl : PE X l tl) (hK : X.K = K := by rfl) : PI X tg l (iSeq K tl) :=
  ⟨fun pins s σ H R I h => h.elim (fun h => (pi_listK K hl hK).run pins s σ H R I h) (fun h => (pi_tupK K hl hK).run pins s σ H R I h)⟩
/-- a comprehension over it -/
theorem lc_seq {K : PySem.W.Frag} {a : Addr} {xs : List V} {j : Nat} {g : TG} {tt : TT} {te : TE} {vs : List Nat} {σ : L2.St} {H : Hp} {Q : VK} (hv : σ[j]? = some (some (.ref a))) (hL : SqLT K H a xs) (Pv : Addr → Nat → Hp → Prop) (h0 : ∀ D, H D = none → Pv D 0 (upd H D (.lst [])))
    (hG : ∀ D i H', H D = none → i ≤ xs.length → Pv D i H' → SqLT K H' a xs ∧ ∀ p o, H p = some o → H' p = some o)
    (hs : ∀ D, H D = none → ∀ i x H', i < xs.length → Pv D i H' → xs[i]? = some x → g x (wipe σ vs) H' fun σ2 H2 => wipe σ2 vs = wipe σ vs ∧ tt σ2 H2 fun b H3 =>
      if b = true then te σ2 H3 fun y H4 => ∃ acc, H4 D = some (.lst acc) ∧ acc.length < sizeLine ∧ Pv D (i + 1) (upd H4 D (.lst (acc ++ [y]))) else Pv D (i + 1) H3)
    (hd : ∀ D H', H D = none → Pv D xs.length H' → Q (.ref D) H') : tLc (iSeq K (tVar j)) g tt te vs σ H Q := by
  have keepL : ∀ {H' : Hp}, SqL K H a xs → (∀ p o, H p = some o → H' p = some o) → SqL K H' a xs := fun {H'} h k => by
    rcases h with (h | ⟨o, h⟩) | h
    · exact .inl (.inl (k _ _ h))
    · exact .inl (.inr ⟨o, k _ _ h⟩)
    · exact .inr h
  have keepT : ∀ {H' : Hp}, SqT K H a xs → (∀ p o, H p = some o → H' p = some o) → SqT K H' a xs := fun {H'} h k => by
    rcases h with (h | ⟨o, h⟩) | h
    · exact .inl (.inl (k _ _ h))
    · exact .inl (.inr ⟨o, k _ _ h⟩)
    · exact .inr h
  rcases hL with hL | hL
  · refine .inl ⟨_, hv, a, rfl, ⟨_, hL⟩, fun D nD => ?_⟩
    refine lc_it (walk_list (xs := xs)) (Pv D) (h0 D nD) (fun i H' hi h => keepL hL (hG D i H' nD hi h).2) ?_ (fun H' h => hd D H' nD h)
    rintro i x H1 H2 hi p ⟨rfl, hx⟩
    exact hs D nD i x _ hi p hx
  · refine .inr ⟨_, hv, a, rfl, ⟨_, hL⟩, fun D nD => ?_⟩
    refine lc_it (walk_tup (xs := xs)) (Pv D) (h0 D nD) (fun i H' hi h => keepT hL (hG D i H' nD hi h).2) ?_ (fun H' h => hd D H' nD h)
    rintro i x H1 H2 hi p ⟨rfl, hx⟩
    exact hs D nD i x _ hi p hx
/-- a for over it -/
theorem for_seq {K : PySem.W.Frag} {a : Addr} {xs : List V} {j : Nat} {g : TG} {tb : TS} {D : Ends} {σ : L2.St} {H : Hp} (hv : σ[j]? = some (some (.ref a))) (hL : SqLT K H a xs) (Pv : Nat → L2.St → Hp → Prop) (h0 : Pv 0 σ H)
    (hG : ∀ i σ' H', i ≤ xs.length → Pv i σ' H' → ∀ p o, H p = some o → H' p = some o)
    (hs : ∀ i x σ' H', xs[i]? = some x → Pv i σ' H' → g x σ' H' fun σ2 H2 => tb { D with nx := Pv (i + 1), ct := Pv (i + 1), bk := D.nx } σ2 H2) (hd : ∀ σ' H', Pv xs.length σ' H' → D.nx σ' H') : tFor (iSeq K (tVar j)) g tb D σ H := by
  have keepL : ∀ {H' : Hp}, SqL K H a xs → (∀ p o, H p = some o → H' p = some o) → SqL K H' a xs := fun {H'} h k => by
    rcases h with (h | ⟨o, h⟩) | h
    · exact .inl (.inl (k _ _ h))
    · exact .inl (.inr ⟨o, k _ _ h⟩)
    · exact .inr h
  have keepT : ∀ {H' : Hp}, SqT K H a xs → (∀ p o, H p = some o → H' p = some o) → SqT K H' a xs := fun {H'} h k => by
    rcases h with (h | ⟨o, h⟩) | h
    · exact .inl (.inl (k _ _ h))
    · exact .inl (.inr ⟨o, k _ _ h⟩)
    · exact .inr h
  rcases hL with hL | hL
  · exact .inl ⟨_, hv, a, rfl, ⟨_, hL⟩, for_it (walk_list (xs := xs)) Pv h0 (fun i σ' H' hi p => keepL hL (hG i σ' H' hi p)) (fun i x σ' H1 H2 hi p y => by obtain ⟨rfl, hx⟩ := y; exact hs i x σ' _ hx p) hd⟩
  · exact .inr ⟨_, hv, a, rfl, ⟨_, hL⟩, for_it (walk_tup (xs := xs)) Pv h0 (fun i σ' H' hi p => keepT hL (hG i σ' H' hi p)) (fun i x σ' H1 H2 hi p y => by obtain ⟨rfl, hx⟩ := y; exact hs i x σ' _ hx p) hd⟩
/-- a suite that is never come to -/
theorem pss_never {X : Cx} {ss : List Stmt} : PSs X ss (fun _ _ _ => False) := ⟨fun _ _ _ _ _ _ h => h.elim⟩
end Mz
set_option Elab.async false
set_option linter.all false
set_option maxRecDepth 100000
set_option maxHeartbeats 4000000
/-! the same where other things may change meanwhile -/
namespace Mz
open PySem PySem.Spec PyProof.Rows L2
/-- a list or a tuple -/
def SqA (H : Hp) (a : Addr) (xs : List V) : Prop := H a = some (.lst xs) ∨ H a = some (.tup xs)
theorem SqA.same {H H' : Hp} {a : Addr} {xs : List V} (s : Same H H') (h : SqA H a xs) : SqA H' a xs := h.imp (s a _) (s a _)
theorem SqA.lt {K : PySem.W.Frag} {H : Hp} {a : Addr} {xs : List V} (h : SqA H a xs) : SqLT K H a xs := h.imp SqL.of SqT.of
theorem SqA.some {H : Hp} {a : Addr} {xs : List V} (h : SqA H a xs) : ∃ o, H a = some o := h.elim (fun h => ⟨_, h⟩) fun h => ⟨_, h⟩
theorem SqA.at {H H' : Hp} {a : Addr} {xs : List V} (h : SqA H a xs) (k : ∀ o, H a = Option.some o → H' a = Option.some o) : SqA H' a xs := h.imp (k _) (k _)
theorem for_seqA {K : PySem.W.Frag} {a : Addr} {xs : List V} {j : Nat} {g : TG} {tb : TS} {D : Ends} {σ : L2.St} {H : Hp} (hv : σ[j]? = some (some (.ref a))) (hL : SqA H a xs) (Pv : Nat → L2.St → Hp → Prop) (h0 : Pv 0 σ H)
    (hG : ∀ i σ' H', Pv i σ' H' → ∀ o, H a = some o → H' a = some o)
    (hs : ∀ i x σ' H', xs[i]? = some x → Pv i σ' H' → g x σ' H' fun σ2 H2 => tb { D with nx := Pv (i + 1), ct := Pv (i + 1), bk := D.nx } σ2 H2) (hd : ∀ σ' H', Pv xs.length σ' H' → D.nx σ' H') : tFor (iSeq K (tVar j)) g tb D σ H := by
  rcases hL with hL | hL
  · refine .inl ⟨_, hv, a, rfl, ⟨_, SqL.of hL⟩, for_it (walk_list (xs := xs)) Pv h0 (fun i σ' H' _ p => SqL.of (hG i σ' H' p _ hL)) (fun i x σ' G G' _ p y => ?_) hd⟩
    obtain ⟨rfl, hx⟩ := y
    exact hs i x σ' _ hx p
  · refine .inr ⟨_, hv, a, rfl, ⟨_, SqT.of hL⟩, for_it (walk_tup (xs := xs)) Pv h0 (fun i σ' H' _ p => SqT.of (hG i σ' H' p _ hL)) (fun i x σ' G G' _ p y => ?_) hd⟩
    obtain ⟨rfl, hx⟩ := y
    exact hs i x σ' _ hx p
theorem lc_seqA {K : PySem.W.Frag} {a : Addr} {xs : List V} {j : Nat} {g : TG} {tt : TT} {te : TE} {vs : List Nat} {σ : L2.St} {H : Hp} {Q : VK} (hv : σ[j]? = some (some (.ref a))) (hL : SqA H a xs) (Pv : Addr → Nat → Hp → Prop) (h0 : ∀ D, H D = none → Pv D 0 (upd H D (.lst [])))
    (hG : ∀ D i H', H D = none → Pv D i H' → ∀ o, H a = some o → H' a = some o)
    (hs : ∀ D, H D = none → ∀ i x H', i < xs.length → Pv D i H' → xs[i]? = some x → g x (wipe σ vs) H' fun σ2 H2 => wipe σ2 vs = wipe σ vs ∧ tt σ2 H2 fun b H3 =>
      if b = true then te σ2 H3 fun y H4 => ∃ acc, H4 D = some (.lst acc) ∧ acc.length < sizeLine ∧ Pv D (i + 1) (upd H4 D (.lst (acc ++ [y]))) else Pv D (i + 1) H3)
    (hd : ∀ D H', H D = none → Pv D xs.length H' → Q (.ref D) H') : tLc (iSeq K (tVar j)) g tt te vs σ H Q := by
  rcases hL with hL | hL
  · refine .inl ⟨_, hv, a, rfl, ⟨_, SqL.of hL⟩, fun D nD => lc_it (walk_list (xs := xs)) (Pv D) (h0 D nD) (fun i H' _ h => SqL.of (hG D i H' nD h _ hL)) (fun i x G G' hi p y => ?_) (fun H' h => hd D H' nD h)⟩
    obtain ⟨rfl, hx⟩ := y
    exact hs D nD i x _ hi p hx
  · refine .inr ⟨_, hv, a, rfl, ⟨_, SqT.of hL⟩, fun D nD => lc_it (walk_tup (xs := xs)) (Pv D) (h0 D nD) (fun i H' _ h => SqT.of (hG D i H' nD h _ hL)) (fun i x G G' hi p y => ?_) (fun H' h => hd D H' nD h)⟩
    obtain ⟨rfl, hx⟩ := y
    exact hs D nD i x _ hi p hx
end Mz
set_option Elab.async false
set_option linter.all false
set_option maxRecDepth 100000
set_option maxHeartbeats 4000000
/-! steps and hands as data -/
namespace Mz
open PySem PySem.Spec PyProof.Rows L2
/-- an item of a step: a place, or a word -/
inductive Itm
  | pl (z : Str) (k : Int)
  | wd (s : Str)
abbrev StpD := Str × List Itm
/-- an item as it is handed in -/
def ItmG (K : PySem.W.Frag) (C : Addr) (H : Hp) (v : V) : Itm → Prop
  | .pl z k => Pv6 K C H v z k ∧ Good z k
  | .wd s => v = .str s ∧ Sm 1000 s
/-- an item as it is kept -/
def ItmP (C : Addr) (H : Hp) (v : V) : Itm → Prop
  | .pl z k => (∃ a, v = .ref a ∧ Pl C H a z k) ∧ Good z k
  | .wd s => v = .str s ∧ Sm 1000 s
/-- an item has a form -/
def FitI : Itm → Str → Prop
  | .pl _ _, f => f = "place"
  | .wd s, f => (f = "mark" ∧ markV (.str s) = true) ∨ (f = "name" ∧ nameS s = true)
def StOk (s : StpD) : Prop := ∃ fs, formS s.1 = some fs ∧ Lk FitI s.2 fs
def StG (K : PySem.W.Frag) (C : Addr) (H : Hp) (a : Addr) (s : StpD) : Prop := ∃ vs, H a = some (.tup (.str s.1 :: vs)) ∧ Lk (ItmG K C H) vs s.2 ∧ StOk s
def StP (C : Addr) (H : Hp) (a : Addr) (s : StpD) : Prop := ∃ vs, H a = some (.tup (.str s.1 :: vs)) ∧ Lk (ItmP C H) vs s.2 ∧ StOk s
def HdG (K : PySem.W.Frag) (C : Addr) (H : Hp) (a : Addr) (ss : List StpD) : Prop := ∃ as : List Addr, SqA H a (as.map V.ref) ∧ Lk (StG K C H) as ss
def HdP (C : Addr) (H : Hp) (a : Addr) (ss : List StpD) : Prop := ∃ as : List Addr, H a = some (.lst (as.map V.ref)) ∧ Lk (StP C H) as ss
section
variable {K : PySem.W.Frag} {C : Addr} {H H' : Hp}
theorem ItmG.same (s : Same H H') {v : V} : ∀ {it : Itm}, ItmG K C H v it → ItmG K C H' v it
  | .pl _ _, h => ⟨h.1.same s, h.2⟩
  | .wd _, h => h
theorem ItmP.same (s : Same H H') {v : V} : ∀ {it : Itm}, ItmP C H v it → ItmP C H' v it
  | .pl _ _, ⟨⟨a, e, dx, h⟩, g⟩ => ⟨⟨a, e, dx, s _ _ h⟩, g⟩
  | .wd _, h => h
theorem StG.same (s : Same H H') {a : Addr} {d : StpD} (h : StG K C H a d) : StG K C H' a d := by
  obtain ⟨vs, h1, h2, h3⟩ := h
  exact ⟨vs, s _ _ h1, h2.imp fun _ _ x => ItmG.same s x, h3⟩
theorem StP.same (s : Same H H') {a : Addr} {d : StpD} (h : StP C H a d) : StP C H' a d := by
  obtain ⟨vs, h1, h2, h3⟩ := h
  exact ⟨vs, s _ _ h1, h2.imp fun _ _ x => ItmP.same s x, h3⟩
theorem HdG.same (s : Same H H') {a : Addr} {d : List StpD} (h : HdG K C H a d) : HdG K C H' a d := by
  obtain ⟨as, h1, h2⟩ := h
  exact ⟨as, h1.same s, h2.imp fun _ _ x => x.same s⟩
theorem HdP.same (s : Same H H') {a : Addr} {d : List StpD} (h : HdP C H a d) : HdP C H' a d := by
  obtain ⟨as, h1, h2⟩ := h
  exact ⟨as, s _ _ h1, h2.imp fun _ _ x => x.same s⟩
end
/-- a place is neither an int nor a text -/
structure Npi (K : PySem.W.Frag) (C : Addr) : Prop where
  ki : PySem.W.kitOne K (.ref C) (.type "int") = some false
  ks : PySem.W.kitOne K (.ref C) (.type "str") = some false
theorem fit_of {K : PySem.W.Frag} {C : Addr} {H : Hp} (Y : Pty K C) (N : Npi K C) {v : V} {it : Itm} {f : Str} (h : ItmG K C H v it) (hf : FitI it f) : Ft K C H v f true := by
  cases it with
  | pl z k =>
    obtain ⟨pv, g⟩ := h
    have hf : f = "place" := hf
    rcases pv with ⟨a, e, p⟩ | ⟨⟨kd, ot⟩, e⟩
    · refine ⟨?_, .inl ⟨hf, .inl ⟨a, z, k, e, p, rfl⟩⟩⟩
      rw [e]
      exact .oth a _ (p.ty Y) N.ki N.ks
    · exact ⟨kd, .inl ⟨hf, .inr ⟨ot, by rw [e]; rfl⟩⟩⟩
  | wd s =>
    obtain ⟨e, sm⟩ := h
    have kd : Kd K H v := by
      rw [e]
      exact .str s sm.1 sm.2
    rcases hf with ⟨hf, hm⟩ | ⟨hf, hn⟩
    · exact ⟨kd, .inr (.inl ⟨hf, by rw [e]; exact hm.symm⟩)⟩
    · exact ⟨kd, .inr (.inr ⟨hf, by rw [e]; exact hn.symm⟩)⟩
theorem fts_of {K : PySem.W.Frag} {C : Addr} {H : Hp} (Y : Pty K C) (N : Npi K C) {vs : List V} {its : List Itm} {fs : List Str} (h : Lk (ItmG K C H) vs its) (hf : Lk FitI its fs) : Fts K C H vs fs (vs.map fun _ => true) := by
  induction h generalizing fs with
  | nil =>
    cases hf
    exact .nil
  | cons h _ ih =>
    cases hf with
    | cons h2 h3 => exact .cons (fit_of Y N h h2) (ih h3)
theorem stp_of {K : PySem.W.Frag} {C : Addr} {H : Hp} (Y : Pty K C) (N : Npi K C) {a : Addr} {s : StpD} (h : StG K C H a s) : Stp K C H (.ref a) true := by
  obtain ⟨vs, h1, h2, fs, h3, h4⟩ := h
  refine .inr ⟨a, _, rfl, h1, .inr ⟨_, vs, rfl, .inr ⟨s.1, rfl, .inr ⟨fs, h3, .inr ⟨_, fts_of Y N h2 h4, ?_⟩⟩⟩⟩⟩
  symm
  rw [List.all_eq_true]
  intro b hb
  obtain ⟨_, _, rfl⟩ := List.mem_map.mp hb
  rfl
theorem inV_strs {z : Str} {l : List Str} : inV (.str z) (l.map V.str) = decide (z ∈ l) := by
  rw [Bool.eq_iff_iff, decide_eq_true_eq]
  unfold inV
  rw [List.any_eq_true]
  constructor
  · rintro ⟨v, hv, e⟩
    obtain ⟨y, hy, rfl⟩ := List.mem_map.mp hv
    have e : (y == z) = true := e
    rw [← eq_of_beq e]
    exact hy
  · intro h
    exact ⟨.str z, List.mem_map.mpr ⟨z, h, rfl⟩, by show (z == z) = true; exact beq_self_eq_true z⟩
theorem flat_strs {l : List Str} : (l.map V.str).all flatV = true := by
  rw [List.all_eq_true]
  intro v hv
  obtain ⟨y, _, rfl⟩ := List.mem_map.mp hv
  rfl
/-! locks -/
/-- what a hand holds behind a step -/
def lockOne (held : List Str) (s : StpD) : Option (List Str) := match s.2 with
  | [.wd n] => if s.1 = "lock" then (if n ∈ held then none else some (held ++ [n])) else if s.1 = "unlock" then (if n ∈ held then some (held.erase n) else none) else some held
  | _ => some held
def locksFrom : List Str → List StpD → Bool
  | _, [] => true
  | held, s :: r => match lockOne held s with
    | none => false
    | some h => locksFrom h r
theorem lock_form {s : StpD} (h : StOk s) (hw : s.1 = "lock" ∨ s.1 = "unlock") : ∃ n, s.2 = [.wd n] ∧ nameS n = true := by
  obtain ⟨fs, h1, h2⟩ := h
  have e : fs = (["name"] : List Str) := by
    rcases hw with e | e
    · rw [e, show formS "lock" = some (["name"] : List Str) by decide +kernel] at h1
      exact (Option.some.inj h1).symm
    · rw [e, show formS "unlock" = some (["name"] : List Str) by decide +kernel] at h1
      exact (Option.some.inj h1).symm
  rw [e] at h2
  generalize s.2 = l at h2
  cases h2 with
  | cons h3 h4 =>
    cases h4
    rename_i it
    cases it with
    | pl z k => exact absurd (show ("name" : Str) = "place" from h3) (by decide +kernel)
    | wd n =>
      rcases h3 with ⟨e, _⟩ | ⟨_, hn⟩
      · exact absurd (show ("name" : Str) = "mark" from e) (by decide +kernel)
      · exact ⟨n, rfl, hn⟩
theorem lock_other {held : List Str} {s : StpD} (h1 : s.1 ≠ "lock") (h2 : s.1 ≠ "unlock") : lockOne held s = some held := by
  unfold lockOne
  split
  · rw [if_neg h1, if_neg h2]
  · rfl
theorem erase_at : ∀ {l : List Str} {z : Str}, z ∈ l → ∃ j, l[j]? = some z ∧ (∀ m, m < j → l[m]? ≠ some z) ∧ l.eraseIdx j = l.erase z
  | [], _, h => nomatch h
  | y :: l, z, h => by
    by_cases e : y = z
    · refine ⟨0, by rw [e]; rfl, fun m hm => absurd hm (Nat.not_lt_zero m), ?_⟩
      rw [e, List.erase_cons_head]
      rfl
    · have hz : z ∈ l := by
        rcases List.mem_cons.mp h with h | h
        · exact (e h.symm).elim
        · exact h
      obtain ⟨j, h1, h2, h3⟩ := erase_at hz
      refine ⟨j + 1, h1, fun m hm => ?_, ?_⟩
      · match m, hm with
        | 0, _ => exact fun x => e (Option.some.inj x)
        | m + 1, hm => exact h2 m (by omega)
      · rw [List.erase_cons_tail (by rw [beq_eq_false_iff_ne.mpr e]; exact Bool.false_ne_true), List.eraseIdx_cons_succ, h3]
end Mz
set_option Elab.async false
set_option linter.all false
set_option maxRecDepth 100000
set_option maxHeartbeats 4000000
namespace Mz
open PySem PySem.Spec PyProof.Rows L2
theorem sh_noname {z : Str} {n : Int} (h : shS (tailS z) = some n) : ¬ nameS z = true := by
  intro hn
  have hall : (z.cps.toList.all fun c => decide (c ∈ abc.cps.toList)) = true := (Bool.and_eq_true_iff.mp hn).2
  have sub : ∀ c ∈ (tailS z).cps.toList, c ∈ abc.cps.toList := by
    intro c hc
    unfold tailS cutS at hc
    have h1 : c ∈ z.cps.toList := List.mem_of_mem_drop (List.mem_of_mem_take (by simpa using hc))
    exact of_decide_eq_true (List.all_eq_true.mp hall c h1)
  generalize tailS z = y at h sub
  unfold shS at h
  repeat' split at h
  all_goals first
    | (rename_i e
       subst e
       revert sub
       decide +kernel)
    | cases h
def dueW (z : Str) : Str × Int := match shS (tailS z) with
  | some k => (headS z, k)
  | none => (z, 0)
theorem due_parts {z : Str} (h : numS z = none) : partsS z = if nameS (dueW z).1 = true then some (dueW z) else none := by
  unfold partsS dueW
  rw [h]
  dsimp only
  cases e : shS (tailS z) with
  | some k =>
    rw [if_neg (sh_noname e)]
  | none =>
    show (if nameS z = true then some (z, (0 : Int)) else if nameS (headS z) = true then none else none) = if nameS z = true then some (z, (0 : Int)) else none
    by_cases hn : nameS z = true
    · rw [if_pos hn, if_pos hn]
    · rw [if_neg hn, if_neg hn]
      split <;> rfl
theorem ix_m2 (n : Nat) : HT.sIx n n (some (-2)) = n - 2 ∧ HT.sIx n 0 (some (-2)) = n - 2 := by
  constructor
  · show (if (-2 : Int) < 0 then ((-2 : Int) + (n : Int)).toNat else min (-2 : Int).toNat n) = n - 2
    rw [if_pos (by decide)]
    omega
  · show (if (-2 : Int) < 0 then ((-2 : Int) + (n : Int)).toNat else min (-2 : Int).toNat n) = n - 2
    rw [if_pos (by decide)]
    omega
theorem head_list (w : Str) : (headS w).cps.toList = w.cps.toList.take (w.length - 2) := by
  show (((w.cps.toList.drop (HT.sIx w.length 0 none)).take (HT.sIx w.length w.length (some (-2)) - HT.sIx w.length 0 none)).toArray).toList = _
  rw [(ix_m2 w.length).1, HT.sIx_none]
  simp
theorem tail_list (w : Str) : (tailS w).cps.toList = w.cps.toList.drop (w.length - 2) := by
  show (((w.cps.toList.drop (HT.sIx w.length 0 (some (-2)))).take (HT.sIx w.length w.length none - HT.sIx w.length 0 (some (-2)))).toArray).toList = _
  rw [(ix_m2 w.length).2, HT.sIx_none]
  show (w.cps.toList.drop (w.length - 2)).take (w.length - (w.length - 2)) = _
  refine List.take_of_length_le ?_
  rw [List.length_drop]
  exact Nat.le_refl _
theorem head_tail (w : Str) : "" ++ headS w ++ tailS w = w := by
  refine str_ext ?_
  rw [app_list, app_list, nil_list, head_list, tail_list, List.nil_append, List.take_append_drop]
theorem sh_sign {y : Str} {k : Int} (h : shS y = some k) : y = signS k ∧ k ≠ 0 := by
  unfold shS at h
  repeat' split at h
  all_goals first
    | (rename_i e
       cases h
       subst e
       decide +kernel)
    | cases h
theorem sign_sh {k : Int} (h0 : -3 ≤ k) (h1 : k ≤ 3) (hz : k ≠ 0) : shS (signS k) = some k := by
  rcases small_six h0 h1 hz with rfl | rfl | rfl | rfl | rfl | rfl
  all_goals decide +kernel
theorem name_ne {z : Str} (h : nameS z = true) : ¬ z = "" := fun e => by
  rw [e] at h
  exact absurd h (by decide +kernel)
theorem name_num {z : Str} (h : nameS z = true) : numS z = none := by
  cases e : numS z with
  | none => rfl
  | some n =>
    exfalso
    unfold numS at e
    repeat' split at e
    all_goals first
      | (rename_i e1
         subst e1
         exact absurd h (by decide +kernel))
      | cases e
/-- what is read is written back as it was -/
theorem text_back {t z : Str} {k : Int} (h : partsS t = some (z, k)) : strP z k = t := by
  unfold partsS at h
  cases e : numS t with
  | some n =>
    rw [e] at h
    cases h
    unfold numS at e
    repeat' split at e
    all_goals first
      | (rename_i e1
         cases e
         subst e1
         decide +kernel)
      | cases e
  | none =>
    rw [e] at h
    dsimp only at h
    by_cases hn : nameS t = true
    · rw [if_pos hn] at h
      cases h
      unfold strP
      rw [if_neg (name_ne hn), if_pos rfl]
    · rw [if_neg hn] at h
      by_cases hh : nameS (headS t) = true
      · rw [if_pos hh] at h
        cases e2 : shS (tailS t) with
        | none =>
          rw [e2] at h
          cases h
        | some i =>
          rw [e2] at h
          cases h
          obtain ⟨e3, e4⟩ := sh_sign e2
          unfold strP
          rw [if_neg (name_ne hh), if_neg e4, ← e3]
          exact head_tail t
      · rw [if_neg hh] at h
        cases h
/-- what is written is read as it was -/
theorem text_on {z : Str} {k : Int} (g : Good z k) : partsS (strP z k) = some (z, k) := by
  rcases g.2.2.1 with rfl | hn
  · have h0 : 0 ≤ k := g.2.2.2.1
    have h1 := g.2.2.2.2
    rcases (show k = 0 ∨ k = 1 ∨ k = 2 ∨ k = 3 by omega) with rfl | rfl | rfl | rfl
    all_goals decide +kernel
  · have nz := name_ne hn
    by_cases hk : k = 0
    · subst hk
      have e : strP z 0 = z := by
        unfold strP
        rw [if_neg nz, if_pos rfl]
      rw [e]
      unfold partsS
      rw [name_num hn]
      exact if_pos hn
    · have e : strP z k = "" ++ z ++ signS k := by
        unfold strP
        rw [if_neg nz, if_neg hk]
      have el : (strP z k).cps.toList = z.cps.toList ++ (signS k).cps.toList := by
        rw [e, app_list, app_list, nil_list, List.nil_append]
      have sl : (signS k).cps.toList.length = 2 := strlen_sign
      have wl : (strP z k).length - 2 = z.cps.toList.length := by
        have : (strP z k).length = (strP z k).cps.toList.length := rfl
        rw [this, el, List.length_append, sl]
        omega
      have th : headS (strP z k) = z := str_ext (by rw [head_list, wl, el, List.take_left])
      have tt : tailS (strP z k) = signS k := str_ext (by rw [tail_list, wl, el, List.drop_left])
      have es : shS (tailS (strP z k)) = some k := by
        rw [tt]
        exact sign_sh g.lo g.hi hk
      have nn : numS (strP z k) = none := by
        have z1 : 0 < z.length := pos_len nz
        have len : 3 ≤ (strP z k).length := by
          have e1 : (strP z k).length = (strP z k).cps.toList.length := rfl
          have e2 : z.length = z.cps.toList.length := rfl
          rw [e1, el, List.length_append, sl]
          omega
        generalize strP z k = y at len
        cases e5 : numS y with
        | none => rfl
        | some n =>
          exfalso
          unfold numS at e5
          repeat' split at e5
          all_goals first
            | (rename_i e1
               subst e1
               exact absurd len (by decide +kernel))
            | cases e5
      have ew : dueW (strP z k) = (z, k) := by
        unfold dueW
        rw [es]
        show (headS (strP z k), k) = (z, k)
        rw [th]
      rw [due_parts nn, ew]
      exact if_pos hn
theorem strP_sm {z : Str} {k : Int} (g : Good z k) : (strP z k).length ≤ 1002 ∧ PyData.strOk (strP z k) = true := by
  by_cases hz : z = ""
  · subst hz
    have h0 : 0 ≤ k := g.2.2.2.1
    have h1 := g.2.2.2.2
    rcases (show k = 0 ∨ k = 1 ∨ k = 2 ∨ k = 3 by omega) with rfl | rfl | rfl | rfl
    all_goals decide +kernel
  · unfold strP
    rw [if_neg hz]
    by_cases hk : k = 0
    · rw [if_pos hk]
      exact ⟨Nat.le_trans g.1 (by decide), g.2.1⟩
    · rw [if_neg hk]
      have hs : Sm 2 (signS k) := by
        rcases small_six g.lo g.hi hk with rfl | rfl | rfl | rfl | rfl | rfl
        all_goals (unfold Sm; decide +kernel)
      have h0 : Sm 0 ("" : Str) := by
        unfold Sm
        decide +kernel
      exact Sm.mono ((h0.app (n := 0) (m := 1000) ⟨g.1, g.2.1⟩).app hs) (by decide)
/-- the text of a place tells it -/
theorem strP_inj {z y : Str} {k i : Int} (g : Good z k) (h : Good y i) (e : strP z k = strP y i) : (z, k) = (y, i) := by
  have e1 := text_on g
  rw [e, text_on h] at e1
  exact (Option.some.inj e1).symm
end Mz
set_option Elab.async false
set_option linter.all false
set_option maxRecDepth 100000
set_option maxHeartbeats 4000000
/-! the list of a dict's values -/
namespace Mz
open PySem PySem.Spec PyProof.Rows L2
def tListVals (te : TE) : TE := fun σ H Q => te σ H fun x H1 => ∃ (d : Addr) (kvs : List (Key × V)), x = .ref d ∧ H1 d = some (.dK kvs) ∧ ∀ p, H1 p = none → Q (.ref p) (upd H1 p (.lst (kvs.map (·.2))))
theorem kv_vals {kvs : List (Key × V)} {vs : List (Key × Value)} (r : KV kvs vs) : Vals (kvs.map (·.2)) (vs.map (·.2)) := by
  unfold KV at r
  induction r with
  | nil => exact .nil
  | cons h _ ih => exact .cons h.2 ih
theorem pe_listVals {X : Cx} {e : Expr} {te : TE} {p apos cpos pos : Pos} (hc : X.calm = true) (he : PE X e te) (hg : Gl X "list") (hm : X.mg "list" = none) (hv : bootBuiltins "list" = some (.type "list")) (hb : attributeBase e "values" X.env (eval e X.env) = eval e X.env := by rfl) (hl : (apos.endLine == cpos.line) = true := by rfl)
    (hs : starEach [.Call (.Attribute e "values" apos) [] [] cpos] X.env = (false, eval (.Call (.Attribute e "values" apos) [] [] cpos) X.env) :: starEach [] X.env := by rfl) : PE X (.Call (.Name "list" p) [.Call (.Attribute e "values" apos) [] [] cpos] [] pos) (tListVals te) := by
  refine ⟨fun pins s σ H Q I hq => wpAny_Call_Name_kw (ld_blt I hg hm hv (PyProof.Rows.callWith_type1 ?_ hs rfl))⟩
  rw [hs]
  show wpAny _ _ (spliced ((false, eval (.Call (.Attribute e "values" apos) [] [] cpos) X.env) :: backTo pos (starEach [] X.env))) _ _ s
  refine Calls.spliced_cons (wpAny_Call_method (T := "dict") (id := "dict.values") hb rfl hl F.plainAttrs_dict F.slot_dict_values F.type_dict_values (thn (he.run pins s σ H _ I hq) fun u s1 ⟨x, H1, I1, rx, d, kvs, ex, hd, q⟩ => ?_))
  subst ex
  obtain rfl : u = Value.ref d := rx
  obtain ⟨hz, lo, vs, kv, dd⟩ := I1.hok d _ hd
  obtain ⟨ep, hat⟩ := dd.dictAt
  have lk := Paired.length kv
  have J : Inv X pins σ H1 { s1 with heap := s1.heap.push { cls := .type "dict_values", data := .fields #[.ref d] } } := I1.kept (t' := s1.toks) fun b ob y => Heap.get?_push_of_some _ y
  refine ⟨dd.typeIs, dd.mapOf.noDict, (show wpAny _ _ (callWith cpos (.builtin "dict.values") [.ref d] [] []) _ X.xe s1 from method_meetsIn F.slot_dict_values F.entry_dict_values rfl (PySem.evalArgs_none ⟨rfl, dd.typeIs, F.args_dict_values_1 _, _, meets_dict_values (mixKind X.prog X.w) d lo, ⟨vs, dd⟩, ?_⟩))⟩
  refine Calls.spliced_nil (PySem.W.kdl_call (PySem.W.kdl_values (knd := mixKind X.prog X.w) (kvs := vs) (ep := ep) (r := s1.heap.objs.size)) (I1.ok.hd hc) ⟨⟨_, Heap.get?_push_size _ rfl, rfl, rfl⟩, hat.push _⟩ (by omega) fun h' tk acc c hk hS hacc => ?_)
  have hv2 : acc.toList = vs.map (·.2) := PySem.W.kdl_vals_eq acc.toList (by rw [Array.length_toList]; exact hacc.1) fun j v y => hacc.2 j v (by rw [← Array.getElem?_toList]; exact y)
  refine ⟨V.ref (s1.heap.push { cls := .type "dict_values", data := .fields #[.ref d] }).objs.size, upd H1 _ (.lst (kvs.map (·.2))), J.laid (t' := tk) hk (Nat.le_refl _) ⟨by rw [List.length_map]; omega, acc.toList, c, by rw [hv2]; exact kv_vals kv, by rw [Array.toArray_toList]; exact hS⟩, rfl, q _ (J.hok.fresh (Nat.le_refl _))⟩
end Mz
set_option Elab.async false
set_option linter.all false
set_option maxRecDepth 100000
set_option maxHeartbeats 4000000
namespace Mz
open PySem PySem.Spec PyProof.Rows L2
/-! different_places -/
def addNew (acc : List (Str × Int)) (p : Str × Int) : List (Str × Int) := if p ∈ acc then acc else acc ++ [p]
/-- the first ones of equal ones -/
def firsts (ps : List (Str × Int)) : List (Str × Int) := ps.foldl addNew []
theorem firsts_take {ps : List (Str × Int)} {i : Nat} {p : Str × Int} (h : ps[i]? = some p) : firsts (ps.take (i + 1)) = addNew (firsts (ps.take i)) p := by
  unfold firsts
  rw [List.take_succ, h, List.foldl_append]
  rfl
theorem addNew_sub {acc : List (Str × Int)} {p q : Str × Int} (h : q ∈ addNew acc p) : q ∈ acc ∨ q = p := by
  unfold addNew at h
  split at h
  · exact .inl h
  · rcases List.mem_append.mp h with h | h
    · exact .inl h
    · exact .inr (List.mem_singleton.mp h)
theorem fold_sub : ∀ (ps acc : List (Str × Int)) {q : Str × Int}, q ∈ ps.foldl addNew acc → q ∈ acc ∨ q ∈ ps
  | [], acc, q, h => .inl h
  | p :: ps, acc, q, h => by
    rcases fold_sub ps (addNew acc p) h with h | h
    · rcases addNew_sub h with h | h
      · exact .inl h
      · exact .inr (by rw [h]; exact List.mem_cons_self)
    · exact .inr (List.mem_cons_of_mem _ h)
theorem firsts_sub {ps : List (Str × Int)} {q : Str × Int} (h : q ∈ firsts ps) : q ∈ ps := (fold_sub ps [] h).resolve_left fun x => nomatch x
theorem addNew_len {acc : List (Str × Int)} {p : Str × Int} : (addNew acc p).length ≤ acc.length + 1 := by
  unfold addNew
  split
  · omega
  · rw [List.length_append]
    exact Nat.le_refl _
theorem firsts_len : ∀ (ps : List (Str × Int)) (n : Nat), (firsts (ps.take n)).length ≤ n
  | ps, 0 => by rw [List.take_zero]; exact Nat.le_refl 0
  | ps, n + 1 => by
    cases h : ps[n]? with
    | none =>
      have e : ps.take (n + 1) = ps.take n := by rw [List.take_succ, h]; exact List.append_nil _
      rw [e]
      exact Nat.le_succ_of_le (firsts_len ps n)
    | some p =>
      rw [firsts_take h]
      exact Nat.le_trans addNew_len (Nat.succ_le_succ (firsts_len ps n))
def spDiff (C : Addr) : Sp := fun vs H Q _ => ∃ (pl : Addr) (qs : List Addr) (ps : List (Str × Int)), vs = [.ref pl] ∧ H pl = some (.lst (qs.map V.ref)) ∧ Lk (PlR C H) qs ps ∧ (∀ p ∈ ps, Good p.1 p.2) ∧ ps.length ≤ 200 ∧
  ∀ (r : Addr) (rs : List Addr) (H' : Hp), Same H H' → H r = none → H' r = some (.lst (rs.map V.ref)) → Lk (PlR C H') rs (firsts ps) → Q (.ref r) H'
section
variable {P : Program} {w : World} {K : PySem.W.Frag} {mg : Str → Option Value} {base : Heap}
theorem scDiff : FnScope ["places", "found", "place"] ["places"] (defScope sDiffPlaces) := ⟨rfl, rfl, rfl, by decide +kernel, rfl, by decide +kernel, by decide +kernel⟩
theorem ok_diff {f C fS : Addr} {fd fdS : FuncData} (F : Fun K "different_places" "different_places" sDiffPlaces f fd) (D : Blp mg) (mL : mg "list" = none) (GS : FnOk P w K mg base CX0 1 fS fdS ["self"] (spStr C)) (bS : Binds K fdS ["self"] []) (iS : PySem.W.findIn K (.ref C) "__str__" = some (some (.ref fS))) (jS : PySem.W.isFn K (.ref fS) = true) :
    FnOk P w K mg base CX0 4 f fd ["places"] (spDiff C) := by
  refine F.ok scDiff (fun vs H Q E h => ?_) (fun cdv A outer s H vs Q E hr3 h => ?_)
  · obtain ⟨pl, qs, ps, rfl, _⟩ := h
    rfl
  · obtain ⟨pl, qs, ps, rfl, hpl, hq, hg, hn, q⟩ := h
    have nd := scDiff.nd
    refine ⟨_, (pss_cons (ps_set (i := 1) nd rfl (Or.inl rfl) pe_dnewK)
      (pss_cons (ps_for PassesOwn.never rfl (pi_list (pv 0)) (pg_name (i := 2) nd rfl (Or.inl rfl)) (pss_one (ps_expr (pe_dsetd (pv 1) (pe_callTy (call_strO GS hr3 bS iS jS) (by rfl) D.str (by decide +kernel) (pa_cons (pv 2) pa_nil)) (pv 2) ⟨rfl, rfl, rfl, rfl⟩))))
      (pss_one (ps_ret (pe_listVals rfl (pv 1) rfl mL (by decide +kernel)))))), ?_⟩
    have sb : 1000 ≤ sizeLine := by decide
    have lq := hq.length
    intro dD nD
    have t1 : upd H dD (.dK []) dD = some (.dK []) := upd_same
    have s1 : Same H (upd H dD (.dK [])) := same_nw nD
    generalize upd H dD (.dK []) = H1 at t1 s1
    have plD : pl ≠ dD := ne_of_none hpl nD
    dsimp only [gName, tSeq, List.set]
    refine ⟨_, rfl, pl, rfl, ⟨_, SqL.of (s1 _ _ hpl)⟩, for_list (K := K) (a := pl) (xs := qs.map V.ref) (fun i σ H' => ∃ (v2 : Option V) (kvs : List (Key × V)) (rs : List Addr), σ = [some (.ref pl), some (.ref dD), v2] ∧ H' dD = some (.dK kvs) ∧ (∀ p o, p ≠ dD → H1 p = some o → H' p = some o) ∧
        kvs.map (·.1) = (firsts (ps.take i)).map (fun p => .inr (strP p.1 p.2)) ∧ kvs.map (·.2) = rs.map V.ref ∧ Lk (PlR C H1) rs (firsts (ps.take i)))
      ⟨none, [], [], rfl, t1, fun p o _ e => e, by rw [List.take_zero]; rfl, rfl, by rw [List.take_zero]; exact .nil⟩ (fun i σ' H' _ h => by obtain ⟨_, _, _, _, _, k, _⟩ := h; exact SqL.of (k _ _ plD (s1 _ _ hpl))) ?_ ?_⟩
    · rintro i x σ' G hx ⟨v2, kvs, rs, rfl, hD, keep, e1, e2, lk⟩
      rw [List.getElem?_map] at hx
      obtain ⟨r, hr0, rfl⟩ := Option.map_eq_some_iff.mp hx
      obtain ⟨p, hp, pr⟩ := hq.get hr0
      obtain ⟨dx, pr⟩ := id pr
      have li : i < ps.length := (List.getElem?_eq_some_iff.mp hp).1
      have gp := hg p (List.mem_of_getElem? hp)
      have rD : r ≠ dD := ne_of_none pr nD
      have pr1 := s1 _ _ pr
      have prG := keep _ _ rD pr1
      have lkv : kvs.length = (firsts (ps.take i)).length := by
        have := congrArg List.length e1
        rw [List.length_map, List.length_map] at this
        exact this
      have lf := firsts_len ps i
      generalize hDE : ({ nx := _, rt := _, bk := _, ct := _ } : Ends) = DE
      have enx : ∀ σ' H', (∃ (v2 : Option V) (kvs : List (Key × V)) (rs : List Addr), σ' = [some (.ref pl), some (.ref dD), v2] ∧ H' dD = some (.dK kvs) ∧ (∀ p o, p ≠ dD → H1 p = some o → H' p = some o) ∧
        kvs.map (·.1) = (firsts (ps.take (i + 1))).map (fun p => .inr (strP p.1 p.2)) ∧ kvs.map (·.2) = rs.map V.ref ∧ Lk (PlR C H1) rs (firsts (ps.take (i + 1)))) → DE.nx σ' H' := fun σ' H' h => by
        rw [← hDE]
        exact h
      clear hDE
      rw [firsts_take hp] at enx
      have key : ∀ q ∈ firsts (ps.take i), strP q.1 q.2 = strP p.1 p.2 → q = p := fun q hq2 e => strP_inj (hg q (List.mem_of_mem_take (firsts_sub hq2))) gp e
      refine ⟨_, rfl, dD, rfl, .inl ⟨kvs, .inl hD⟩, _, rfl, r, dx, _, rfl, prG, r, p.1, p.2, rfl, ⟨dx, prG⟩, gp, _, rfl, _, rfl, kvs, .inr (strP p.1 p.2), hD, rfl, by omega, fun v hv => ?_, fun hv => ?_⟩
      · have hm := valV_in hv
        rw [e1] at hm
        obtain ⟨q, hq2, eq⟩ := List.mem_map.mp hm
        have eq := key q hq2 (Sum.inr.inj eq)
        rw [eq] at hq2
        refine enx _ _ ⟨_, kvs, rs, rfl, hD, keep, ?_, e2, ?_⟩
        · unfold addNew
          rw [if_pos hq2]
          exact e1
        · unfold addNew
          rw [if_pos hq2]
          exact lk
      · have hm := valV_not hv
        have hno : p ∉ firsts (ps.take i) := fun hh => hm (by rw [e1]; exact List.mem_map.mpr ⟨p, hh, rfl⟩)
        refine enx _ _ ⟨_, _, rs ++ [r], rfl, upd_same, fun p o n e => by rw [upd_ne n]; exact keep p o n e, ?_, ?_, ?_⟩
        · rw [putK_new _ hv, List.map_append, e1]
          unfold addNew
          rw [if_neg hno, List.map_append]
          rfl
        · rw [putK_new _ hv, List.map_append, e2, List.map_append]
          rfl
        · unfold addNew
          rw [if_neg hno]
          exact lk.append (Lk.one ⟨dx, pr1⟩)
    · rintro σ' G ⟨v2, kvs, rs, rfl, hD, keep, e1, e2, lk⟩
      rw [List.length_map, lq, List.take_length] at lk
      refine ⟨_, rfl, dD, kvs, rfl, hD, fun r nr => ?_⟩
      rw [e2]
      have sG : Same H G := fun p o e => keep p o (ne_of_none e nD) (s1 _ _ e)
      refine q r rs _ (sG.trans (same_nw nr)) (sG.free nr) upd_same (lk.imp fun a p x => ?_)
      obtain ⟨dx, x⟩ := x
      have aD : a ≠ dD := fun e => by
        rw [e, t1] at x
        cases x
      exact ⟨dx, same_nw nr _ _ (keep _ _ aD x)⟩

end
end Mz
set_option Elab.async false
set_option linter.all false
set_option maxRecDepth 100000
set_option maxHeartbeats 4000000
namespace Mz
open PySem PySem.Spec PyProof.Rows L2
/-! _keeps_locks -/
def spLocks (K : PySem.W.Frag) (C : Addr) : Sp := fun vs H Q _ => ∃ (a : Addr) (as : List Addr) (ss : List StpD), vs = [.ref a] ∧ SqA H a (as.map V.ref) ∧ Lk (StG K C H) as ss ∧ ss.length ≤ 100 ∧ ∀ H', Same H H' → Q (.bl (locksFrom [] ss)) H'
section
variable {P : Program} {w : World} {K : PySem.W.Frag} {mg : Str → Option Value} {base : Heap}
theorem scLocks : FnScope ["hand", "held", "step"] ["hand"] (defScope sKeepsLocks) := ⟨rfl, rfl, rfl, by decide +kernel, rfl, by decide +kernel, by decide +kernel⟩
theorem ok_locks {f C : Addr} {fd : FuncData} (F : Fun K "_keeps_locks" "_keeps_locks" sKeepsLocks f fd) : FnOk P w K mg base CX0 1 f fd ["hand"] (spLocks K C) := by
  refine F.ok scLocks (fun vs H Q E h => ?_) (fun cdv A outer s H vs Q E hr h => ?_)
  · obtain ⟨a, as, ss, rfl, _⟩ := h
    rfl
  · obtain ⟨a, as, ss, rfl, hL, hk, hn, q⟩ := h
    have nd := scLocks.nd
    refine ⟨_, (pss_cons (ps_set (i := 1) nd rfl (Or.inl rfl) (pe_lst pa_nil))
      (pss_cons (ps_for PassesOwn.never rfl (pi_seq K (pv 0)) (pg_name (i := 2) nd rfl (Or.inl rfl)) (pss_one (ps_if (pt_cmpR op_in_seq (pe_ix ix_tup (pv 2) pe_int (fun _ _ => rfl)) (pe_tup (pa_cons pe_str (pa_cons pe_str pa_nil))) (by rfl)) (pss_cons (ps_if (pt_cmpR op_eq (pe_cmpR op_in_seq (pe_ix ix_tup (pv 2) pe_int (fun _ _ => rfl)) (pv 1) (by rfl)) (pe_cmpR op_eq (pe_ix ix_tup (pv 2) pe_int (fun _ _ => rfl)) pe_str (nomark _)) (nomark _)) (pss_one (ps_ret pe_bl)) pss_nil)
      (pss_one (ps_if (pt_cmpR op_eq (pe_ix ix_tup (pv 2) pe_int (fun _ _ => rfl)) pe_str (nomark _)) (pss_one (ps_expr (pe_bm PySem.F.plainAttrs_list PySem.F.slot_list_append PySem.F.type_list_append mt_append (pv 1) (pa_cons (pe_ix ix_tup (pv 2) pe_int (fun _ _ => rfl)) pa_nil)))) (pss_one (ps_expr (pe_bm PySem.F.plainAttrs_list PySem.F.slot_list_remove PySem.F.type_list_remove mt_removeS (pv 1) (pa_cons (pe_ix ix_tup (pv 2) pe_int (fun _ _ => rfl)) pa_nil))))))) pss_nil)))
      (pss_one (ps_ret pe_bl)))), ?_⟩
    have sb : 1000 ≤ sizeLine := by decide
    refine ⟨(by show 0 ≤ sizeLine; omega), fun hl nhl => ?_⟩
    have t1 : upd H hl (.lst []) hl = some (.lst []) := upd_same
    have s1 : Same H (upd H hl (.lst [])) := same_nw nhl
    generalize upd H hl (.lst []) = H1 at t1 s1
    have lk := hk.length
    have ahl : a ≠ hl := by
      obtain ⟨o, e⟩ := hL.some
      exact ne_of_none e nhl
    dsimp only [gName, tSeq, List.set]
    refine for_seqA (K := K) (a := a) (xs := as.map V.ref) rfl (hL.same s1) (fun i σ H' => ∃ (v2 : Option V) (held : List Str), σ = [some (.ref a), some (.ref hl), v2] ∧ H' hl = some (.lst (held.map V.str)) ∧ held.length ≤ i ∧ (∀ p o, p ≠ hl → H1 p = some o → H' p = some o) ∧ locksFrom [] ss = locksFrom held (ss.drop i))
      ⟨none, [], rfl, t1, Nat.le_refl _, fun p o _ e => e, rfl⟩ (fun i σ' H' h o e => by obtain ⟨_, _, _, _, _, k, _⟩ := h; exact k _ _ ahl e) ?_ ?_
    · rintro i x σ' G hx ⟨v2, held, rfl, hh, lh, keep, eq⟩
      rw [List.getElem?_map] at hx
      obtain ⟨r, hr0, rfl⟩ := Option.map_eq_some_iff.mp hx
      obtain ⟨st, hst, g⟩ := hk.get hr0
      have li : i < ss.length := (List.getElem?_eq_some_iff.mp hst).1
      have kH : Same H G := fun p o e => keep p o (ne_of_none e nhl) (s1 _ _ e)
      have dr : ss.drop i = st :: ss.drop (i + 1) := by
        rw [List.drop_eq_getElem_cons li]
        congr 1
        have := List.getElem?_eq_getElem li
        rw [hst] at this
        exact (Option.some.inj this).symm
      rw [dr] at eq
      generalize hDE : ({ nx := _, rt := _, bk := _, ct := _ } : Ends) = DE
      have enx : ∀ σ' H', (∃ (v2 : Option V) (held : List Str), σ' = [some (.ref a), some (.ref hl), v2] ∧ H' hl = some (.lst (held.map V.str)) ∧ held.length ≤ i + 1 ∧ (∀ p o, p ≠ hl → H1 p = some o → H' p = some o) ∧ locksFrom [] ss = locksFrom held (ss.drop (i + 1))) → DE.nx σ' H' := fun σ' H' h => by
        rw [← hDE]
        exact h
      have ert : ∀ v H', Q v H' → DE.rt v H' := fun v H' h => by
        rw [← hDE]
        exact h
      clear hDE
      obtain ⟨vs, g1, g2, g3⟩ := g
      have g1 := kH _ _ g1
      have ne1 : r ≠ hl := fun e => by
        rw [e, hh] at g1
        cases g1
      have i0 : atI (.str st.1 :: vs) (0 : Int) = some (.str st.1) := atI_nat (xs := .str st.1 :: vs) (j := 0) rfl
      refine ⟨_, rfl, r, _, _, _, rfl, rfl, SqT.of g1, i0, (by show 2 ≤ sizeLine; omega), fun p2 np2 => ?_⟩
      have s2 : Same G (upd G p2 (.tup [.str "lock", .str "unlock"])) := same_nw np2
      have t2 : upd G p2 (.tup [.str "lock", .str "unlock"]) p2 = some (.tup ((["lock", "unlock"] : List Str).map V.str)) := upd_same
      generalize upd G p2 (.tup [.str "lock", .str "unlock"]) = G2 at s2 t2
      refine ⟨p2, _, rfl, .inr (SqT.of t2), rfl, flat_strs, _, rfl, ?_⟩
      show if inV (.str st.1) ((["lock", "unlock"] : List Str).map V.str) = true then _ else _
      rw [inV_strs]
      have g1' := s2 _ _ g1
      have hh2 := s2 _ _ hh
      have keep2 : ∀ p o, p ≠ hl → H1 p = some o → G2 p = some o := fun p o n e => s2 _ _ (keep p o n e)
      refine ite2 (fun hw => ?_) (fun hw => ?_)
      · have hw : st.1 = "lock" ∨ st.1 = "unlock" := by
          have := of_decide_eq_true hw
          simpa using this
        obtain ⟨n, en, hn2⟩ := lock_form g3 hw
        have lo : lockOne held st = if st.1 = "lock" then (if n ∈ held then none else some (held ++ [n])) else if st.1 = "unlock" then (if n ∈ held then some (held.erase n) else none) else some held := by
          unfold lockOne
          rw [en]
        have eq : locksFrom [] ss = match lockOne held st with
          | none => false
          | some h => locksFrom h (ss.drop (i + 1)) := eq
        rw [lo] at eq
        rw [en] at g2
        cases g2 with
        | cons h1 h2 =>
        cases h2
        obtain ⟨rfl, sm⟩ := h1
        have i1 : atI [.str st.1, .str n] (1 : Int) = some (V.str n) := rfl
        refine ⟨_, rfl, r, _, _, _, rfl, rfl, SqT.of g1', i1, _, rfl, hl, _, rfl, .inl (SqL.of hh2), rfl, flat_strs, _, rfl, r, _, _, _, rfl, rfl, SqT.of g1', i0, rfl, rfl, _, rfl, ?_⟩
        show if decide (V.bl (inV (.str n) (held.map V.str)) = V.bl (decide (V.str st.1 = V.str "lock"))) = true then _ else _
        rw [inV_strs]
        have bad : locksFrom [] ss = false → DE.rt (V.bl false) G2 := fun e => by
          rw [e] at q
          exact ert _ _ (q G2 (kH.trans s2))
        by_cases h1 : st.1 = "lock"
        · rw [if_pos h1] at eq
          have d1 : decide (V.str st.1 = V.str "lock") = true := decide_eq_true (by rw [h1])
          rw [d1]
          by_cases h2 : n ∈ held
          · rw [if_pos h2] at eq
            rw [decide_eq_true h2]
            exact iteT (bad eq)
          · rw [if_neg h2] at eq
            rw [decide_eq_false h2]
            refine iteF ?_
            refine ⟨_, rfl, r, _, _, _, rfl, rfl, SqT.of g1', i0, rfl, _, rfl, ?_⟩
            rw [d1]
            refine iteT ⟨_, rfl, .inl ⟨rfl, _, SqL.of hh2⟩, _, rfl, r, _, _, _, rfl, rfl, SqT.of g1', i1, hl, _, _, rfl, rfl, hh2, (by rw [List.length_map]; omega), ?_⟩
            exact enx _ _ ⟨_, held ++ [n], rfl, by rw [upd_same, List.map_append]; rfl, by rw [List.length_append]; show held.length + 1 ≤ _; omega, fun p o ne e => by rw [upd_ne ne]; exact keep2 p o ne e, eq⟩
        · have h3 : st.1 = "unlock" := hw.resolve_left h1
          rw [if_neg h1, if_pos h3] at eq
          have d1 : decide (V.str st.1 = V.str "lock") = false := decide_eq_false fun e => h1 (V.str.inj e)
          rw [d1]
          by_cases h2 : n ∈ held
          · rw [if_pos h2] at eq
            rw [decide_eq_true h2]
            refine iteF ?_
            refine ⟨_, rfl, r, _, _, _, rfl, rfl, SqT.of g1', i0, rfl, _, rfl, ?_⟩
            rw [d1]
            obtain ⟨jx, j1, j2, j3⟩ := erase_at h2
            refine iteF ⟨_, rfl, .inl ⟨rfl, _, SqL.of hh2⟩, _, rfl, r, _, _, _, rfl, rfl, SqT.of g1', i1, hl, held, n, jx, rfl, rfl, hh2, j1, j2, ?_⟩
            exact enx _ _ ⟨_, held.erase n, rfl, by rw [upd_same, j3], Nat.le_trans List.length_erase_le (by omega), fun p o ne e => by rw [upd_ne ne]; exact keep2 p o ne e, eq⟩
          · rw [if_neg h2] at eq
            rw [decide_eq_false h2]
            exact iteT (bad eq)
      · have hw : ¬ (st.1 = "lock" ∨ st.1 = "unlock") := fun h => hw (decide_eq_true (by simpa using h))
        refine enx _ _ ⟨_, held, rfl, hh2, by omega, keep2, ?_⟩
        rw [eq]
        show (match lockOne held st with | none => false | some h => locksFrom h (ss.drop (i + 1))) = _
        rw [lock_other (fun e => hw (.inl e)) (fun e => hw (.inr e))]
    · rintro σ' G ⟨v2, held, rfl, hh, lh, keep, eq⟩
      rw [List.length_map, lk, List.drop_length] at eq
      have eq : locksFrom [] ss = true := by
        rw [eq]
        unfold locksFrom
        rfl
      rw [eq] at q
      exact q G fun p o e => keep p o (ne_of_none e nhl) (s1 _ _ e)

end
end Mz
set_option Elab.async false
set_option linter.all false
set_option maxRecDepth 100000
set_option maxHeartbeats 4000000
namespace Mz
open PySem PySem.Spec PyProof.Rows L2
/-! _check_hand, of anything -/
/-- whether a value is a list or a tuple -/
def Lst (K : PySem.W.Frag) (H : Hp) (v : V) (b : Bool) : Prop := (b = true ∧ ∃ a xs, v = .ref a ∧ SqA H a xs) ∨ (b = false ∧ ∃ ty, TyX K H v ty ∧ PySem.W.kitOne K ty (.type "list") = some false ∧ PySem.W.kitOne K ty (.type "tuple") = some false)
def spIsList (K : PySem.W.Frag) : Sp := fun vs H Q _ => ∃ (v : V) (b : Bool), vs = [v] ∧ Lst K H v b ∧ ∀ H', Same H H' → Q (.bl b) H'
theorem Lst.same {K : PySem.W.Frag} {H H' : Hp} {v : V} {b : Bool} (s : Same H H') (h : Lst K H v b) : Lst K H' v b := by
  rcases h with ⟨e, a, xs, e2, h⟩ | ⟨e, ty, h, h2⟩
  · exact .inl ⟨e, a, xs, e2, h.same s⟩
  · exact .inr ⟨e, ty, ty_at (fun _ _ o e => s _ o e) h, h2⟩
/-- a hand that is none: what is raised, with which value -/
def BadHd (K : PySem.W.Frag) (C cH cS : Addr) (H : Hp) (v : V) (c : Addr) (u : V) : Prop :=
  (c = cH ∧ u = v ∧ (Lst K H v false ∨ ∃ a xs, v = .ref a ∧ SqA H a xs ∧ (12 < xs.length ∨ ∃ (as : List Addr) (ss : List StpD), xs = as.map V.ref ∧ Lk (StG K C H) as ss ∧ ss.length ≤ 12 ∧ locksFrom [] ss = false))) ∨
  (c = cS ∧ ∃ (a : Addr) (xs : List V) (i : Nat), v = .ref a ∧ SqA H a xs ∧ xs.length ≤ 12 ∧ xs[i]? = some u ∧ Stp K C H u false ∧ ∀ j, j < i → ∃ b d, xs[j]? = some (.ref b) ∧ StG K C H b d)
/-- what is raised -/
def Rs (H : Hp) (E : XK) (c : Addr) (u : V) : Prop := ∀ d H', H d = none → Same H H' → H' d = some (.xd [("value", u)]) → E (.ref c) (some d) H'
theorem Rs.same {H H' : Hp} {E : XK} {c : Addr} {u : V} (s : Same H H') (h : Rs H E c u) : Rs H' E c u := fun d G n k e => h d G (s.free n) (s.trans k) e
theorem Rs.mk {X : Cx} {H : Hp} {E : XK} {c : Addr} {u : V} (h : Rs H E c u) : ∀ d H', H d = none → Same H H' → H' d = some (.xd [("value", u)]) → E (.ref c) (some d) H' := h
theorem raiseRs {K : PySem.W.Frag} {H H1 : Hp} {E : XK} {c : Addr} {u : V} {i : Nat} {σ : L2.St} (hi : σ[i]? = some (some u)) (s : Same H H1) (rs : Rs H E c u) : tMkO c (spX1 K c "value") [] (tCons (tVar i) tNil) σ H1 E := mko_x1 hi fun d G nd s2 hd => rs d G (s.free nd) (s.trans s2) hd
theorem Fts.same {K : PySem.W.Frag} {C : Addr} {H H' : Hp} {r : List V} {fs : List Str} {ts : List Bool} (s : Same H H') (h : Fts K C H r fs ts) : Fts K C H' r fs ts := by
  induction h with
  | nil => exact .nil
  | cons h _ ih => exact .cons (h.same s) ih
theorem Stp.same {K : PySem.W.Frag} {C : Addr} {H H' : Hp} {v : V} {t : Bool} (s : Same H H') (h : Stp K C H v t) : Stp K C H' v t := by
  rcases h with ⟨ty, h, k, e⟩ | ⟨a, l, e, ha, h⟩
  · exact .inl ⟨ty, ty_at (fun _ _ o e => s _ o e) h, k, e⟩
  · refine .inr ⟨a, l, e, s _ _ ha, ?_⟩
    rcases h with h | ⟨x, r, el, h⟩
    · exact .inl h
    · refine .inr ⟨x, r, el, ?_⟩
      rcases h with ⟨ty, h, k⟩ | ⟨z, ez, h⟩
      · exact .inl ⟨ty, ty_at (fun _ _ o e => s _ o e) h, k⟩
      · refine .inr ⟨z, ez, ?_⟩
        rcases h with h | ⟨fs, ef, h⟩
        · exact .inl h
        · refine .inr ⟨fs, ef, ?_⟩
          rcases h with h | ⟨ts, h, e2⟩
          · exact .inl h
          · exact .inr ⟨ts, h.same s, e2⟩
theorem BadHd.same {K : PySem.W.Frag} {C cH cS c : Addr} {H H' : Hp} {v u : V} (s : Same H H') (h : BadHd K C cH cS H v c u) : BadHd K C cH cS H' v c u := by
  rcases h with ⟨e, e2, h | ⟨a, xs, ea, h, h2⟩⟩ | ⟨e, a, xs, i, ea, h, n, hu, hs, hg⟩
  · exact .inl ⟨e, e2, .inl (h.same s)⟩
  · refine .inl ⟨e, e2, .inr ⟨a, xs, ea, h.same s, h2.imp_right fun ⟨as, ss, e3, hk, x⟩ => ⟨as, ss, e3, hk.imp fun _ _ y => y.same s, x⟩⟩⟩
  · exact .inr ⟨e, a, xs, i, ea, h.same s, n, hu, hs.same s, fun j hj => by
      obtain ⟨b, d, hb, g⟩ := hg j hj
      exact ⟨b, d, hb, g.same s⟩⟩
theorem NoPl.same {K : PySem.W.Frag} {C : Addr} {H H' : Hp} {v : V} (s : Same H H') (h : NoPl K C H v) : NoPl K C H' v := by
  obtain ⟨k, t, ty, n⟩ := h
  exact ⟨k.at fun _ _ o e => s _ o e, t, ty_at (fun _ _ o e => s _ o e) ty, n⟩
def spChk (K : PySem.W.Frag) (C cH cS : Addr) : Sp := fun vs H Q E => ∃ v, vs = [v] ∧ ((∃ a ss, v = .ref a ∧ HdG K C H a ss ∧ ss.length ≤ 12 ∧ locksFrom [] ss = true ∧ ∀ H', Same H H' → Q .non H') ∨ ∃ c u, BadHd K C cH cS H v c u ∧ Rs H E c u)
section
variable {P : Program} {w : World} {K : PySem.W.Frag} {mg : Str → Option Value} {base : Heap}
theorem scIsList : FnScope ["value"] ["value"] (defScope sIsList) := ⟨rfl, rfl, rfl, by decide +kernel, rfl, by decide +kernel, by decide +kernel⟩
theorem ok_isList {f : Addr} {fd : FuncData} (F : Fun K "is_list" "is_list" sIsList f fd) (D : Blp mg) (mL : mg "list" = none) (mT : mg "tuple" = none) : FnOk P w K mg base CX0 1 f fd ["value"] (spIsList K) := by
  refine F.ok scIsList (fun vs H Q E h => ?_) (fun cdv A outer s H vs Q E hr h => ?_)
  · obtain ⟨v, b, rfl, _⟩ := h
    rfl
  · obtain ⟨v, b, rfl, hL, q⟩ := h
    refine ⟨_, (pss_one (ps_ret (pe_callB call_isiT (by rfl) D.isi (by decide +kernel) (pa_cons (pv 0) (pa_cons (pe_tup (pa_cons (pe_bltn (v := .ty "list") (by rfl) mL (by decide +kernel) rfl) (pa_cons (pe_bltn (v := .ty "tuple") (by rfl) mT (by decide +kernel) rfl) pa_nil))) pa_nil))))), ?_⟩
    refine ⟨_, rfl, (by show 2 ≤ sizeLine; decide), fun p np => ?_⟩
    have s1 : Same H (upd H p (.tup [.ty "list", .ty "tuple"])) := same_nw np
    rcases hL with ⟨rfl, a, xs, rfl, hL | hL⟩ | ⟨rfl, ty, ht, h1, h2⟩
    · exact ⟨.ref a, p, [.ty "list", .ty "tuple"], .type "list", [.type "list", .type "tuple"], true, rfl, upd_same, .cons (.ty _) (.cons (.ty _) .nil), .base (.lst (s1 _ _ hL)), kitAny_cons (b := true) (kit_ty (by decide +kernel)) (fun e => nomatch e) (fun _ => rfl), q _ s1⟩
    · exact ⟨.ref a, p, [.ty "list", .ty "tuple"], .type "tuple", [.type "list", .type "tuple"], true, rfl, upd_same, .cons (.ty _) (.cons (.ty _) .nil), .base (.tup (s1 _ _ hL)), kitAny_cons (b := false) (kit_ty (by decide +kernel)) (fun _ => kitAny_cons (b := true) (kit_ty (by decide +kernel)) (fun e => nomatch e) (fun _ => rfl)) (fun e => nomatch e), q _ s1⟩
    · exact ⟨v, p, [.ty "list", .ty "tuple"], ty, [.type "list", .type "tuple"], false, rfl, upd_same, .cons (.ty _) (.cons (.ty _) .nil), ty_at (fun _ _ o e => s1 _ o e) ht, kitAny_cons (b := false) h1 (fun _ => kitAny_cons (b := false) h2 (fun _ => rfl) (fun e => nomatch e)) (fun e => nomatch e), q _ s1⟩
theorem scChk : FnScope ["hand", "step"] ["hand"] (defScope sCheckHand) := ⟨rfl, rfl, rfl, by decide +kernel, rfl, by decide +kernel, by decide +kernel⟩
theorem ok_chk {f fL fI fK fXH fXS C cH cS : Addr} {fd fdL fdI fdK dXH dXS : FuncData} {t12 : Tok} (F : Fun K "_check_hand" "_check_hand" sCheckHand f fd) (B : Blt mg) (Y : Pty K C) (N : Npi K C) (mM : mg "_MOST_STEPS" = some (.int 12 t12))
    (GL : D1 P w K mg base "is_list" 1 ["value"] (spIsList K) fL fdL) (GI : D1 P w K mg base "is_step" 8 ["value"] (spIsStep K C) fI fdI) (GK : D1 P w K mg base "_keeps_locks" 1 ["hand"] (spLocks K C) fK fdK) (XH : Xr P w K mg base "InvalidHand" cH fXH dXH) (XS : Xr P w K mg base "InvalidStep" cS fXS dXS) :
    FnOk P w K mg base (L2.CX P w) 9 f fd ["hand"] (spChk K C cH cS) := by
  refine F.okX scChk (fun vs H Q E h => ?_) (fun cdv A outer s H vs Q E hr8 h => ?_)
  · obtain ⟨v, rfl, _⟩ := h
    rfl
  · obtain ⟨v, rfl, h⟩ := h
    have nd := scChk.nd
    have hr := hr8
    have hr1 : Room 1 _ := hr.mono (by decide)
    have hr2 : Room 2 _ := hr.mono (by decide)
    refine ⟨_, (pss_cons (ps_if (PW.pt (pw_or (pt_not (pt_val (pe_call GL.ok hr1 (by rfl) GL.m GL.k GL.b .nil pass0 (pa_cons (pv 0) pa_nil)))) (pw_or1 (pt_cmpR op_gt (pe_callB call_len_seq (by rfl) B.len PySem.boot_len (pa_cons (pv 0) pa_nil)) (pe_glob (v := .int 12) rfl mM ⟨_, rfl⟩) (nomark _))))) (pss_one (ps_raise rfl (takes_of rfl rfl rfl rfl) (pmk_oex XH.T.ox XH.i XH.t XH.G hr2 XH.b .nil pass0 (by rfl) XH.T.m (pa_cons (pv 0) pa_nil)))) pss_nil)
      (pss_cons (ps_for (passes_of rfl) rfl (pi_seq K (pv 0)) (pg_name (i := 1) nd rfl (Or.inl rfl)) (pss_one (ps_if (pt_not (pt_val (pe_call GI.ok hr8 (by rfl) GI.m GI.k GI.b .nil pass0 (pa_cons (pv 1) pa_nil)))) (pss_one (ps_raise rfl (takes_of rfl rfl rfl rfl) (pmk_oex XS.T.ox XS.i XS.t XS.G hr2 XS.b .nil pass0 (by rfl) XS.T.m (pa_cons (pv 1) pa_nil)))) pss_nil)))
      (pss_one (ps_if (pt_not (pt_val (pe_call GK.ok hr1 (by rfl) GK.m GK.k GK.b .nil pass0 (pa_cons (pv 0) pa_nil)))) (pss_one (ps_raise rfl (takes_of rfl rfl rfl rfl) (pmk_oex XH.T.ox XH.i XH.t XH.G hr2 XH.b .nil pass0 (by rfl) XH.T.m (pa_cons (pv 0) pa_nil)))) pss_nil)))), ?_⟩
    -- no list
    have start : (Lst K H v false ∧ Rs H E cH v) ∨ ∃ (a : Addr) (xs : List V), v = .ref a ∧ SqA H a xs ∧ ((12 < xs.length ∧ Rs H E cH v) ∨ (xs.length ≤ 12 ∧ ∃ ib : Nat, (∀ j, j < ib → ∃ b d, xs[j]? = some (.ref b) ∧ StG K C H b d) ∧ (∀ u, xs[ib]? = some u → Stp K C H u false ∧ Rs H E cS u) ∧
        (xs[ib]? = none → ∃ (as : List Addr) (ss : List StpD), xs = as.map V.ref ∧ Lk (StG K C H) as ss ∧ ss.length ≤ 12 ∧ ((locksFrom [] ss = true ∧ ∀ H', Same H H' → Q .non H') ∨ (locksFrom [] ss = false ∧ Rs H E cH v))))) := by
      rcases h with ⟨a, ss, rfl, ⟨as, hL, hk⟩, hn, hlock, q⟩ | ⟨c, u, ⟨rfl, rfl, hb⟩ | ⟨rfl, a, xs, i, rfl, hL, hn, hu, hs, hg⟩, rs⟩
      · have lk := hk.length
        refine .inr ⟨a, _, rfl, hL, .inr ⟨by rw [List.length_map]; omega, as.length, fun j hj => ?_, fun u hu => ?_, fun _ => ⟨as, ss, rfl, hk, hn, .inl ⟨hlock, q⟩⟩⟩⟩
        · have hj' : as[j]? = some as[j] := List.getElem?_eq_getElem hj
          obtain ⟨d, _, g⟩ := hk.get hj'
          exact ⟨as[j], d, by rw [List.getElem?_map, hj']; rfl, g⟩
        · rw [List.getElem?_eq_none (by rw [List.length_map]; exact Nat.le_refl _)] at hu
          cases hu
      · rcases hb with hb | ⟨a, xs, rfl, hL, hb⟩
        · exact .inl ⟨hb, rs⟩
        · rcases hb with hb | ⟨as, ss, rfl, hk, hn, hlock⟩
          · exact .inr ⟨a, xs, rfl, hL, .inl ⟨hb, rs⟩⟩
          · have lk := hk.length
            refine .inr ⟨a, _, rfl, hL, .inr ⟨by rw [List.length_map]; omega, as.length, fun j hj => ?_, fun u hu => ?_, fun _ => ⟨as, ss, rfl, hk, hn, .inr ⟨hlock, rs⟩⟩⟩⟩
            · have hj' : as[j]? = some as[j] := List.getElem?_eq_getElem hj
              obtain ⟨d, _, g⟩ := hk.get hj'
              exact ⟨as[j], d, by rw [List.getElem?_map, hj']; rfl, g⟩
            · rw [List.getElem?_eq_none (by rw [List.length_map]; exact Nat.le_refl _)] at hu
              cases hu
      · refine .inr ⟨a, xs, rfl, hL, .inr ⟨hn, i, hg, fun u' hu' => ?_, fun e => ?_⟩⟩
        · rw [hu] at hu'
          cases hu'
          exact ⟨hs, rs⟩
        · rw [hu] at e
          cases e
    clear h
    rcases start with ⟨hb, rs⟩ | ⟨a, xs, rfl, hL, h⟩
    · exact ⟨_, rfl, v, false, rfl, hb, fun H1 s1 => ⟨false, rfl, iteT (iteT (raiseRs rfl s1 rs))⟩⟩
    refine ⟨_, rfl, .ref a, true, rfl, .inl ⟨rfl, a, xs, rfl, hL⟩, fun H1 s1 => ⟨true, rfl, iteF ?_⟩⟩
    have hL1 := hL.same s1
    refine ⟨_, rfl, a, _, rfl, hL1.imp SqL.of SqT.of, _, _, rfl, rfl, _, rfl, ?_⟩
    rcases h with ⟨hn, rs⟩ | ⟨hn, ib, hg, hbad, hall⟩
    · rw [decide_eq_true (show (xs.length : Int) > 12 by omega)]
      exact iteT (raiseRs rfl s1 rs)
    rw [decide_eq_false (show ¬ (xs.length : Int) > 12 by omega)]
    refine iteF ?_
    dsimp only [gName, tSeq, List.set]
    refine for_seqA (K := K) (a := a) (xs := xs) rfl hL1 (fun i σ H' => ∃ v1 : Option V, σ = [some (.ref a), v1] ∧ Same H1 H' ∧ i ≤ ib) ⟨none, rfl, Same.refl H1, Nat.zero_le _⟩ (fun i σ' H' h o e => by obtain ⟨_, _, k, _⟩ := h; exact k _ _ e) ?_ ?_
    · rintro i x σ' G hx ⟨v1, rfl, s2, hi⟩
      generalize hDE : ({ nx := _, rt := _, bk := _, ct := _ } : Ends) = DE
      have enx : ∀ σ' H', (∃ v1 : Option V, σ' = [some (.ref a), v1] ∧ Same H1 H' ∧ i + 1 ≤ ib) → DE.nx σ' H' := fun σ' H' h => by
        rw [← hDE]
        exact h
      clear hDE
      rcases Nat.lt_or_ge i ib with lt | ge
      · obtain ⟨b, d, hb, g⟩ := hg i lt
        rw [hx] at hb
        cases hb
        refine ⟨_, rfl, .ref b, true, rfl, stp_of Y N (g.same (s1.trans s2)), fun H2 s3 => ⟨true, rfl, iteF ?_⟩⟩
        exact enx _ _ ⟨_, rfl, s2.trans s3, lt⟩
      · have ei : i = ib := by omega
        subst ei
        obtain ⟨hs, rs⟩ := hbad x hx
        exact ⟨_, rfl, x, false, rfl, hs.same (s1.trans s2), fun H2 s3 => ⟨false, rfl, iteT (raiseRs rfl ((s1.trans s2).trans s3) rs)⟩⟩
    · rintro σ' G ⟨v1, rfl, s2, hi⟩
      have s12 := s1.trans s2
      obtain ⟨as, ss, rfl, hk, hn2, hr3⟩ := hall (List.getElem?_eq_none hi)
      refine ⟨_, rfl, a, as, ss, rfl, hL.same s12, hk.imp fun _ _ x => x.same s12, by omega, fun H2 s3 => ?_⟩
      rcases hr3 with ⟨hlock, q⟩ | ⟨hlock, rs⟩
      · rw [hlock]
        exact ⟨true, rfl, iteF (q H2 (s12.trans s3))⟩
      · rw [hlock]
        exact ⟨false, rfl, iteT (raiseRs rfl (s12.trans s3) rs)⟩

end
end Mz
set_option Elab.async false
set_option linter.all false
set_option maxRecDepth 100000
set_option maxHeartbeats 4000000
namespace Mz
open PySem PySem.Spec PyProof.Rows L2
/-! placed_step -/
theorem of_pv6 {K : PySem.W.Frag} {C cX : Addr} {H : Hp} {v : V} {z : Str} {k : Int} {Q : VK} {E : XK} (pv : Pv6 K C H v z k) (q : ∀ (r : Addr) (H' : Hp), Same H H' → Pl C H' r z k → Q (.ref r) H') : spOf K C cX [.ref C, v] H Q E := by
  refine ⟨v, rfl, ?_⟩
  rcases pv with ⟨r, rfl, pr⟩ | ⟨np, ev⟩
  · exact .inl ⟨r, z, k, rfl, pr, q r H (Same.refl _) pr⟩
  · refine .inr ⟨np, fun z2 k2 e p H4 n4 sm pp g => ?_, fun e d H4 n4 sm hd => ?_⟩
    · rw [ev] at e
      cases e
      exact q p H4 sm pp
    · rw [ev] at e
      cases e
theorem ItmP.upd {C D : Addr} {H : Hp} {l l' : List V} {v : V} (hD : H D = some (.lst l)) : ∀ {it : Itm}, ItmP C H v it → ItmP C (L2.upd H D (.lst l')) v it
  | .pl _ _, ⟨⟨a, e, dx, h⟩, g⟩ => ⟨⟨a, e, dx, by rw [upd_ne (fun x => by rw [x, hD] at h; cases h)]; exact h⟩, g⟩
  | .wd _, h => h
def spPst (K : PySem.W.Frag) (C : Addr) : Sp := fun vs H Q _ => ∃ (a : Addr) (d : StpD), vs = [.ref a] ∧ StG K C H a d ∧ ∀ q H', Same H H' → H q = none → StP C H' q d → Q (.ref q) H'
section
variable {P : Program} {w : World} {K : PySem.W.Frag} {mg : Str → Option Value} {base : Heap}
theorem scPst : FnScope ["step", "items", "item", "form"] ["step"] (defScope sPlacedStep) := ⟨rfl, rfl, rfl, by decide +kernel, rfl, by decide +kernel, by decide +kernel⟩
theorem ok_pst {f fO C cX po dF : Addr} {fd fdO : FuncData} (F : Fun K "placed_step" "placed_step" sPlacedStep f fd) (Z : Cpl K mg C) (O : OfM P w K mg base C cX po fO fdO) (mF : mg "_FORMS" = some (.ref dF)) (tF : FTab K w dF) (mZ : mg "zip" = none) :
    FnOk P w K mg base CX0 6 f fd ["step"] (spPst K C) := by
  refine F.ok scPst (fun vs H Q E h => ?_) (fun cdv A outer s H vs Q E hr5 h => ?_)
  · obtain ⟨a, d, rfl, _⟩ := h
    rfl
  · obtain ⟨a, ⟨z, its⟩, rfl, ⟨r, ha, hit, hok⟩, q⟩ := h
    have nd := scPst.nd
    obtain ⟨es, n, DF, lF⟩ := tF
    refine ⟨_, (pss_cons (ps_setLc (i := 1) (own := [("item", 2), ("form", 3)]) (g := gTup K 2 (gCons (gName 2) (gCons (gName 3) (gNil)))) (tt := tYes) rfl nd rfl rfl (sw_true rfl rfl rfl (by decide +kernel)) (RZ.pi_zipA (by rfl) mZ (pa_cons (pe_slice sl_tup (pv 0) (po_some pe_int) po_none) (pa_cons (pe_ix ix_kdict (pe_glob (v := .ref dF) rfl mF rfl) (pe_ix ix_tup (pv 0) pe_int (fun _ _ => rfl)) (fun _ _ => rfl)) pa_nil))) (blkOk_by (N := ["step", "items", "item", "form"]) (sc := defScope sPlacedStep) (by decide +kernel)) (fun _ _ _ _ _ => pg_tup (by rfl) (pgs_cons (pg_name (i := 2) nd rfl (Or.inl rfl)) (pgs_cons (pg_name (i := 3) nd rfl (Or.inl rfl)) (pgs_nil)))) (fun _ _ _ _ _ => pts_nil) (fun _ _ _ _ _ => (pe_ifExp (pt_cmpR op_eq (pv 3) pe_str (nomark _)) (pe_w (pe_cmethS (ES := fun _ => E0) (pe_glob (v := .ref C) rfl Z.mgC rfl) O.rd O.met O.ok hr5 O.b (fun σ => pass_no) (pa_cons (pv 2) pa_nil))) (pv 2))))
      (pss_one (ps_ret (pe_tup (pa_cons (pe_ix ix_tup (pv 0) pe_int (fun _ _ => rfl)) (StX.pa_star (pv 1) pa_nil)))))), ?_⟩
    have sb : 1000 ≤ sizeLine := by decide
    have ha : H a = some (.tup (.str z :: r)) := ha
    have hit : Lk (ItmG K C H) r its := hit
    obtain ⟨gs, fz0, hfit⟩ := id hok
    have fz0 : formS z = some gs := fz0
    have hfit : Lk FitI its gs := hfit
    obtain ⟨v, ev, hv⟩ := lF z
    rcases hv with ⟨fz, _⟩ | ⟨fs, af, fz, rfl, hfs⟩
    · rw [fz] at fz0
      cases fz0
    rw [fz] at fz0
    obtain rfl : fs = gs := Option.some.inj fz0
    have i0 : atI (V.str z :: r) (0 : Int) = some (.str z) := atI_nat (xs := V.str z :: r) (j := 0) rfl
    have lf3 : fs.length ≤ 3 := forms_le fz
    have l1 := hit.length
    have l2 := hfit.length
    refine ⟨_, rfl, _, rfl, a, _, rfl, SqT.of ha, cut1n, fun p2 np2 => ?_⟩
    rw [cut1]
    have s2 : Same H (upd H p2 (.tup r)) := same_nw np2
    have t2 : upd H p2 (.tup r) p2 = some (.tup r) := upd_same
    generalize upd H p2 (.tup r) = H2 at s2 t2
    refine ⟨_, rfl, a, _, _, _, rfl, rfl, SqT.of (s2 _ _ ha), i0, dF, z, .ref af, rfl, rfl, ⟨_, _, _, DF.at_, DF.lit, ev, rfl⟩, p2, af, r, fs.map V.str, rfl, .inr ⟨SqT.of t2, hfs _, fun D nD => ?_⟩⟩
    have p2D : p2 ≠ D := ne_of_none t2 nD
    refine lc_it (walk_zipT (n := r.length) (by rw [List.length_map]; omega)) (fun i H' => (∀ q o, q ≠ D → H2 q = some o → H' q = some o) ∧ ∃ acc : List V, H' D = some (.lst acc) ∧ Lk (ItmP C H') acc (its.take i))
      ⟨fun q o n e => by rw [upd_ne n]; exact e, [], upd_same, by rw [List.take_zero]; exact .nil⟩ (fun i H' _ h => ⟨SqT.of (h.1 _ _ p2D t2), hfs _⟩) ?_ ?_
    · rintro i x H3 H4 hi ⟨keep, acc, hD, hacc⟩ ⟨T, x1, y1, rfl, nT, rfl, e1, e2⟩
      have e1 : r[i]? = some x1 := e1
      have e2 : (fs.map V.str)[i]? = some y1 := e2
      obtain ⟨it, hti, hg⟩ := hit.get e1
      obtain ⟨f1, hf1, hF⟩ := hfit.get hti
      rw [List.getElem?_map, hf1] at e2
      have ey : V.str f1 = y1 := Option.some.inj e2
      subst ey
      have sT : Same H3 (upd H3 T (.tup [x1, .str f1])) := same_nw nT
      have tT : upd H3 T (.tup [x1, .str f1]) T = some (.tup [x1, .str f1]) := upd_same
      generalize upd H3 T (.tup [x1, .str f1]) = H5 at sT tT
      have old : Same H H5 := fun b o e => sT _ _ (keep b o (ne_of_none (s2 _ _ e) nD) (s2 _ _ e))
      have la := hacc.length
      rw [List.length_take] at la
      refine ⟨T, _, rfl, SqT.of tT, rfl, _, _, rfl, _, _, rfl, rfl, ?_⟩
      refine ⟨rfl, yesT ?_⟩
      have fin : ∀ (u : V) (H6 : Hp), Same H5 H6 → ItmP C H6 u it → ∃ acc, H6 D = some (.lst acc) ∧ acc.length < sizeLine ∧ (∀ b o, b ≠ D → H2 b = some o → upd H6 D (.lst (acc ++ [u])) b = some o) ∧ ∃ acc2 : List V, upd H6 D (.lst (acc ++ [u])) D = some (.lst acc2) ∧ Lk (ItmP C (upd H6 D (.lst (acc ++ [u])))) acc2 (its.take (i + 1)) := by
        intro u H6 s6 pu
        have hD6 := s6 _ _ (sT _ _ hD)
        refine ⟨acc, hD6, by omega, fun b o n e => by rw [upd_ne n]; exact s6 _ _ (sT _ _ (keep b o n e)), acc ++ [u], upd_same, ?_⟩
        rw [List.take_succ, hti]
        exact (hacc.imp fun _ _ x => ItmP.upd hD6 (ItmP.same (sT.trans s6) x)).append (Lk.one (ItmP.upd hD6 pu))
      cases it with
      | pl y k =>
        have hF : f1 = "place" := hF
        subst hF
        refine ⟨_, rfl, rfl, _, rfl, ?_⟩
        rw [decide_eq_true rfl]
        refine iteT ?_
        unfold tW
        refine ⟨rfl, _, rfl, ?_⟩
        dsimp only [tNil]
        exact of_pv6 (hg.1.same old) fun p H6 s6 pp => fin _ H6 s6 ⟨⟨p, rfl, pp⟩, hg.2⟩
      | wd y =>
        have hne : decide (V.str f1 = V.str "place") = false := decide_eq_false fun e => by
          have e := V.str.inj e
          rcases hF with ⟨e2, _⟩ | ⟨e2, _⟩
          · rw [e] at e2
            exact absurd e2 (by decide +kernel)
          · rw [e] at e2
            exact absurd e2 (by decide +kernel)
        refine ⟨_, rfl, rfl, _, rfl, ?_⟩
        rw [hne]
        exact iteF ⟨_, rfl, fin _ H5 (Same.refl H5) hg⟩
    · rintro H3 ⟨keep, acc, hD, hacc⟩
      rw [List.take_of_length_le (by omega)] at hacc
      have la := hacc.length
      have old : Same H H3 := fun b o e => keep b o (ne_of_none (s2 _ _ e) nD) (s2 _ _ e)
      refine ⟨_, rfl, a, _, _, _, rfl, rfl, SqT.of (old _ _ ha), i0, _, rfl, D, acc, rfl, .inr (SqL.of hD), ?_, fun t nt => ?_⟩
      · show (V.str z :: (acc ++ [])).length ≤ sizeLine
        rw [List.append_nil, List.length_cons]
        omega
      · refine q t _ (old.trans (same_nw nt)) (old.free nt) ⟨acc, ?_, hacc.imp fun _ _ x => ItmP.same (same_nw nt) x, hok⟩
        rw [upd_same, List.append_nil]

end
end Mz
set_option Elab.async false
set_option linter.all false
set_option maxRecDepth 100000
set_option maxHeartbeats 4000000
namespace Mz
open PySem PySem.Spec PyProof.Rows L2
/-! places of steps and of facts; limits; page sizes -/
theorem call_isiK {X : Cx} (K : PySem.W.Frag) (hK : X.K = K := by rfl) : CallR X (.builtin "isinstance") (rIsi K) := by
  subst hK
  exact call_isi
theorem fcF_norows {rl ul : Addr} : (fcF rl ul).lookup ("rows" : Str) = none := by
  unfold fcF
  rw [lookup_putF, if_neg (by decide +kernel), lookup_putF, if_neg (by decide +kernel)]
  rfl
def plcs : List Itm → List (Str × Int)
  | [] => []
  | .pl z k :: r => (z, k) :: plcs r
  | .wd _ :: r => plcs r
theorem plcs_app : ∀ a b : List Itm, plcs (a ++ b) = plcs a ++ plcs b
  | [], _ => rfl
  | .pl z k :: a, b => by
    show (z, k) :: plcs (a ++ b) = _
    rw [plcs_app a b]
    rfl
  | .wd _ :: a, b => plcs_app a b
theorem plcs_len : ∀ a : List Itm, (plcs a).length ≤ a.length
  | [] => Nat.le_refl _
  | .pl z k :: a => Nat.succ_le_succ (plcs_len a)
  | .wd _ :: a => Nat.le_succ_of_le (plcs_len a)
theorem PlR.upd {C D a : Addr} {H : Hp} {l l' : List V} {p : Str × Int} (hD : H D = some (.lst l)) (h : PlR C H a p) : PlR C (L2.upd H D (.lst l')) a p := by
  obtain ⟨dx, h⟩ := h
  exact ⟨dx, by rw [upd_ne (fun x => by rw [x, hD] at h; cases h)]; exact h⟩
theorem plsOf_le : ∀ l : List Row, (∀ rw ∈ l, RwOk rw) → (plsOf l).length ≤ 2 * l.length
  | [], _ => Nat.le_refl 0
  | x :: l, h => by
    have h1 := (Row.le (h x List.mem_cons_self)).2
    have h2 := plsOf_le l fun y hy => h y (List.mem_cons_of_mem _ hy)
    show (x.2 ++ plsOf l).length ≤ _
    rw [List.length_append, List.length_cons]
    omega
def spRowsF (F C : Addr) : Sp := fun vs H Q _ => ∃ (f : Addr) (rws : List Row), vs = [.ref f] ∧ Fac F C H f rws ∧ ∀ (p : Addr) (as : List Addr) (H' : Hp), Same H H' → H p = none → H' p = some (.lst (as.map V.ref)) → Lk (RwP C H') as rws → Q (.ref p) H'
def spPos (C : Addr) : Sp := fun vs H Q _ => ∃ (q : Addr) (d : StpD), vs = [.ref q] ∧ StP C H q d ∧ ∀ (p : Addr) (ys : List Addr) (H' : Hp), Same H H' → H p = none → H' p = some (.lst (ys.map V.ref)) → Lk (PlR C H') ys (plcs d.2) → Q (.ref p) H'
def spWith (F C : Addr) : Sp := fun vs H Q _ => ∃ (pl f : Addr) (qs : List Addr) (ps : List (Str × Int)) (rws : List Row), vs = [.ref pl, .ref f] ∧ H pl = some (.lst (qs.map V.ref)) ∧ Lk (PlR C H) qs ps ∧ (∀ p ∈ ps, Good p.1 p.2) ∧ ps.length ≤ 150 ∧ Fac F C H f rws ∧
  ∀ (r : Addr) (rs : List Addr) (H' : Hp), Same H H' → H r = none → H' r = some (.lst (rs.map V.ref)) → Lk (PlR C H') rs (firsts (ps ++ plsOf rws)) → Q (.ref r) H'
/-- a page size that is chosen: none, or one below 32 -/
def PgV (v : V) (pg : Option Int) : Prop := (v = .non ∧ pg = none) ∨ ∃ i, v = .int i ∧ pg = some i
/-- how many unknowns there may be -/
def capP (pg : Option Int) : Nat := if pg.isNone then 2 else 1
def spTooMany (K : PySem.W.Frag) : Sp := fun vs H Q _ => ∃ (ul : Addr) (ys : List Str) (v : V) (pg : Option Int), vs = [.ref ul, v] ∧ SqL K H ul (ys.map V.str) ∧ PgV v pg ∧ Q (.bl (decide (capP pg < ys.length))) H
def spWithin (C : Addr) : Sp := fun vs H Q _ => ∃ (pl : Addr) (qs : List Addr) (ps : List (Str × Int)) (v : V) (pg : Option Int), vs = [.ref pl, v] ∧ H pl = some (.lst (qs.map V.ref)) ∧ Lk (PlR C H) qs ps ∧ ps.length < 60 ∧ PgV v pg ∧
  ((ps.length ≤ 14 ∧ (∀ ys, Unk ps ys → ys.length ≤ capP pg) ∧ ∀ H', Same H H' → Q (.bl true) H') ∨ ((14 < ps.length ∨ ∀ ys, Unk ps ys → capP pg < ys.length) ∧ ∀ H', Same H H' → Q (.bl false) H'))
def spChoice (K : PySem.W.Frag) : Sp := fun vs H Q _ => ∃ v, vs = [v] ∧ ((∃ pg : Option Int, PgV v pg ∧ (∀ i, pg = some i → 1 ≤ i ∧ i ≤ 31) ∧ ∀ H', Same H H' → Q (.bl true) H') ∨ (v ≠ .non ∧ Kd K H v ∧ inB 1 (32 - 1) v = false ∧ ∀ H', Same H H' → Q (.bl false) H'))
section
variable {P : Program} {w : World} {K : PySem.W.Frag} {mg : Str → Option Value} {base : Heap}
theorem scRowsF : FnScope ["self"] ["self"] (defScope (inClass sFacts 1)) := ⟨rfl, rfl, rfl, by decide +kernel, rfl, by decide +kernel, by decide +kernel⟩
theorem ok_rowsF {f F C : Addr} {fd : FuncData} (F0 : Fun K "rows" "Facts.rows" (inClass sFacts 1) f fd) (T : Fcl K mg F) (mL : mg "list" = none) : FnOk P w K mg base CX0 1 f fd ["self"] (spRowsF F C) := by
  refine F0.ok scRowsF (fun vs H Q E h => ?_) (fun cdv A outer s H vs Q E hr h => ?_)
  · obtain ⟨f, rws, rfl, _⟩ := h
    rfl
  · obtain ⟨fa, rws, rfl, ⟨dx, rl, ul, as, ys, h1, h2, h3, _⟩, q⟩ := h
    refine ⟨_, pss_one (ps_ret (pe_callTy call_list_of (by rfl) mL (by decide +kernel) (pa_cons (pe_fld (pv 0) rfl) pa_nil))), ?_⟩
    refine ⟨_, rfl, fa, F, dx, _, _, rfl, h1, T.cl, T.nR, fcF_rows, rl, _, rfl, .inl (SqL.of h2), fun p np => ?_⟩
    exact q p as _ (same_nw np) np upd_same (h3.imp fun _ _ x => x.same (same_nw np))
theorem scPlacesStep : FnScope ["step", "item"] ["step"] (defScope sPlacesStep) := ⟨rfl, rfl, rfl, by decide +kernel, rfl, by decide +kernel, by decide +kernel⟩
theorem ok_pos {f C : Addr} {fd : FuncData} (F : Fun K "places_of_step" "places_of_step" sPlacesStep f fd) (D : Blp mg) (Z : Cpl K mg C) (Y : Pty K C) (N : Npl K C) : FnOk P w K mg base CX0 1 f fd ["step"] (spPos C) := by
  refine F.ok scPlacesStep (fun vs H Q E h => ?_) (fun cdv A outer s H vs Q E hr h => ?_)
  · obtain ⟨a, d, rfl, _⟩ := h
    rfl
  · obtain ⟨a, ⟨z, its⟩, rfl, ⟨r, ha, hit, hok⟩, q⟩ := h
    have nd := scPlacesStep.nd
    refine ⟨_, (pss_one (ps_ret (pe_lc (own := [("item", 1)]) (g := gName 1) rfl nd (pi_tup (pe_slice sl_tup (pv 0) (po_some pe_int) po_none)) (blkOk_by (N := ["step", "item"]) (sc := defScope sPlacesStep) (by decide +kernel)) (fun _ _ _ _ _ => (pg_name (i := 1) nd rfl (Or.inl rfl))) (fun _ _ _ _ _ => (pts_one (pt_val (pe_callB (call_isiK K) (by rfl) D.isi (by decide +kernel) (pa_cons (pv 1) (pa_cons (pe_glob (v := .ref C) rfl Z.mgC rfl) pa_nil)))))) (fun _ _ _ _ _ => (pv 1))))), ?_⟩
    have sb : 1000 ≤ sizeLine := by decide
    have ha : H a = some (.tup (.str z :: r)) := ha
    have hit : Lk (ItmP C H) r its := hit
    obtain ⟨gs, fz0, hfit⟩ := hok
    have l3 := forms_le fz0
    have l1 := hit.length
    have l2 : its.length = gs.length := hfit.length
    refine ⟨_, rfl, _, rfl, a, _, rfl, SqT.of ha, cut1n, fun p1 n1 => ?_⟩
    rw [cut1]
    have s1 : Same H (upd H p1 (.tup r)) := same_nw n1
    have t1 : upd H p1 (.tup r) p1 = some (.tup r) := upd_same
    generalize upd H p1 (.tup r) = H1 at s1 t1
    refine ⟨p1, rfl, ⟨_, SqT.of t1⟩, fun D nD => ?_⟩
    have p1D : p1 ≠ D := ne_of_none t1 nD
    refine lc_tup (xs := r) (fun i H' => (∀ b o, b ≠ D → H1 b = some o → H' b = some o) ∧ ∃ ys : List Addr, H' D = some (.lst (ys.map V.ref)) ∧ Lk (PlR C H') ys (plcs (its.take i)))
      ⟨fun b o n e => by rw [upd_ne n]; exact e, [], upd_same, by rw [List.take_zero]; exact .nil⟩ (fun i H' _ h => SqT.of (h.1 _ _ p1D t1)) ?_ ?_
    · rintro i x H3 hx ⟨keep, ys, hD, hy⟩
      obtain ⟨it, hti, hp⟩ := hit.get hx
      have li : i < its.length := (List.getElem?_eq_some_iff.mp hti).1
      have old : Same H H3 := fun b o e => keep b o (ne_of_none (s1 _ _ e) nD) (s1 _ _ e)
      have tk : its.take (i + 1) = its.take i ++ [it] := by
        rw [List.take_succ, hti]
        rfl
      have ly := hy.length
      have lp := plcs_len (its.take i)
      rw [List.length_take] at lp
      refine ⟨rfl, ?_⟩
      cases it with
      | pl y k =>
        obtain ⟨⟨a2, rfl, pa⟩, _⟩ := ItmP.same old hp
        refine ⟨_, rfl, .ref a2, .ref C, .ref C, .ref C, true, rfl, .own C, pa.ty Y, kit_self, true, rfl, ?_⟩
        refine iteT ⟨_, rfl, _, hD, by rw [List.length_map]; omega, fun b o n e => by rw [upd_ne n]; exact keep b o n e, ys ++ [a2], by rw [upd_same, List.map_append]; rfl, ?_⟩
        rw [tk, plcs_app]
        exact (hy.imp fun _ _ x => PlR.upd hD x).append (Lk.one (PlR.upd hD pa))
      | wd y =>
        obtain ⟨rfl, _⟩ := hp
        refine ⟨_, rfl, .str y, .ref C, .type "str", .ref C, false, rfl, .own C, .base (.str y), N.str, false, rfl, ?_⟩
        refine iteF ⟨keep, ys, hD, ?_⟩
        rw [tk, plcs_app]
        show Lk (PlR C H3) ys (plcs (its.take i) ++ [])
        rw [List.append_nil]
        exact hy
    · rintro H3 ⟨keep, ys, hD, hy⟩
      rw [List.take_of_length_le (by omega)] at hy
      have old : Same H H3 := fun b o e => keep b o (ne_of_none (s1 _ _ e) nD) (s1 _ _ e)
      exact q D ys H3 old (s1.free nD) hD hy
theorem scWithPlaces : FnScope ["places", "facts"] ["places", "facts"] (defScope sWithPlaces) := ⟨rfl, rfl, rfl, by decide +kernel, rfl, by decide +kernel, by decide +kernel⟩
theorem ok_with {f C F fD fP fR : Addr} {fd fdD fdP fdR : FuncData} (F0 : Fun K "with_places_of_facts" "with_places_of_facts" sWithPlaces f fd) (TF : Fcl K mg F) (GD : D1 P w K mg base "different_places" 4 ["places"] (spDiff C) fD fdD) (GP : D1 P w K mg base "places_of_rows" 1 ["rows"] (spPlacesOf K C) fP fdP)
    (GR : FnOk P w K mg base CX0 1 fR fdR ["self"] (spRowsF F C)) (bR : Binds K fdR ["self"] []) (mRw : Meth K F "rows" fR) : FnOk P w K mg base CX0 5 f fd ["places", "facts"] (spWith F C) := by
  refine F0.ok scWithPlaces (fun vs H Q E h => ?_) (fun cdv A outer s H vs Q E hr h => ?_)
  · obtain ⟨pl, fa, qs, ps, rws, rfl, _⟩ := h
    rfl
  · obtain ⟨pl, fa, qs, ps, rws, rfl, hpl, hq, hg, hn, hf, q⟩ := h
    have hr1 : Room 1 _ := hr.mono (by decide)
    refine ⟨_, (pss_one (ps_ret (pe_call GD.ok hr (by rfl) GD.m GD.k GD.b .nil pass0 (pa_cons (pe_op op_cat (pv 0) (pe_call GP.ok hr1 (by rfl) GP.m GP.k GP.b .nil pass0 (pa_cons (pe_meth0 (pv 1) TF.cl mRw GR hr1 bR .nil pass0) pa_nil))) pa_nil)))), ?_⟩
    have lq := hq.length
    obtain ⟨dx, rl, ul, as, ys, h1, _, _, _, _, _, l20⟩ := id hf
    have gp : ∀ p ∈ plsOf rws, Good p.1 p.2 := fun p hp => by
      obtain ⟨rw, hrw, hp2⟩ := List.mem_flatMap.mp hp
      obtain ⟨_, _, _, as2, _, _, _, h3, _⟩ := id hf
      obtain ⟨a2, _, items, _, _, ok⟩ := h3.memR hrw
      exact ok.2 p hp2
    refine ⟨_, rfl, _, rfl, fa, dx, _, rfl, h1, fcF_norows, fa, rws, rfl, hf, fun rl2 as2 H1 s1 n1 t1 h2 => ?_⟩
    refine ⟨rl2, as2, rws, rfl, SqL.of t1, h2, by omega, fun p2 qs2 H2 s2 n2 t2 h3 => ?_⟩
    have lr : (plsOf rws).length ≤ 2 * rws.length := plsOf_le rws fun rw hrw => by
      obtain ⟨_, _, _, as2, _, _, _, h3, _⟩ := id hf
      obtain ⟨a2, _, items, _, _, ok⟩ := h3.memR hrw
      exact ok
    have s12 := s1.trans s2
    have l3 := h3.length
    have sb : 1000 ≤ sizeLine := by decide
    refine ⟨_, _, _, _, rfl, rfl, s12 _ _ hpl, t2, by rw [List.length_map, List.length_map]; omega, fun p3 n3 => ?_⟩
    have s4 : Same H2 (upd H2 p3 (.lst (qs.map V.ref ++ qs2.map V.ref))) := same_nw n3
    have t4 : upd H2 p3 (.lst (qs.map V.ref ++ qs2.map V.ref)) p3 = some (.lst ((qs ++ qs2).map V.ref)) := by
      rw [upd_same, List.map_append]
    generalize upd H2 p3 (.lst (qs.map V.ref ++ qs2.map V.ref)) = H4 at s4 t4
    have s04 := s12.trans s4
    refine ⟨p3, qs ++ qs2, ps ++ plsOf rws, rfl, t4, (hq.imp fun a p x => ?_).append (h3.imp fun a p x => ?_), fun p hp => ?_, by rw [List.length_append]; omega, fun r rs H5 s5 n5 t5 h5 => q r rs H5 (s04.trans s5) (s04.free n5) t5 h5⟩
    · obtain ⟨dx, x⟩ := x
      exact ⟨dx, s04 _ _ x⟩
    · obtain ⟨dx, x⟩ := x
      exact ⟨dx, s4 _ _ x⟩
    · rcases List.mem_append.mp hp with h | h
      · exact hg p h
      · exact gp p h
theorem scTooMany : FnScope ["unknowns", "page"] ["unknowns", "page"] (defScope sTooMany) := ⟨rfl, rfl, rfl, by decide +kernel, rfl, by decide +kernel, by decide +kernel⟩
theorem ok_tooMany {f : Addr} {fd : FuncData} {t : Tok} (F : Fun K "are_too_many" "are_too_many" sTooMany f fd) (B : Blt mg) (mU : mg "MOST_UNKNOWNS" = some (.int 2 t)) : FnOk P w K mg base CX0 1 f fd ["unknowns", "page"] (spTooMany K) := by
  refine F.ok scTooMany (fun vs H Q E h => ?_) (fun cdv A outer s H vs Q E hr h => ?_)
  · obtain ⟨ul, ys, v, pg, rfl, _⟩ := h
    rfl
  · obtain ⟨ul, ys, v, pg, rfl, hul, hv, q⟩ := h
    refine ⟨_, (pss_one (ps_ret (pe_cmpR op_gt (pe_callB call_len_seq (by rfl) B.len PySem.boot_len (pa_cons (pv 0) pa_nil)) (pe_ifExp (pt_cmpR op_isN (pv 1) pe_non (by rfl)) (pe_glob (v := .int 2) rfl mU ⟨_, rfl⟩) pe_int) (nomark _)))), ?_⟩
    refine ⟨_, rfl, ul, _, rfl, .inl hul, ?_⟩
    rcases hv with ⟨rfl, rfl⟩ | ⟨i, rfl, rfl⟩
    · refine ⟨_, rfl, rfl, _, rfl, ?_⟩
      refine iteT ⟨_, _, rfl, rfl, ?_⟩
      have e : decide (capP none < ys.length) = decide ((2 : Int) < (((ys.map V.str).length : Nat) : Int)) := by
        rw [List.length_map]
        exact decide_eq_decide.mpr ⟨fun h => by have h : 2 < ys.length := h; omega, fun h => by show 2 < ys.length; omega⟩
      rw [e] at q
      exact q
    · refine ⟨_, rfl, rfl, _, rfl, ?_⟩
      refine iteF ⟨_, _, rfl, rfl, ?_⟩
      have e : decide (capP (some i) < ys.length) = decide ((1 : Int) < (((ys.map V.str).length : Nat) : Int)) := by
        rw [List.length_map]
        exact decide_eq_decide.mpr ⟨fun h => by have h : 1 < ys.length := h; omega, fun h => by show 1 < ys.length; omega⟩
      rw [e] at q
      exact q
theorem scWithin : FnScope ["places", "page"] ["places", "page"] (defScope sWithin) := ⟨rfl, rfl, rfl, by decide +kernel, rfl, by decide +kernel, by decide +kernel⟩
theorem ok_within {f fT fU C : Addr} {fd fdT fdU : FuncData} {t : Tok} (F : Fun K "are_within_limits" "are_within_limits" sWithin f fd) (B : Blt mg) (mM : mg "_MOST_PLACES" = some (.int 14 t)) (GT : D1 P w K mg base "are_too_many" 1 ["unknowns", "page"] (spTooMany K) fT fdT) (GU : D1 P w K mg base "unknowns_of" 3 ["places"] (spUnkOf K C) fU fdU) :
    FnOk P w K mg base CX0 4 f fd ["places", "page"] (spWithin C) := by
  refine F.ok scWithin (fun vs H Q E h => ?_) (fun cdv A outer s H vs Q E hr h => ?_)
  · obtain ⟨pl, qs, ps, v, pg, rfl, _⟩ := h
    rfl
  · obtain ⟨pl, qs, ps, v, pg, rfl, hpl, hq, hn, hv, h⟩ := h
    have hr1 : Room 1 _ := hr.mono (by decide)
    refine ⟨_, (pss_one (ps_ret (pe_and (pe_cmpR op_le (pe_callB call_len_seq (by rfl) B.len PySem.boot_len (pa_cons (pv 0) pa_nil)) (pe_glob (v := .int 14) rfl mM ⟨_, rfl⟩) (nomark _)) (pe_one (pe_not (pe_call GT.ok hr1 (by rfl) GT.m GT.k GT.b .nil pass0 (pa_cons (pe_call GU.ok hr (by rfl) GU.m GU.k GU.b .nil pass0 (pa_cons (pv 0) pa_nil)) (pa_cons (pv 1) pa_nil)))))))), ?_⟩
    have lq := hq.length
    refine ⟨_, rfl, pl, _, rfl, .inl (SqL.of hpl), _, _, rfl, rfl, _, rfl, ?_⟩
    by_cases h14 : ps.length ≤ 14
    · have h14' : ((qs.map V.ref).length : Int) ≤ 14 := by
        rw [List.length_map]
        omega
      rw [decide_eq_true h14']
      refine iteT ?_
      refine ⟨_, rfl, pl, qs, ps, rfl, SqL.of hpl, hq, hn, fun p ys H1 s1 n1 t1 unk => ?_⟩
      refine ⟨_, rfl, p, ys, v, pg, rfl, SqL.of t1, hv, _, rfl, ?_⟩
      rcases h with ⟨_, hu, q⟩ | ⟨hu, q⟩
      · rw [decide_eq_false (Nat.not_lt.mpr (hu ys unk))]
        exact q H1 s1
      · rw [decide_eq_true ((hu.resolve_left (Nat.not_lt.mpr h14)) ys unk)]
        exact q H1 s1
    · have h14' : ¬ ((qs.map V.ref).length : Int) ≤ 14 := by
        rw [List.length_map]
        omega
      rw [decide_eq_false h14']
      refine iteF ?_
      rcases h with ⟨h, _⟩ | ⟨_, q⟩
      · exact absurd h h14
      · exact q H (Same.refl H)
theorem scPageChoice : FnScope ["value"] ["value"] (defScope sPageChoice) := ⟨rfl, rfl, rfl, by decide +kernel, rfl, by decide +kernel, by decide +kernel⟩
theorem ok_choice {f fI : Addr} {fd fdI : FuncData} {t : Tok} (F : Fun K "is_page_choice" "is_page_choice" sPageChoice f fd) (GI : D1 P w K mg base "is_integer" 2 ["value", "low", "high"] (spIsInt K) fI fdI) (mL : mg "LEAST_LARGE_PAGE" = some (.int 32 t)) : FnOk P w K mg base CX0 3 f fd ["value"] (spChoice K) := by
  refine F.ok scPageChoice (fun vs H Q E h => ?_) (fun cdv A outer s H vs Q E hr h => ?_)
  · obtain ⟨v, rfl, _⟩ := h
    rfl
  · obtain ⟨v, rfl, h⟩ := h
    refine ⟨_, (pss_one (ps_ret (pe_or (pe_cmpR op_isN (pv 0) pe_non (by rfl)) (pe_one (pe_call GI.ok hr (by rfl) GI.m GI.k GI.b .nil pass0 (pa_cons (pv 0) (pa_cons pe_int (pa_cons (pe_op op_sub (pe_glob (v := .int 32) rfl mL ⟨_, rfl⟩) pe_int) pa_nil)))))))), ?_⟩
    rcases h with ⟨pg, hv, hp, q⟩ | ⟨hv, hk, hb, q⟩
    · rcases hv with ⟨rfl, rfl⟩ | ⟨i, rfl, rfl⟩
      · refine ⟨_, rfl, rfl, _, rfl, ?_⟩
        exact iteT (q H (Same.refl H))
      · refine ⟨_, rfl, rfl, _, rfl, ?_⟩
        refine iteF ⟨_, rfl, _, _, rfl, rfl, .int i, 1, 32 - 1, rfl, .int i, ?_⟩
        obtain ⟨h1, h2⟩ := hp i rfl
        have e : inB 1 (32 - 1) (V.int i) = true := by
          show (decide ((1 : Int) ≤ i) && decide (i ≤ 32 - 1)) = true
          rw [decide_eq_true h1, decide_eq_true (by omega)]
          rfl
        rw [e]
        exact q H (Same.refl H)
    · refine ⟨_, rfl, rfl, _, rfl, ?_⟩
      rw [decide_eq_false hv]
      refine iteF ⟨_, rfl, _, _, rfl, rfl, v, 1, 32 - 1, rfl, hk, ?_⟩
      rw [hb]
      exact q H (Same.refl H)
end
end Mz
set_option Elab.async false
set_option linter.all false
set_option maxRecDepth 100000
set_option maxHeartbeats 4000000
namespace Mz
open PySem PySem.Spec PyProof.Rows L2
/-! a program made -/
def asgValue : Stmt → Expr
  | .Assign _ e _ => e
  | _ => .Constant .none 0 ⟨0, 0, 0, 0⟩
def lcScope : Expr → Scope
  | .ListComp _ _ s _ => s
  | _ => defScope (.Pass ⟨0, 0, 0, 0⟩)
def stmtAt (s : Stmt) (i : Nat) : Stmt := (defBody s).getD i (.Pass ⟨0, 0, 0, 0⟩)
structure Pcl (K : PySem.W.Frag) (mg : Str → Option Value) (G : Addr) : Prop where
  cl : Cls K G
  nH : NoAttr K G "_hands"
  nF : NoAttr K G "_first"
  nC : NoAttr K G "_facts"
  nP : NoAttr K G "_page"
  nL : NoAttr K G "_places"
  nU : NoAttr K G "_unknowns"
  mgG : mg "Program" = some (.ref G)
/-- the fields of a program, as they are stored -/
def prF1 (hl : Addr) : List (Str × V) := putF "_hands" (.ref hl) []
def prF2 (hl st : Addr) : List (Str × V) := putF "_first" (.ref st) (prF1 hl)
def prF3 (hl st fa : Addr) : List (Str × V) := putF "_facts" (.ref fa) (prF2 hl st)
def prF4 (hl st fa : Addr) (g : V) : List (Str × V) := putF "_page" g (prF3 hl st fa)
def prF5 (hl st fa : Addr) (g : V) (pl : Addr) : List (Str × V) := putF "_places" (.ref pl) (prF4 hl st fa g)
def prF (hl st fa : Addr) (g : V) (pl ul : Addr) : List (Str × V) := putF "_unknowns" (.ref ul) (prF5 hl st fa g pl)
def stepsOf (hs : List (List StpD)) : List StpD := hs.flatten
def plcsAll (ss : List StpD) : List (Str × Int) := ss.flatMap fun d => plcs d.2
/-- the places of a program -/
def prPl (z : Str) (k : Int) (hs : List (List StpD)) : List (Str × Int) := firsts ((z, k) :: plcsAll (stepsOf hs))
/-- and those of its facts -/
def prAll (z : Str) (k : Int) (hs : List (List StpD)) (rws : List Row) : List (Str × Int) := firsts (prPl z k hs ++ plsOf rws)
/-- a program -/
def Prg (G F C : Addr) (H : Hp) (p : Addr) (hs : List (List StpD)) (z : Str) (k : Int) (rws : List Row) (g : V) : Prop := ∃ (dx hl st fa pl ul : Addr) (as qs : List Addr) (ys : List Str), H p = some (.ins G dx (prF hl st fa g pl ul)) ∧ H hl = some (.lst (as.map V.ref)) ∧ Lk (HdP C H) as hs ∧ Pl C H st z k ∧ Fac F C H fa rws ∧
  H pl = some (.lst (qs.map V.ref)) ∧ Lk (PlR C H) qs (prPl z k hs) ∧ H ul = some (.lst (ys.map V.str)) ∧ Unk (prAll z k hs rws) ys
/-- a program just made: its lists are new -/
def PrgN (G F C : Addr) (H0 H : Hp) (p : Addr) (hs : List (List StpD)) (z : Str) (k : Int) (rws : List Row) (g cv : V) : Prop := ∃ (dx hl st fa pl ul : Addr) (as qs : List Addr) (ys : List Str), H p = some (.ins G dx (prF hl st fa g pl ul)) ∧ H hl = some (.lst (as.map V.ref)) ∧ Lk (HdP C H) as hs ∧ Pl C H st z k ∧ Fac F C H fa rws ∧
  H pl = some (.lst (qs.map V.ref)) ∧ Lk (PlR C H) qs (prPl z k hs) ∧ H ul = some (.lst (ys.map V.str)) ∧ Unk (prAll z k hs rws) ys ∧ H0 hl = none ∧ (∀ a ∈ as, H0 a = none) ∧ H0 pl = none ∧ H0 ul = none ∧ (cv = .ref fa ∨ FacN F C H0 H fa rws)
theorem PrgN.prg {G F C p : Addr} {H0 H : Hp} {hs : List (List StpD)} {z : Str} {k : Int} {rws : List Row} {g cv : V} (h : PrgN G F C H0 H p hs z k rws g cv) : Prg G F C H p hs z k rws g := by
  obtain ⟨dx, hl, st, fa, pl, ul, as, qs, ys, h1, h2, h3, h4, h5, h6, h7, h8, h9, _⟩ := h
  exact ⟨dx, hl, st, fa, pl, ul, as, qs, ys, h1, h2, h3, h4, h5, h6, h7, h8, h9⟩
/-- hands that are none -/
def HsBad (K : PySem.W.Frag) (H : Hp) (v : V) : Prop := Lst K H v false ∨ ∃ a xs, v = .ref a ∧ SqA H a xs ∧ (xs.length = 0 ∨ 3 < xs.length)
/-- what becomes of a program, behind its page size -/
def RsLim (G F C cP : Addr) (H0 : Hp) (Q : VK) (E : XK) (p : Addr) (hv cv gv : V) (hs : List (List StpD)) (z : Str) (k : Int) (rws : List Row) (pg : Option Int) : Prop :=
  (prAll z k hs rws).length < 60 ∧ (((14 < (prAll z k hs rws).length ∨ ∀ ys, Unk (prAll z k hs rws) ys → capP pg < ys.length) ∧ Rs H0 E cP hv) ∨
    ((prAll z k hs rws).length ≤ 14 ∧ (∀ ys, Unk (prAll z k hs rws) ys → ys.length ≤ capP pg) ∧ ∀ H', Same H0 H' → PrgN G F C H0 H' p hs z k rws gv cv → Q .non H'))
def RsPage (K : PySem.W.Frag) (G F C cP cI : Addr) (H0 : Hp) (Q : VK) (E : XK) (p : Addr) (hv cv gv : V) (hs : List (List StpD)) (z : Str) (k : Int) (rws : List Row) : Prop :=
  (gv ≠ .non ∧ Kd K H0 gv ∧ inB 1 (32 - 1) gv = false ∧ Rs H0 E cI gv) ∨ ∃ pg, PgV gv pg ∧ (∀ i, pg = some i → 1 ≤ i ∧ i ≤ 31) ∧ RsLim G F C cP H0 Q E p hv cv gv hs z k rws pg
def RsFacts (K : PySem.W.Frag) (G F C cP cF cI : Addr) (H0 : Hp) (Q : VK) (E : XK) (p : Addr) (hv cv gv : V) (hs : List (List StpD)) (z : Str) (k : Int) : Prop :=
  (cv ≠ .non ∧ (∃ ty, TyX K H0 cv ty ∧ PySem.W.kitOne K ty (.ref F) = some false) ∧ Rs H0 E cF cv) ∨ ∃ rws, ((cv = .non ∧ rws = []) ∨ ∃ f, cv = .ref f ∧ Fac F C H0 f rws) ∧ RsPage K G F C cP cI H0 Q E p hv cv gv hs z k rws
def RsFirst (K : PySem.W.Frag) (G F C cP cX cF cI : Addr) (H0 : Hp) (Q : VK) (E : XK) (p : Addr) (hv fv cv gv : V) (hs : List (List StpD)) : Prop :=
  (NoPl K C H0 fv ∧ ofV fv = none ∧ Rs H0 E cX fv) ∨ ∃ z k, Pv6 K C H0 fv z k ∧ Good z k ∧ RsFacts K G F C cP cF cI H0 Q E p hv cv gv hs z k
def spInitP (K : PySem.W.Frag) (G F C cP cH cS cX cF cI : Addr) : Sp := fun vs H Q E => ∃ (p dx : Addr) (hv fv cv gv : V) (H0 : Hp), vs = [.ref p, hv, fv, cv, gv] ∧ H0 p = none ∧ Same H0 H ∧ H p = some (.ins G dx []) ∧
  ((HsBad K H0 hv ∧ Rs H0 E cP hv) ∨ ∃ a xs, hv = .ref a ∧ SqA H0 a xs ∧ 1 ≤ xs.length ∧ xs.length ≤ 3 ∧
    ∃ ib : Nat, (∀ j, j < ib → ∃ b ss, xs[j]? = some (.ref b) ∧ HdG K C H0 b ss ∧ ss.length ≤ 12 ∧ locksFrom [] ss = true) ∧ (∀ v, xs[ib]? = some v → ∃ c u, BadHd K C cH cS H0 v c u ∧ Rs H0 E c u) ∧
      (xs[ib]? = none → ∃ (as : List Addr) (hs : List (List StpD)), xs = as.map V.ref ∧ Lk (HdG K C H0) as hs ∧ (∀ h ∈ hs, h.length ≤ 12 ∧ locksFrom [] h = true) ∧ RsFirst K G F C cP cX cF cI H0 Q E p hv fv cv gv hs))
/-- all stays but what the class has made -/
def Kc (G : Addr) (H H' : Hp) : Prop := ∀ q o, (∀ dx fs, o ≠ .ins G dx fs) → H q = some o → H' q = some o
section
variable {G C F : Addr} {H H' H'' : Hp}
theorem Same.kc (s : Same H H') : Kc G H H' := fun q o _ e => s q o e
theorem Kc.trans (a : Kc G H H') (b : Kc G H' H'') : Kc G H H'' := fun q o n e => b q o n (a q o n e)
theorem Kc.put {p dx : Addr} {fs : List (Str × V)} {o' : HO} (h : H p = some (.ins G dx fs)) : Kc G H (upd H p o') := fun q o n e => by
  rw [upd_ne (fun x => by rw [x, h] at e; exact n _ _ (Option.some.inj e).symm)]
  exact e
theorem Kc.pl (s : Kc G H H') (ne : C ≠ G) {a : Addr} {z : Str} {k : Int} (h : Pl C H a z k) : Pl C H' a z k := by
  obtain ⟨dx, e⟩ := h
  exact ⟨dx, s _ _ (fun _ _ x => ne (by injection x)) e⟩
theorem Kc.itm (s : Kc G H H') (ne : C ≠ G) {v : V} : ∀ {it : Itm}, ItmP C H v it → ItmP C H' v it
  | .pl _ _, ⟨⟨a, e, h⟩, g⟩ => ⟨⟨a, e, s.pl ne h⟩, g⟩
  | .wd _, h => h
theorem Kc.stp (s : Kc G H H') (ne : C ≠ G) {a : Addr} {d : StpD} (h : StP C H a d) : StP C H' a d := by
  obtain ⟨vs, h1, h2, h3⟩ := h
  exact ⟨vs, s _ _ (fun _ _ e => nomatch e) h1, h2.imp fun _ _ x => s.itm ne x, h3⟩
theorem Kc.hd (s : Kc G H H') (ne : C ≠ G) {a : Addr} {d : List StpD} (h : HdP C H a d) : HdP C H' a d := by
  obtain ⟨as, h1, h2⟩ := h
  exact ⟨as, s _ _ (fun _ _ e => nomatch e) h1, h2.imp fun _ _ x => s.stp ne x⟩
theorem Kc.fac (s : Kc G H H') (ne : C ≠ G) (nf : F ≠ G) {f : Addr} {rws : List Row} (h : Fac F C H f rws) : Fac F C H' f rws := by
  obtain ⟨dx, rl, ul, as, ys, h1, h2, h3, h4, h5⟩ := h
  refine ⟨dx, rl, ul, as, ys, s _ _ (fun _ _ x => nf (by injection x)) h1, s _ _ (fun _ _ e => nomatch e) h2, h3.imp fun a r x => ?_, s _ _ (fun _ _ e => nomatch e) h4, h5⟩
  obtain ⟨qs, e1, e2, e3⟩ := x
  exact ⟨qs, s _ _ (fun _ _ e => nomatch e) e1, e2.imp fun _ _ x => s.pl ne x, e3⟩
end
theorem StP.upd {C D a : Addr} {H : Hp} {l l' : List V} {d : StpD} (hD : H D = some (.lst l)) (h : StP C H a d) : StP C (L2.upd H D (.lst l')) a d := by
  obtain ⟨vs, h1, h2, h3⟩ := h
  exact ⟨vs, by rw [upd_ne (fun x => by rw [x, hD] at h1; cases h1)]; exact h1, h2.imp fun _ _ x => ItmP.upd hD x, h3⟩
theorem HdP.upd {C D b : Addr} {H : Hp} {l l' : List V} {ss : List StpD} (hD : H D = some (.lst l)) (ne : b ≠ D) (h : HdP C H b ss) : HdP C (L2.upd H D (.lst l')) b ss := by
  obtain ⟨as, h1, h2⟩ := h
  exact ⟨as, by rw [upd_ne ne]; exact h1, h2.imp fun _ _ x => x.upd hD⟩
theorem two_nil : Two [] := fun ys h => by
  have e : ys = [] := by
    cases ys with
    | nil => rfl
    | cons y r =>
      obtain ⟨_, k, hk⟩ := (h.2.2 y).mp List.mem_cons_self
      exact nomatch hk
  rw [e]
  exact Nat.zero_le 2
theorem pr_hands {hl st fa : Addr} {g : V} : (prF4 hl st fa g).lookup ("_hands" : Str) = some (.ref hl) := by
  unfold prF4 prF3 prF2 prF1
  rw [lookup_putF, if_neg (by decide +kernel), lookup_putF, if_neg (by decide +kernel), lookup_putF, if_neg (by decide +kernel), lookup_putF, if_pos rfl]
theorem pr5_places {hl st fa pl : Addr} {g : V} : (prF5 hl st fa g pl).lookup ("_places" : Str) = some (.ref pl) := by
  unfold prF5
  rw [lookup_putF, if_pos rfl]
theorem pr5_facts {hl st fa pl : Addr} {g : V} : (prF5 hl st fa g pl).lookup ("_facts" : Str) = some (.ref fa) := by
  unfold prF5 prF4 prF3
  rw [lookup_putF, if_neg (by decide +kernel), lookup_putF, if_neg (by decide +kernel), lookup_putF, if_pos rfl]
theorem Kc.facN {G C F : Addr} {H0 H H' : Hp} (s : Kc G H H') (ne : C ≠ G) (nf : F ≠ G) {f : Addr} {rws : List Row} (h : FacN F C H0 H f rws) : FacN F C H0 H' f rws := by
  obtain ⟨dx, rl, ul, as, ys, h1, h2, h3, h4, h5⟩ := h
  refine ⟨dx, rl, ul, as, ys, s _ _ (fun _ _ x => nf (by injection x)) h1, s _ _ (fun _ _ e => nomatch e) h2, h3.imp fun a r x => ?_, s _ _ (fun _ _ e => nomatch e) h4, h5⟩
  obtain ⟨qs, e1, e2, e3⟩ := x
  exact ⟨qs, s _ _ (fun _ _ e => nomatch e) e1, e2.imp fun _ _ x => s.pl ne x, e3⟩
theorem facts_of {K : PySem.W.Frag} {F C cR cF : Addr} {cv : V} {rws : List Row} {σ : L2.St} {H : Hp} {Q : VK} (hv : σ[3]? = some (some cv)) (hcv : (cv = .non ∧ rws = []) ∨ ∃ f, cv = .ref f ∧ Fac F C H f rws) (q : ∀ fa G, Same H G → Fac F C G fa rws → (cv = .ref fa ∨ FacN F C H G fa rws) → Q (.ref fa) G) :
    tIf (tTest (tOp (fun x y H Q => y = V.non ∧ Q (.bl (decide (x = V.non))) H) (tVar 3) (tC V.non))) (StX.tMakeR F (spMakeF K C F cR cF) E0 tNil) (tVar 3) σ H Q := by
  rcases hcv with ⟨rfl, rfl⟩ | ⟨f, rfl, hf⟩
  · refine ⟨_, hv, rfl, _, rfl, ?_⟩
    exact iteT (mk_factsN (as := []) (rws := []) .nil (by decide) two_nil fun fa G s _ h => q fa G s h.fac (.inr h))
  · refine ⟨_, hv, rfl, _, rfl, ?_⟩
    exact iteF ⟨_, hv, q f H (Same.refl H) hf (.inl rfl)⟩
/-- how many places steps have -/
theorem stp_three {d : StpD} (h : StOk d) : (plcs d.2).length ≤ 3 := by
  obtain ⟨fs, h1, h2⟩ := h
  have := forms_le h1
  have := h2.length
  exact Nat.le_trans (plcs_len _) (by omega)
theorem all_three : ∀ ss : List StpD, (∀ d ∈ ss, StOk d) → (plcsAll ss).length ≤ 3 * ss.length
  | [], _ => Nat.le_refl 0
  | d :: ss, h => by
    have h1 := stp_three (h d List.mem_cons_self)
    have h2 := all_three ss fun x hx => h x (List.mem_cons_of_mem _ hx)
    show (plcs d.2 ++ plcsAll ss).length ≤ _
    rw [List.length_append, List.length_cons]
    omega
theorem steps_len : ∀ hs : List (List StpD), (∀ h ∈ hs, h.length ≤ 12) → (stepsOf hs).length ≤ 12 * hs.length
  | [], _ => Nat.le_refl 0
  | x :: hs, h => by
    have h1 := h x List.mem_cons_self
    have h2 := steps_len hs fun y hy => h y (List.mem_cons_of_mem _ hy)
    show (x ++ stepsOf hs).length ≤ _
    rw [List.length_append, List.length_cons]
    omega
theorem steps_take (hs : List (List StpD)) (i : Nat) (h : ∀ x ∈ hs, x.length ≤ 12) : (stepsOf (hs.take i)).length ≤ 12 * i := Nat.le_trans (steps_len _ fun x hx => h x (List.mem_of_mem_take hx)) (by rw [List.length_take]; omega)
theorem itm_good {C : Addr} {H : Hp} : ∀ {vs : List V} {its : List Itm}, Lk (ItmP C H) vs its → ∀ p ∈ plcs its, Good p.1 p.2
  | _, _, .nil, p, h => nomatch h
  | _, .pl z k :: its, .cons h t, p, hp => by
    rcases List.mem_cons.mp hp with rfl | hp
    · exact h.2
    · exact itm_good t p hp
  | _, .wd s :: its, .cons h t, p, hp => itm_good t p hp
theorem stp_good {C : Addr} {H : Hp} {a : Addr} {d : StpD} (h : StP C H a d) : ∀ p ∈ plcs d.2, Good p.1 p.2 := by
  obtain ⟨vs, _, h2, _⟩ := h
  exact itm_good h2
theorem steps_snoc {hs : List (List StpD)} {i : Nat} {ss : List StpD} (h : hs[i]? = some ss) : stepsOf (hs.take (i + 1)) = stepsOf (hs.take i) ++ ss := by
  unfold stepsOf
  rw [List.take_succ, h, List.flatten_append]
  show _ ++ (ss ++ []) = _
  rw [List.append_nil]
theorem plcs_snoc {ss : List StpD} {i : Nat} {d : StpD} (h : ss[i]? = some d) : plcsAll (ss.take (i + 1)) = plcsAll (ss.take i) ++ plcs d.2 := by
  unfold plcsAll
  rw [List.take_succ, h, List.flatMap_append]
  show _ ++ (plcs d.2 ++ []) = _
  rw [List.append_nil]

section
variable {P : Program} {w : World} {K : PySem.W.Frag} {mg : Str → Option Value} {base : Heap}
theorem scInitP : FnScope ["self", "hands", "first", "facts", "page", "hand", "start", "placed", "together", "steps", "step", "place"] ["self", "hands", "first", "facts", "page"] (defScope (inClass sProgram 0)) := ⟨rfl, rfl, rfl, by decide +kernel, rfl, by decide +kernel, by decide +kernel⟩
theorem ok_initP {fXP fXF fXI cP cH cS cI : Addr} {dXP dXF dXI : FuncData} {f fL fCh fO fPc fPs fIF fD fPo fW fU fLi C G F cX cR cF po : Addr} {fd fdL fdCh fdO fdPc fdPs fdD fdPo fdW fdU fdLi : FuncData} {dvs : List V} {kws : List (Str × V)} {pa : Arguments} {t3 : Tok}
    (FD : FunD K "__init__" "Program.__init__" pa (defBody (inClass sProgram 0)) (defScope (inClass sProgram 0)) dvs kws f fd) (B : Blt mg) (D : Blp mg) (Z : Cpl K mg C) (O : OfM P w K mg base C cX po fO fdO) (TP : Pcl K mg G) (TF : Fcl K mg F) (YF : Pty K F) (MF : Mk K F fIF) (GIF : FnR P w K mg base (L2.CX P w) 8 fIF (spMakeF K C F cR cF)) (mH : mg "_MOST_HANDS" = some (.int 3 t3)) (neC : C ≠ G) (neF : F ≠ G)
    (GL : D1 P w K mg base "is_list" 1 ["value"] (spIsList K) fL fdL) (GCh : FnOk P w K mg base (L2.CX P w) 9 fCh fdCh ["hand"] (spChk K C cH cS)) (mCh : mg "_check_hand" = some (.ref fCh)) (kCh : PySem.W.keepIn K (.ref fCh) = true) (bCh : Binds K fdCh ["hand"] []) (XP : Xr P w K mg base "InvalidProgram" cP fXP dXP) (XF : Xr P w K mg base "InvalidFacts" cF fXF dXF) (XI : Xr P w K mg base "InvalidInteger" cI fXI dXI) (GPc : D1 P w K mg base "is_page_choice" 3 ["value"] (spChoice K) fPc fdPc) (GPs : D1 P w K mg base "placed_step" 6 ["step"] (spPst K C) fPs fdPs)
    (GD : D1 P w K mg base "different_places" 4 ["places"] (spDiff C) fD fdD) (GPo : D1 P w K mg base "places_of_step" 1 ["step"] (spPos C) fPo fdPo) (GW : D1 P w K mg base "with_places_of_facts" 5 ["places", "facts"] (spWith F C) fW fdW) (GU : D1 P w K mg base "unknowns_of" 3 ["places"] (spUnkOf K C) fU fdU) (GLi : D1 P w K mg base "are_within_limits" 4 ["places", "page"] (spWithin C) fLi fdLi) :
    FnOk P w K mg base (L2.CX P w) 10 f fd ["self", "hands", "first", "facts", "page"] (spInitP K G F C cP cH cS cX cF cI) := by
  refine FD.ok (CX := L2.CX P w) scInitP (fun vs H Q E h => ?_) (fun cdv A outer s H vs Q E hr9 h => ?_)
  · obtain ⟨p, dx, hv, fv, cv, gv, H0, rfl, _⟩ := h
    rfl
  · obtain ⟨p, dx, hv, fv, cv, gv, H0, rfl, np0, s0, hp, hin⟩ := h
    have nd := scInitP.nd
    have hr := hr9
    have hr1 : Room 1 _ := hr.mono (by decide)
    have hr2 : Room 2 _ := hr.mono (by decide)
    have hr3 : Room 3 _ := hr.mono (by decide)
    have hr4 : Room 4 _ := hr.mono (by decide)
    have hr5 : Room 5 _ := hr.mono (by decide)
    have hr6 : Room 6 _ := hr.mono (by decide)
    refine ⟨_, (pss_cons (ps_if (PW.pt (pw_or (pt_not (pt_val (pe_call GL.ok hr1 (by rfl) GL.m GL.k GL.b .nil pass0 (pa_cons (pv 1) pa_nil)))) (pw_or1 (pt_not (pt_chain op_le op_le pe_int (pe_callB call_len_seq (by rfl) B.len PySem.boot_len (pa_cons (pv 1) pa_nil)) (pe_glob (v := .int 3) rfl mH ⟨_, rfl⟩)))))) (pss_one (ps_raise rfl (takes_of rfl rfl rfl rfl) (pmk_oex XP.T.ox XP.i XP.t XP.G hr2 XP.b .nil pass0 (by rfl) XP.T.m (pa_cons (pv 1) pa_nil)))) pss_nil)
      (pss_cons (ps_for (passes_of rfl) rfl (pi_seq K (pv 1)) (pg_name (i := 5) nd rfl (Or.inl rfl)) (pss_one (ps_expr (pe_callS GCh hr9 (by rfl) mCh kCh bCh (fun σ => passAt (takes_of rfl rfl rfl rfl) σ) (pa_cons (pv 5) pa_nil)))))
      (pss_cons (ps_set (i := 6) nd rfl (Or.inl rfl) (pe_cmethS (pe_glob (v := .ref C) rfl Z.mgC rfl) O.rd O.met O.ok hr5 O.b (fun σ => passAt (takes_of rfl rfl rfl rfl) σ) (pa_cons (pv 2) pa_nil)))
      (pss_cons (ps_if (PW.pt (pw_and (pt_cmpR op_notN (pv 3) pe_non (by rfl)) (pw_and1 (pt_not (pt_val (pe_callB call_isi (by rfl) D.isi (by decide +kernel) (pa_cons (pv 3) (pa_cons (pe_glob (v := .ref F) rfl TF.mgF rfl) pa_nil)))))))) (pss_one (ps_raise rfl (takes_of rfl rfl rfl rfl) (pmk_oex XF.T.ox XF.i XF.t XF.G hr2 XF.b .nil pass0 (by rfl) XF.T.m (pa_cons (pv 3) pa_nil)))) pss_nil)
      (pss_cons (ps_if (pt_not (pt_val (pe_call GPc.ok hr3 (by rfl) GPc.m GPc.k GPc.b .nil pass0 (pa_cons (pv 4) pa_nil)))) (pss_one (ps_raise rfl (takes_of rfl rfl rfl rfl) (pmk_oex XI.T.ox XI.i XI.t XI.G hr2 XI.b .nil pass0 (by rfl) XI.T.m (pa_cons (pv 4) pa_nil)))) pss_nil)
      (pss_cons (ps_fld (pv 0) (pe_lc (own := [("steps", 9)]) (g := gName 9) (tt := tYes) rfl nd (pi_seq K (pv 1)) (blkOk_by (N := ["self", "hands", "first", "facts", "page", "hand", "start", "placed", "together", "steps", "step", "place"]) (sc := defScope (inClass sProgram 0)) (by decide +kernel)) (fun _ _ _ _ _ => (pg_name (i := 9) nd rfl (Or.inl rfl))) (fun _ _ _ _ _ => pts_nil) (fun _ _ _ _ _ => (pe_lc (own := [("step", 10)]) (g := gName 10) (tt := tYes) rfl nd (pi_seq K (pv 9)) (blkOk_by (N := ["self", "hands", "first", "facts", "page", "hand", "start", "placed", "together", "steps", "step", "place"]) (sc := lcScope (asgValue (stmtAt (inClass sProgram 0) 5))) (by decide +kernel)) (fun _ _ _ _ _ => (pg_name (i := 10) nd rfl (Or.inl rfl))) (fun _ _ _ _ _ => pts_nil) (fun _ _ _ _ _ => (pe_call GPs.ok hr6 (by rfl) GPs.m GPs.k GPs.b .nil pass0 (pa_cons (pv 10) pa_nil)))))) rfl)
      (pss_cons (ps_fld (pv 0) (pv 6) rfl)
      (pss_cons (ps_fld (pv 0) (pe_ifExp (pt_cmpR op_isN (pv 3) pe_non (by rfl)) (pe_makeR0 (E := E0) MF GIF hr9 (by rfl) TF.mgF pass_all) (pv 3)) rfl)
      (pss_cons (ps_fld (pv 0) (pv 4) rfl)
      (pss_cons (ps_setLc2 (i := 7) (own := [("steps", 9), ("step", 10)]) (vs1 := [10]) (g := gName 9) (g1 := gName 10) (tt := tYes) (tt1 := tYes) rfl nd rfl rfl (sw_true rfl rfl rfl (by decide +kernel)) (pi_list (pe_fld (pv 0) rfl)) (blkOk_by (N := ["self", "hands", "first", "facts", "page", "hand", "start", "placed", "together", "steps", "step", "place"]) (sc := defScope (inClass sProgram 0)) (by decide +kernel)) (by decide) (fun _ _ _ _ _ => (pg_name (i := 9) nd rfl (Or.inl rfl))) (fun _ _ _ _ _ => pts_nil) (fun _ _ _ _ _ => pi_listK K (pv 9)) (fun _ _ _ _ _ => (pg_name (i := 10) nd rfl (Or.inl rfl))) (fun _ _ _ _ _ => pts_nil) (fun _ _ _ _ _ => (pv 10)))
      (pss_cons (ps_fld (pv 0) (pe_call GD.ok hr4 (by rfl) GD.m GD.k GD.b .nil pass0 (pa_cons (pe_op op_cat (pe_lst (pa_cons (pv 6) pa_nil)) (pe_lc2 (own := [("step", 10), ("place", 11)]) (vs1 := [11]) (g := gName 10) (g1 := gName 11) (tt := tYes) (tt1 := tYes) rfl nd (pi_list (pv 7)) (blkOk_by (N := ["self", "hands", "first", "facts", "page", "hand", "start", "placed", "together", "steps", "step", "place"]) (sc := defScope (inClass sProgram 0)) (by decide +kernel)) (by decide) (fun _ _ _ _ _ => (pg_name (i := 10) nd rfl (Or.inl rfl))) (fun _ _ _ _ _ => pts_nil) (fun _ _ _ _ _ => pi_listK K (pe_call GPo.ok hr1 (by rfl) GPo.m GPo.k GPo.b .nil pass0 (pa_cons (pv 10) pa_nil))) (fun _ _ _ _ _ => (pg_name (i := 11) nd rfl (Or.inl rfl))) (fun _ _ _ _ _ => pts_nil) (fun _ _ _ _ _ => (pv 11)))) pa_nil)) rfl)
      (pss_cons (ps_set (i := 8) nd rfl (Or.inl rfl) (pe_call GW.ok hr5 (by rfl) GW.m GW.k GW.b .nil pass0 (pa_cons (pe_fld (pv 0) rfl) (pa_cons (pe_fld (pv 0) rfl) pa_nil))))
      (pss_cons (ps_fld (pv 0) (pe_call GU.ok hr3 (by rfl) GU.m GU.k GU.b .nil pass0 (pa_cons (pv 8) pa_nil)) rfl)
      (pss_one (ps_if (pt_not (pt_val (pe_call GLi.ok hr4 (by rfl) GLi.m GLi.k GLi.b .nil pass0 (pa_cons (pv 8) (pa_cons (pv 4) pa_nil))))) (pss_one (ps_raise rfl (takes_of rfl rfl rfl rfl) (pmk_oex XP.T.ox XP.i XP.t XP.G hr2 XP.b .nil pass0 (by rfl) XP.T.m (pa_cons (pv 1) pa_nil)))) pss_nil))))))))))))))), ?_⟩
    have sb : 1000 ≤ sizeLine := by decide
    -- the hands
    rcases hin with ⟨hb, rs⟩ | ⟨a, xs, rfl, ha, g1, g3, ib, hg, hbad, hall⟩
    · rcases hb with hb | ⟨a, xs, rfl, ha, hn⟩
      · exact ⟨_, rfl, hv, false, rfl, hb.same s0, fun H1 s1 => ⟨false, rfl, iteT (iteT (raiseRs rfl (s0.trans s1) rs))⟩⟩
      · refine ⟨_, rfl, .ref a, true, rfl, .inl ⟨rfl, a, xs, rfl, ha.same s0⟩, fun H1 s1 => ⟨true, rfl, iteF ?_⟩⟩
        refine ⟨_, rfl, a, _, rfl, (ha.same (s0.trans s1)).imp SqL.of SqT.of, ?_⟩
        refine ⟨_, _, rfl, rfl, _, rfl, ?_⟩
        rcases hn with hn | hn
        · rw [decide_eq_false (show ¬ (1 : Int) ≤ (xs.length : Int) by omega)]
          exact iteF ⟨_, rfl, iteT (raiseRs rfl (s0.trans s1) rs)⟩
        · rw [decide_eq_true (show (1 : Int) ≤ (xs.length : Int) by omega)]
          refine iteT ⟨_, _, rfl, rfl, _, rfl, ?_⟩
          rw [decide_eq_false (show ¬ (xs.length : Int) ≤ 3 by omega)]
          exact iteT (raiseRs rfl (s0.trans s1) rs)
    refine ⟨_, rfl, .ref a, true, rfl, .inl ⟨rfl, a, xs, rfl, ha.same s0⟩, fun H1 s1 => ⟨true, rfl, iteF ?_⟩⟩
    have s01 := s0.trans s1
    have hp1 := s1 _ _ hp
    refine ⟨_, rfl, a, _, rfl, (ha.same s01).imp SqL.of SqT.of, ?_⟩
    refine ⟨_, _, rfl, rfl, _, rfl, ?_⟩
    rw [decide_eq_true (show (1 : Int) ≤ (xs.length : Int) by omega)]
    refine iteT ⟨_, _, rfl, rfl, _, rfl, ?_⟩
    rw [decide_eq_true (show (xs.length : Int) ≤ 3 by omega)]
    refine iteF ?_
    -- each of them
    refine for_seqA (K := K) (a := a) (xs := xs) rfl (ha.same s01) (fun i σ H' => ∃ v5 : Option V, σ = [some (.ref p), some (.ref a), some fv, some cv, some gv, v5, none, none, none, none, none, none] ∧ Same H1 H' ∧ i ≤ ib) ⟨none, rfl, Same.refl H1, Nat.zero_le _⟩ (fun i σ' H' h o e => by obtain ⟨_, _, k, _⟩ := h; exact k _ _ e) ?_ ?_
    · rintro i x σ' G2 hx ⟨v5, rfl, s2, hi⟩
      generalize hDE : ({ nx := _, rt := _, bk := _, ct := _ } : Ends) = DE
      have enx : ∀ σ' H', (∃ v5 : Option V, σ' = [some (.ref p), some (.ref a), some fv, some cv, some gv, v5, none, none, none, none, none, none] ∧ Same H1 H' ∧ i + 1 ≤ ib) → DE.nx σ' H' := fun σ' H' h => by
        rw [← hDE]
        exact h
      clear hDE
      rcases Nat.lt_or_ge i ib with lt | ge
      · obtain ⟨r, ss, hr0, g, k1, k2⟩ := hg i lt
        rw [hx] at hr0
        cases hr0
        exact ⟨_, rfl, .ref r, rfl, .inl ⟨r, ss, rfl, g.same (s01.trans s2), k1, k2, fun H2 s3 => enx _ _ ⟨_, rfl, s2.trans s3, lt⟩⟩⟩
      · have ei : i = ib := by omega
        subst ei
        obtain ⟨c, u, hb, rs⟩ := hbad x hx
        exact ⟨_, rfl, x, rfl, .inr ⟨c, u, hb.same (s01.trans s2), rs.same (s01.trans s2)⟩⟩
    rintro σ' G1 ⟨v5, rfl, s2, hi⟩
    obtain ⟨as, hs, rfl, hd, hl, hf⟩ := hall (List.getElem?_eq_none hi)
    have la := hd.length
    rw [List.length_map, la] at g1 g3
    clear hall hbad hg hi
    have s02 := s01.trans s2
    have hp2 := s2 _ _ hp1
    clear hp1 s01 s2
    -- the size at the beginning
    refine ⟨rfl, _, rfl, ?_⟩
    dsimp only [tNil]
    rcases hf with ⟨np, hof, rs⟩ | ⟨z, k, hfv, gz, hc⟩
    · exact ⟨fv, rfl, .inr ⟨NoPl.same s02 np, fun z k e => absurd (hof.symm.trans e) (fun x => by cases x), fun _ => rs.same s02⟩⟩
    refine of_pv6 (hfv.same s02) fun st G2 s3 hst => ?_
    have s03 := s02.trans s3
    have hp3 := s3 _ _ hp2
    clear hp2 s02 s3
    -- facts and the page size
    generalize hT : tSeq (tIfS (tNot (tB (tCall (spChoice _) _ _ _))) _ _) _ = TR
    have rest : ∀ rws, ((cv = .non ∧ rws = []) ∨ ∃ f, cv = .ref f ∧ Fac F C H0 f rws) → RsPage K G F C cP cI H0 Q E p (.ref a) cv gv hs z k rws → TR { nx := fun x H' => Q V.non H', rt := Q } [some (.ref p), some (.ref a), some fv, some cv, some gv, v5, some (.ref st), none, none, none, none, none] G2 := by
      intro rws hcv hpage
      rw [← hT]
      clear hT
      rcases hpage with ⟨ne, hk, hb, rs⟩ | ⟨pg, hgv, hgp, l60, hlim⟩
      · exact ⟨_, rfl, gv, rfl, .inr ⟨ne, hk.at (fun _ _ o e => s03 _ o e), hb, fun G5 s5 => ⟨false, rfl, iteT (raiseRs rfl (s03.trans s5) rs)⟩⟩⟩
      refine ⟨_, rfl, gv, rfl, .inl ⟨pg, hgv, hgp, fun G5 s5 => ⟨true, rfl, iteF ?_⟩⟩⟩
      have s05 := s03.trans s5
      have hp5 := s5 _ _ hp3
      have hst := Kc.pl (Same.kc (G := G) s5) neC hst
      clear s5 s03 hp3
      -- the steps, placed
      dsimp only [tNext, tSeq, sFld]
      refine lc_seqA (K := K) (a := a) (xs := as.map V.ref) rfl (ha.same s05) (fun D i H' => (∀ q o, q ≠ D → G5 q = some o → H' q = some o) ∧ ∃ bs : List Addr, H' D = some (.lst (bs.map V.ref)) ∧ Lk (fun b ss => H0 b = none ∧ b ≠ D ∧ HdP C H' b ss) bs (hs.take i))
        (fun D nD => ⟨fun q o n e => by rw [upd_ne n]; exact e, [], upd_same, by rw [List.take_zero]; exact .nil⟩) (fun D i H' nD h o e => h.1 _ _ (ne_of_none e nD) e) ?_ ?_
      · rintro D nD i x G6 hi ⟨keep, bs, hD, hb⟩ hx
        rw [List.getElem?_map] at hx
        obtain ⟨r, hr0, rfl⟩ := Option.map_eq_some_iff.mp hx
        obtain ⟨ss, hss, cs, hc, hcl⟩ := hd.get hr0
        have li : i < hs.length := (List.getElem?_eq_some_iff.mp hss).1
        have s06 : Same H0 G6 := fun q o e => keep q o (ne_of_none (s05 _ _ e) nD) (s05 _ _ e)
        have lc := hcl.length
        have l12 := (hl ss (List.mem_of_getElem? hss)).1
        have lb := hb.length
        rw [List.length_take] at lb
        refine ⟨rfl, yesT ?_⟩
        refine lc_seqA (K := K) (a := r) (xs := cs.map V.ref) rfl (hc.same s06) (fun D2 j H' => (∀ q o, q ≠ D2 → G6 q = some o → H' q = some o) ∧ ∃ ts : List Addr, H' D2 = some (.lst (ts.map V.ref)) ∧ Lk (StP C H') ts (ss.take j))
          (fun D2 nD2 => ⟨fun q o n e => by rw [upd_ne n]; exact e, [], upd_same, by rw [List.take_zero]; exact .nil⟩) (fun D2 j H' nD2 h o e => h.1 _ _ (ne_of_none e nD2) e) ?_ ?_
        · rintro D2 nD2 j x G7 hj ⟨keep2, ts, hD2, ht⟩ hx
          rw [List.getElem?_map] at hx
          obtain ⟨c, hc0, rfl⟩ := Option.map_eq_some_iff.mp hx
          obtain ⟨d, hd0, hg⟩ := hcl.get hc0
          have lj : j < ss.length := (List.getElem?_eq_some_iff.mp hd0).1
          have s07 : Same H0 G7 := fun q o e => keep2 q o (ne_of_none (s06 _ _ e) nD2) (s06 _ _ e)
          have lt := ht.length
          rw [List.length_take] at lt
          refine ⟨rfl, yesT ?_⟩
          refine ⟨_, rfl, c, d, rfl, hg.same s07, fun t G8 s8 n8 hstp => ?_⟩
          have hD8 := s8 _ _ hD2
          refine ⟨_, hD8, by rw [List.length_map]; omega, fun q o n e => by rw [upd_ne n]; exact s8 _ _ (keep2 q o n e), ts ++ [t], by rw [upd_same, List.map_append]; rfl, ?_⟩
          rw [List.take_succ, hd0]
          exact (ht.imp fun _ _ x => (x.same s8).upd hD8).append (Lk.one (hstp.upd hD8))
        · rintro D2 G7 nD2 ⟨keep2, ts, hD2, ht⟩
          rw [List.length_map, List.take_of_length_le (by omega)] at ht
          have s67 : Same G6 G7 := fun q o e => keep2 q o (ne_of_none e nD2) e
          have hD7 := s67 _ _ hD
          have D2D : D2 ≠ D := (ne_of_none hD nD2).symm
          refine ⟨_, hD7, by rw [List.length_map]; omega, fun q o n e => by rw [upd_ne n]; exact s67 _ _ (keep q o n e), bs ++ [D2], by rw [upd_same, List.map_append]; rfl, ?_⟩
          rw [List.take_succ, hss]
          exact (hb.imp fun _ _ x => ⟨x.1, x.2.1, (x.2.2.same s67).upd hD7 x.2.1⟩).append (Lk.one ⟨s06.free nD2, D2D, HdP.upd hD7 D2D ⟨ts, hD2, ht⟩⟩)
      rintro hl1 G6 nhl ⟨keep, bs, hD, hb⟩
      rw [List.length_map, List.take_of_length_le (by omega)] at hb
      have s56 : Same G5 G6 := fun q o e => keep q o (ne_of_none e nhl) e
      have s06 := s05.trans s56
      have hp6 := s56 _ _ hp5
      have hst := Kc.pl (Same.kc (G := G) s56) neC hst
      have fb : ∀ b ∈ bs, H0 b = none := fun b h => by
        obtain ⟨_, _, x⟩ := hb.memL h
        exact x.1
      have fhl : H0 hl1 = none := s05.free nhl
      have hb : Lk (HdP C G6) bs hs := hb.imp fun _ _ x => x.2.2
      clear keep nhl s56 s05 hp5
      -- the first fields
      refine ⟨_, rfl, p, G, dx, [], rfl, hp6, TP.cl, TP.nH, (by show 0 < 1000; decide), ?_⟩
      refine ⟨_, rfl, _, rfl, p, G, dx, _, rfl, upd_same, TP.cl, TP.nF, (by show 1 < 1000; decide), ?_⟩
      rw [upd_upd]
      have k7 : Kc G G6 (upd G6 p (.ins G dx (prF2 hl1 st))) := Kc.put hp6
      have hp7 : upd G6 p (.ins G dx (prF2 hl1 st)) p = some (.ins G dx (prF2 hl1 st)) := upd_same
      have s07 : Same H0 (upd G6 p (.ins G dx (prF2 hl1 st))) := fun q o e => by
        rw [upd_ne (ne_of_none e np0)]
        exact s06 _ _ e
      generalize hG7 : upd G6 p _ = G7
      rw [show upd G6 p (.ins G dx (prF2 hl1 st)) = G7 from hG7] at k7 hp7 s07
      clear hG7
      have hD7 := k7 hl1 _ (fun _ _ e => by cases e) hD
      have hb7 : Lk (HdP C G7) bs hs := hb.imp fun _ _ x => k7.hd neC x
      have hst7 := k7.pl neC hst
      clear k7 hD hb hst hp6 s06
      refine facts_of rfl (hcv.imp (fun h => h) fun ⟨f2, e, hf⟩ => ⟨f2, e, hf.same s07⟩) fun fa G8 s8 hfa fan => ?_
      refine ⟨_, rfl, p, G, dx, _, rfl, s8 _ _ hp7, TP.cl, TP.nC, (by show 2 < 1000; decide), ?_⟩
      refine ⟨_, rfl, _, rfl, p, G, dx, _, rfl, upd_same, TP.cl, TP.nP, (by show 3 < 1000; decide), ?_⟩
      rw [upd_upd]
      have hp8 := s8 _ _ hp7
      have k9 : Kc G G8 (upd G8 p (.ins G dx (prF4 hl1 st fa gv))) := Kc.put hp8
      have hp9 : upd G8 p (.ins G dx (prF4 hl1 st fa gv)) p = some (.ins G dx (prF4 hl1 st fa gv)) := upd_same
      have s09 : Same H0 (upd G8 p (.ins G dx (prF4 hl1 st fa gv))) := fun q o e => by
        rw [upd_ne (ne_of_none e np0)]
        exact s8 _ _ (s07 _ _ e)
      generalize hG9 : upd G8 p _ = G9
      rw [show upd G8 p (.ins G dx (prF4 hl1 st fa gv)) = G9 from hG9] at k9 hp9 s09
      clear hG9
      have hD9 := k9 hl1 _ (fun _ _ e => by cases e) (s8 _ _ hD7)
      have hb9 : Lk (HdP C G9) bs hs := hb7.imp fun _ _ x => k9.hd neC (x.same s8)
      have hst9 := k9.pl neC (Kc.pl (Same.kc (G := G) s8) neC hst7)
      have hfa9 := k9.fac neC neF hfa
      have fan9 := fan.imp_right fun x => Kc.facN k9 neC neF (x.old s07)
      clear k9 hp8 hD7 hb7 hst7 hp7 s8 s07 hfa
      -- all steps
      refine ⟨_, rfl, p, G, dx, _, _, rfl, hp9, TP.cl, TP.nH, pr_hands, hl1, rfl, ⟨_, SqL.of hD9⟩, fun D nD => ?_⟩
      have lb9 := hb9.length
      refine lc2_out (walk_list (xs := bs.map V.ref)) (fun i H' => (∀ q o, q ≠ D → G9 q = some o → H' q = some o) ∧ ∃ ts : List Addr, H' D = some (.lst (ts.map V.ref)) ∧ Lk (StP C H') ts (stepsOf (hs.take i)))
        ⟨fun q o n e => by rw [upd_ne n]; exact e, [], upd_same, by rw [List.take_zero]; exact .nil⟩ (fun i H' _ h => SqL.of (h.1 _ _ (ne_of_none hD9 nD) hD9)) ?_ ?_
      · rintro i x G10 G11 hi ⟨keep, ts, hD, ht⟩ ⟨rfl, hx⟩
        rw [List.getElem?_map] at hx
        obtain ⟨b, hb0, rfl⟩ := Option.map_eq_some_iff.mp hx
        obtain ⟨ss, hss, cs, hc, hcl⟩ := hb9.get hb0
        have li : i < hs.length := (List.getElem?_eq_some_iff.mp hss).1
        have l12 := (hl ss (List.mem_of_getElem? hss)).1
        have lt := ht.length
        have lst := steps_take hs i fun x hx => (hl x hx).1
        have hc11 := keep b _ (ne_of_none hc nD) hc
        have lc := hcl.length
        refine ⟨rfl, yesT ?_⟩
        refine ⟨_, rfl, b, rfl, ⟨_, SqL.of hc11⟩, ?_⟩
        refine lc2_in (walk_list (xs := cs.map V.ref)) (fun j H' => (∀ q o, q ≠ D → G11 q = some o → H' q = some o) ∧ ∃ ts : List Addr, H' D = some (.lst (ts.map V.ref)) ∧ Lk (StP C H') ts (stepsOf (hs.take i) ++ ss.take j))
          ⟨fun q o n e => e, ts, hD, by rw [List.take_zero, List.append_nil]; exact ht⟩ (fun j H' _ h => SqL.of (h.1 _ _ (ne_of_none hc nD) hc11)) ?_ ?_
        · rintro j y H4 H5 hj ⟨keep4, ts4, hD4, ht4⟩ ⟨rfl, hy⟩
          rw [List.getElem?_map] at hy
          obtain ⟨c, hc2, rfl⟩ := Option.map_eq_some_iff.mp hy
          obtain ⟨d, hd0, hstp⟩ := hcl.get hc2
          have lj : j < ss.length := (List.getElem?_eq_some_iff.mp hd0).1
          have l4 := ht4.length
          rw [List.length_append, List.length_take] at l4
          have s95 : Same G9 H5 := fun q o e => keep4 q o (ne_of_none e nD) (keep q o (ne_of_none e nD) e)
          refine ⟨rfl, yesT ?_⟩
          refine ⟨_, rfl, _, hD4, by rw [List.length_map]; omega, fun q o n e => by rw [upd_ne n]; exact keep4 q o n e, ts4 ++ [c], by rw [upd_same, List.map_append]; rfl, ?_⟩
          rw [List.take_succ, hd0, ← List.append_assoc]
          exact (ht4.imp fun _ _ x => x.upd hD4).append (Lk.one ((hstp.same s95).upd hD4))
        · rintro H4 ⟨keep4, ts4, hD4, ht4⟩
          rw [List.length_map, lc, List.take_length] at ht4
          exact ⟨fun q o n e => keep4 q o n (keep q o n e), ts4, hD4, by rw [steps_snoc hss]; exact ht4⟩
      rintro G10 ⟨keep, ts, hD, ht⟩
      rw [List.length_map, List.take_of_length_le (by omega)] at ht
      have s910 : Same G9 G10 := fun q o e => keep q o (ne_of_none e nD) e
      have s010 := s09.trans s910
      have hp10 := s910 _ _ hp9
      have hD10 := s910 _ _ hD9
      have hb10 : Lk (HdP C G10) bs hs := hb9.imp fun _ _ x => x.same s910
      have hst10 := Kc.pl (Same.kc (G := G) s910) neC hst9
      have hfa10 := hfa9.same s910
      have fan10 := fan9.imp_right fun x => Kc.facN (Same.kc (G := G) s910) neC neF x
      have lts := ht.length
      have l36 : (stepsOf hs).length ≤ 36 := Nat.le_trans (steps_len hs fun x hx => (hl x hx).1) (by omega)
      have sok : ∀ d ∈ stepsOf hs, StOk d := fun d hd => by
        obtain ⟨_, _, _, _, _, ok⟩ := ht.memR hd
        exact ok
      have gok : ∀ pp ∈ plcsAll (stepsOf hs), Good pp.1 pp.2 := fun pp hpp => by
        obtain ⟨d, hd, hp2⟩ := List.mem_flatMap.mp hpp
        obtain ⟨_, _, hs2⟩ := ht.memR hd
        exact stp_good hs2 pp hp2
      have three : ∀ n, (plcsAll ((stepsOf hs).take n)).length ≤ 3 * n := fun n => Nat.le_trans (all_three _ fun d hd => sok d (List.mem_of_mem_take hd)) (by rw [List.length_take]; omega)
      clear keep nD hD9 hb9 hst9 hfa9 hp9 s09 s910
      -- the places
      refine ⟨_, rfl, (by show 1 ≤ sizeLine; omega), fun l1 nl1 => ?_⟩
      have s11 : Same G10 (upd G10 l1 (.lst [.ref st])) := same_nw nl1
      have t11 : upd G10 l1 (.lst [.ref st]) l1 = some (.lst [.ref st]) := upd_same
      generalize upd G10 l1 (.lst [.ref st]) = G11 at s11 t11
      refine ⟨_, rfl, D, rfl, ⟨_, SqL.of (s11 _ _ hD)⟩, fun D2 nD2 => ?_⟩
      have hD11 := s11 _ _ hD
      have ht11 : Lk (StP C G11) ts (stepsOf hs) := ht.imp fun _ _ x => x.same s11
      refine lc2_out (walk_list (xs := ts.map V.ref)) (fun i H' => (∀ q o, q ≠ D2 → G11 q = some o → H' q = some o) ∧ ∃ qs : List Addr, H' D2 = some (.lst (qs.map V.ref)) ∧ Lk (PlR C H') qs (plcsAll ((stepsOf hs).take i)))
        ⟨fun q o n e => by rw [upd_ne n]; exact e, [], upd_same, by rw [List.take_zero]; exact .nil⟩ (fun i H' _ h => SqL.of (h.1 _ _ (ne_of_none hD11 nD2) hD11)) ?_ ?_
      · rintro i x H2 H3 hi ⟨keep, qs, hD2, hq⟩ ⟨rfl, hx⟩
        rw [List.getElem?_map] at hx
        obtain ⟨c, hc0, rfl⟩ := Option.map_eq_some_iff.mp hx
        obtain ⟨d, hd0, hstp⟩ := ht11.get hc0
        have li : i < (stepsOf hs).length := (List.getElem?_eq_some_iff.mp hd0).1
        have s113 : Same G11 H3 := fun q o e => keep q o (ne_of_none e nD2) e
        have lq := hq.length
        have t3 := three i
        have d3 := stp_three (sok d (List.mem_of_getElem? hd0))
        refine ⟨rfl, yesT ?_⟩
        refine ⟨_, rfl, c, d, rfl, hstp.same s113, fun yl ys H4 s4 n4 t4 hy4 => ?_⟩
        have hD4 := s4 _ _ hD2
        have ylD : yl ≠ D2 := (ne_of_none hD2 n4).symm
        refine ⟨yl, rfl, ⟨_, SqL.of t4⟩, ?_⟩
        have ly := hy4.length
        refine lc2_in (walk_list (xs := ys.map V.ref)) (fun j H' => (∀ q o, q ≠ D2 → H4 q = some o → H' q = some o) ∧ ∃ qs : List Addr, H' D2 = some (.lst (qs.map V.ref)) ∧ Lk (PlR C H') qs (plcsAll ((stepsOf hs).take i) ++ (plcs d.2).take j))
          ⟨fun q o n e => e, qs, hD4, by rw [List.take_zero, List.append_nil]; exact hq.imp fun _ _ ⟨dx, x⟩ => ⟨dx, s4 _ _ x⟩⟩ (fun j H' _ h => SqL.of (h.1 _ _ ylD t4)) ?_ ?_
        · rintro j y H5 H6 hj ⟨keep5, qs5, hD5, hq5⟩ ⟨rfl, hy⟩
          rw [List.getElem?_map] at hy
          obtain ⟨e2, he2, rfl⟩ := Option.map_eq_some_iff.mp hy
          obtain ⟨pp, hpp, dx5, pr⟩ := hy4.get he2
          have l5 := hq5.length
          rw [List.length_append, List.length_take] at l5
          have eD : e2 ≠ D2 := fun e => by
            rw [e, hD4] at pr
            cases pr
          refine ⟨rfl, yesT ?_⟩
          refine ⟨_, rfl, _, hD5, by rw [List.length_map]; omega, fun q o n e => by rw [upd_ne n]; exact keep5 q o n e, qs5 ++ [e2], by rw [upd_same, List.map_append]; rfl, ?_⟩
          rw [List.take_succ, hpp, ← List.append_assoc]
          exact (hq5.imp fun _ _ x => PlR.upd hD5 x).append (Lk.one (PlR.upd hD5 ⟨dx5, keep5 _ _ eD pr⟩))
        · rintro H5 ⟨keep5, qs5, hD5, hq5⟩
          rw [List.length_map, ly, List.take_length] at hq5
          exact ⟨fun q o n e => keep5 q o n (s4 _ _ (keep q o n e)), qs5, hD5, by rw [plcs_snoc hd0]; exact hq5⟩
      rintro G12 ⟨keep, qs, hD2, hq⟩
      rw [List.length_map, List.take_of_length_le (by omega)] at hq
      have s1112 : Same G11 G12 := fun q o e => keep q o (ne_of_none e nD2) e
      have s1012 := s11.trans s1112
      have t12 := s1112 _ _ t11
      have lq := hq.length
      have l108 : (plcsAll (stepsOf hs)).length ≤ 3 * (stepsOf hs).length := all_three _ sok
      refine ⟨_, _, _, _, rfl, rfl, t12, hD2, (by rw [List.length_map]; show 1 + _ ≤ _; omega), fun l3 nl3 => ?_⟩
      have s13 : Same G12 (upd G12 l3 (.lst ([.ref st] ++ qs.map V.ref))) := same_nw nl3
      have t13 : upd G12 l3 (.lst ([.ref st] ++ qs.map V.ref)) l3 = some (.lst ((st :: qs).map V.ref)) := by
        rw [upd_same]
        rfl
      generalize upd G12 l3 (.lst ([.ref st] ++ qs.map V.ref)) = G13 at s13 t13
      have s1013 := s1012.trans s13
      dsimp only [tNil, List.append_nil]
      have gall : ∀ pp ∈ (z, k) :: plcsAll (stepsOf hs), Good pp.1 pp.2 := fun pp hpp => by
        rcases List.mem_cons.mp hpp with rfl | h
        · exact gz
        · exact gok pp h
      refine ⟨l3, st :: qs, (z, k) :: plcsAll (stepsOf hs), rfl, t13, .cons (Kc.pl (Same.kc (G := G) s1013) neC hst10) (hq.imp fun _ _ ⟨dx, x⟩ => ⟨dx, s13 _ _ x⟩), gall, (by rw [List.length_cons]; omega), fun pl rs G14 s14 n14 t14 hrs => ?_⟩
      have hrs : Lk (PlR C G14) rs (prPl z k hs) := hrs
      have s1014 := s1013.trans s14
      have fpl : H0 pl = none := (s010.trans s1013).free n14
      have hp14 := s1014 _ _ hp10
      clear s13 t13 nl3 t12 s1112 s1012 t11 nl1 s11 hD2 nD2 keep hq ht11 hD11 s1013 s14 n14
      refine ⟨_, rfl, p, G, dx, _, rfl, hp14, TP.cl, TP.nL, (by show 4 < 1000; decide), ?_⟩
      have k15 : Kc G G10 (upd G14 p (.ins G dx (prF5 hl1 st fa gv pl))) := Kc.trans (Same.kc s1014) (Kc.put hp14)
      have k15b : Kc G G14 (upd G14 p (.ins G dx (prF5 hl1 st fa gv pl))) := Kc.put hp14
      have hp15 : upd G14 p (.ins G dx (prF5 hl1 st fa gv pl)) p = some (.ins G dx (prF5 hl1 st fa gv pl)) := upd_same
      have s015 : Same H0 (upd G14 p (.ins G dx (prF5 hl1 st fa gv pl))) := fun q o e => by
        rw [upd_ne (ne_of_none e np0)]
        exact s1014 _ _ (s010 _ _ e)
      generalize hG15 : upd G14 p _ = G15
      rw [show upd G14 p (.ins G dx (prF5 hl1 st fa gv pl)) = G15 from hG15] at k15 k15b hp15 s015
      clear hG15
      have t15 := k15b pl _ (fun _ _ e => by cases e) t14
      have hrs15 : Lk (PlR C G15) rs (prPl z k hs) := hrs.imp fun _ _ x => Kc.pl k15b neC x
      have hfa15 := k15.fac neC neF hfa10
      -- with those of the facts
      refine ⟨_, rfl, p, G, dx, _, _, rfl, hp15, TP.cl, TP.nL, pr5_places, _, rfl, p, G, dx, _, _, rfl, hp15, TP.cl, TP.nC, pr5_facts, pl, fa, rs, prPl z k hs, rws, rfl, t15, hrs15, fun pp hpp => gall pp (firsts_sub hpp), ?_, hfa15, fun tg rs2 G16 s16 n16 t16 hrs2 => ?_⟩
      · have h := firsts_len ((z, k) :: plcsAll (stepsOf hs)) ((z, k) :: plcsAll (stepsOf hs)).length
        rw [List.take_length, List.length_cons] at h
        show (firsts ((z, k) :: plcsAll (stepsOf hs))).length ≤ 150
        omega
      have hrs2 : Lk (PlR C G16) rs2 (prAll z k hs rws) := hrs2
      refine ⟨_, rfl, tg, rs2, prAll z k hs rws, rfl, SqL.of t16, hrs2, l60, fun ul ys G17 s17 n17 t17 unk => ?_⟩
      have s1517 := s16.trans s17
      have ful : H0 ul = none := (s015.trans s16).free n17
      have hp17 := s1517 _ _ hp15
      refine ⟨_, rfl, p, G, dx, _, rfl, hp17, TP.cl, TP.nU, (by show 5 < 1000; decide), ?_⟩
      have k18 : Kc G G10 (upd G17 p (.ins G dx (prF hl1 st fa gv pl ul))) := Kc.trans k15 (Kc.trans (Same.kc s1517) (Kc.put hp17))
      have k18b : Kc G G17 (upd G17 p (.ins G dx (prF hl1 st fa gv pl ul))) := Kc.put hp17
      have hp18 : upd G17 p (.ins G dx (prF hl1 st fa gv pl ul)) p = some (.ins G dx (prF hl1 st fa gv pl ul)) := upd_same
      have s018 : Same H0 (upd G17 p (.ins G dx (prF hl1 st fa gv pl ul))) := fun q o e => by
        rw [upd_ne (ne_of_none e np0)]
        exact s1517 _ _ (s015 _ _ e)
      generalize hG18 : upd G17 p _ = G18
      rw [show upd G17 p (.ins G dx (prF hl1 st fa gv pl ul)) = G18 from hG18] at k18 k18b hp18 s018
      clear hG18
      have t18 := k18b tg _ (fun _ _ e => by cases e) (s17 _ _ t16)
      have hrs18 : Lk (PlR C G18) rs2 (prAll z k hs rws) := hrs2.imp fun _ _ ⟨dx, x⟩ => Kc.pl k18b neC ⟨dx, s17 _ _ x⟩
      refine ⟨_, rfl, _, rfl, tg, rs2, prAll z k hs rws, gv, pg, rfl, t18, hrs18, l60, hgv, ?_⟩
      rcases hlim with ⟨hbad, rs⟩ | ⟨l14, lu, q⟩
      · exact .inr ⟨hbad, fun G19 s19 => ⟨false, rfl, iteT (raiseRs rfl (s018.trans s19) rs)⟩⟩
      refine .inl ⟨l14, lu, fun G19 s19 => ⟨true, rfl, iteF ?_⟩⟩
      have k19 : Kc G G10 G19 := k18.trans (Same.kc s19)
      have k19b : Kc G G15 G19 := (Same.kc (G := G) s1517).trans (k18b.trans (Same.kc s19))
      have k19c : Kc G G17 G19 := k18b.trans (Same.kc s19)
      exact q G19 (s018.trans s19) ⟨dx, hl1, st, fa, pl, ul, bs, rs, ys, s19 _ _ hp18, k19 hl1 _ (fun _ _ e => by cases e) hD10, hb10.imp fun _ _ x => k19.hd neC x, k19.pl neC hst10, k19.fac neC neF hfa10,
        k19b pl _ (fun _ _ e => by cases e) t15, hrs15.imp fun _ _ x => Kc.pl k19b neC x, k19c ul _ (fun _ _ e => by cases e) t17, unk, fhl, fb, fpl, ful, fan10.imp_right fun x => k19.facN neC neF x⟩
    rcases hc with ⟨ne, ⟨ty, hty, hk⟩, rs⟩ | ⟨rws, hcv, hpage⟩
    · refine ⟨_, rfl, rfl, _, rfl, ?_⟩
      rw [decide_eq_false ne]
      exact iteT ⟨_, rfl, cv, .ref F, ty, .ref F, false, rfl, .own F, ty_at (fun _ _ o e => s03 _ o e) hty, hk, false, rfl, iteT (raiseRs rfl s03 rs)⟩
    have rest := rest rws hcv hpage
    rcases hcv with ⟨rfl, rfl⟩ | ⟨f2, rfl, hf⟩
    · refine ⟨_, rfl, rfl, _, rfl, ?_⟩
      exact iteF rest
    · refine ⟨_, rfl, rfl, _, rfl, ?_⟩
      have hf3 := hf.same s03
      obtain ⟨dxf, rlf, ulf, _, _, i1, _⟩ := id hf3
      refine iteT ⟨_, rfl, .ref f2, .ref F, .ref F, .ref F, true, rfl, .own F, .base (.ins i1 YF.cl YF.ha YF.hn YF.htk YF.hm), kit_self, true, rfl, iteF rest⟩

end
end Mz
set_option Elab.async false
set_option linter.all false
set_option maxRecDepth 100000
set_option maxHeartbeats 4000000
/-! == of lists and tuples whose items may have an own ==, whichever way it goes -/
namespace Mz
open PySem PySem.Spec PyProof.Rows L2
open PySem.SeqAt
open AutoSeq1 (wpAny_loadPart')
open MeetsSeq MeetsSeq2 MeetsSeq3 SeqRoads2
open GQ (FinOf call_here)
section
variable {prog : Program} {w : World} {A : Around} {R : Result → Shared → Prop}
/-- at each moment of the loop the two lists are as they were, and an item is compared so -/
def ListB (prog : Program) (w : World) (A : Around) (E : Value → Shared → Prop) (l b : Addr) (N : Nat) (e : Nat → Bool) (I : Shared → Prop) : Prop :=
  ∀ s, I s → ∃ (items items2 : Array Value) (n n2 : Nat), s.heap.get? l = some { cls := .type "list", data := .seq items n } ∧ s.heap.get? b = some { cls := .type "list", data := .seq items2 n2 } ∧ items.size = N ∧ items2.size = N ∧
    ∀ i (h1 : i < items.size) (h2 : i < items2.size), wpAny (model prog w) A.in1 (eqBool items[i] items2[i]) (fun r s' => r = e i ∧ I s') E s
theorem all_of {N : Nat} {e : Nat → Bool} (h : ∀ j, j < N → e j = true) : (List.range N).all e = true := by
  rw [List.all_eq_true]
  exact fun j hj => h j (List.mem_range.mp hj)
theorem not_all {N i : Nat} {e : Nat → Bool} (hi : i < N) (h : e i = false) : (List.range N).all e = false := by
  rw [List.all_eq_false]
  exact ⟨i, List.mem_range.mpr hi, by rw [h]; decide⟩
theorem eq_loopB (l b : Addr) (N : Nat) (e : Nat → Bool) (I : Shared → Prop) (hl : ListB prog w A (fun e s' => R (.error e) s') l b N e I)
    (fin : ∀ s, I s → R (.ok (.ret (.bool ((List.range N).all e)))) s) (k : Nat) :
    ∀ i : Nat, N - i = k → i ≤ N → (∀ j, j < i → e j = true) → ∀ s, I s →
      wpAny (model prog w) A.in1 (Builtin.«list.__eq__.loop» ⟨[.ref l, .ref b, rawInt i, rawInt 2], []⟩) (FinOf prog w A R) (fun e s' => R (.error e) s') s := by
  induction k with
  | zero =>
    intro i hk hi hj s h
    obtain ⟨items, items2, n, n2, hl1, hb1, hs1, hs2, _⟩ := hl _ h
    have hi' : i = N := by omega
    have hR := fin s h
    rw [all_of (hi' ▸ hj)] at hR
    obtain ⟨hp, g, d, tk, os⟩ := s
    wp_walk using wpAny_loadPart' hl1, wpAny_loadPart' hb1
    have hi1 : items[((i : Nat) : Int).toNat]? = none := by simp; omega
    have hi2 : items2[((i : Nat) : Int).toNat]? = none := by simp; omega
    rw [hi1, hi2]
    wp_walk using wpAny_loadPart' hl1, wpAny_loadPart' hb1
    show R (.ok (.ret (.bool (items.size == items2.size)))) _
    rw [hs1, hs2]
    simpa using hR
  | succ k ih =>
    intro i hk hi hj s h
    obtain ⟨items, items2, n, n2, hl1, hb1, hs1, hs2, turn⟩ := hl _ h
    have hlt : i < items.size := by omega
    have hlt2 : i < items2.size := by omega
    have ht := turn i hlt hlt2
    obtain ⟨hp, g, d, tk, os⟩ := s
    wp_walk using wpAny_loadPart' hl1, wpAny_loadPart' hb1
    have hi1 : items[((i : Nat) : Int).toNat]? = some items[i] := by simp [hlt]
    have hi2 : items2[((i : Nat) : Int).toNat]? = some items2[i] := by simp [hlt2]
    have hc : ((i : Int) + 1) = ((i + 1 : Nat) : Int) := by omega
    rw [hi1, hi2]
    refine wpAny_bind (wpAny_mono ht (fun r s2 h2 => ?_) fun _ _ x => x)
    obtain ⟨hr, h2⟩ := h2
    cases he : e i with
    | true =>
      rw [he] at hr
      subst hr
      have hrec := ih (i + 1) (by omega) (by omega) (fun j hj' => by
        rcases Nat.lt_or_ge j i with lt | ge
        · exact hj j lt
        · rw [show j = i by omega]; exact he) s2 h2
      obtain ⟨hp2, g2, d2, tk2, os2⟩ := s2
      wp_walk
      rw [hc]
      exact ⟨plainId_quiet plain_eq_loop _, codeAny_builtin entry_eq_loop (by
        rw [Around.under_plainId plain_eq_loop _]
        exact hrec)⟩
    | false =>
      rw [he] at hr
      subst hr
      have hR := fin s2 h2
      rw [not_all (by omega) he] at hR
      obtain ⟨items3, items4, n3, n4, hl3, hb3, hs3, hs4, _⟩ := hl _ h2
      obtain ⟨hp2, g2, d2, tk2, os2⟩ := s2
      wp_walk using wpAny_loadPart' hl3, wpAny_loadPart' hb3
      have hi3 : items3[((i : Nat) : Int).toNat]? = some (items3[i]'(by omega)) := by simp [show i < items3.size by omega]
      have hi4 : items4[((i : Nat) : Int).toNat]? = some (items4[i]'(by omega)) := by simp [show i < items4.size by omega]
      rw [hi3, hi4]
      wp_walk using wpAny_loadPart' hl3, wpAny_loadPart' hb3
      exact hR
theorem list_eqB (l b : Addr) (N : Nat) (e : Nat → Bool) (I : Shared → Prop) (hl : ListB prog w A (fun e s' => R (.error e) s') l b N e I)
    (fin : ∀ s, I s → R (.ok (.ret (.bool ((List.range N).all e)))) s) {s : Shared} (h : I s) :
    wpAny (model prog w) A.in1 (Builtin.«list.__eq__» ⟨[.ref l, .ref b], []⟩) (FinOf prog w A R) (fun e s' => R (.error e) s') s := by
  obtain ⟨items, items2, n, n2, hl1, hb1, hs1, hs2, _⟩ := hl _ h
  have hrec := eq_loopB (A := A) (R := R) l b N e I hl fin _ 0 rfl (Nat.zero_le _) (fun _ h => absurd h (Nat.not_lt_zero _)) s h
  obtain ⟨hp, g, d, tk, os⟩ := s
  have f3 := AutoSeq1.sub_list_list
  have hne : ¬ (items.size != items2.size) = true := by simp [hs1, hs2]
  wp_walk using wpAny_loadPart' hl1, wpAny_loadPart' hb1
  exact ⟨plainId_quiet plain_eq_loop _, codeAny_builtin entry_eq_loop (by
    rw [Around.under_plainId plain_eq_loop _]
    exact hrec)⟩
theorem tuple_eqB (l b : Addr) (items items2 : Array Value) (n n2 : Nat) (dd dd2 : Option Addr) (sl sl2 : Array (Option Value)) (e : Nat → Bool) (I : Shared → Prop)
    (turn : ∀ i (h1 : i < items.size) (h2 : i < items2.size) s, I s → wpAny (model prog w) A.in1 (eqBool items[i] items2[i]) (fun r s' => r = e i ∧ I s') (fun e s' => R (.error e) s') s)
    (fin : ∀ s, I s → R (.ok (.ret (.bool ((List.range (min items.size items2.size)).all e && decide (items.size = items2.size))))) s) {s : Shared} (hl1 : s.heap.get? l = some { cls := .type "tuple", dict := dd, data := .seq items n, slots := sl }) (hb1 : s.heap.get? b = some { cls := .type "tuple", dict := dd2, data := .seq items2 n2, slots := sl2 }) (h : I s) :
    wpAny (model prog w) A.in1 (Builtin.«tuple.__eq__» ⟨[.ref l, .ref b], []⟩) (FinOf prog w A R) (fun e s' => R (.error e) s') s := by
  have f2 := AutoSeq1.sub_tuple_tuple
  have hZ : (items.toList.zip items2.toList).length = min items.size items2.size := by simp
  have h0 := h
  obtain ⟨hp, g, d, tk, os⟩ := s
  wp_walk using wpAny_loadPart' hl1, wpAny_loadPart' hb1, wpAny_forIn_list _ (fun rest b s' => ((b.1 = none ∧ ∃ i, rest = (items.toList.zip items2.toList).drop i ∧ i ≤ min items.size items2.size ∧ (∀ j, j < i → e j = true) ∧ I s')) ) _
  case turn =>
    rintro ⟨y, x⟩ rest b s' ⟨hb', i, hz, hi, hj, hI⟩
    have hlt : i < (items.toList.zip items2.toList).length := by
      rcases Nat.lt_or_ge i (items.toList.zip items2.toList).length with h' | h'
      · exact h'
      · rw [List.drop_of_length_le h'] at hz; cases hz
    have h12 := hlt
    rw [hZ] at h12
    have h1 : i < items.size := by omega
    have h2 : i < items2.size := by omega
    rw [List.drop_eq_getElem_cons hlt] at hz
    injection hz with hyx hrest
    have hy : y = items[i] := by have := congrArg Prod.fst hyx; simpa using this
    have hx : x = items2[i] := by have := congrArg Prod.snd hyx; simpa using this
    subst hy hx
    refine wpAny_bind (wpAny_mono (turn i h1 h2 s' hI) (fun r s2 q2 => ?_) fun _ _ x => x)
    obtain ⟨hr, q2⟩ := q2
    cases he : e i with
    | true =>
      rw [he] at hr
      subst hr
      wp_walk
      refine ⟨rfl, i + 1, hrest, by omega, fun j hj' => ?_, q2⟩
      rcases Nat.lt_or_ge j i with lt | ge
      · exact hj j lt
      · rw [show j = i by omega]; exact he
    | false =>
      rw [he] at hr
      subst hr
      wp_walk
      have hR := fin s2 q2
      rw [not_all (by omega) he, Bool.false_and] at hR
      exact hR
  case fin =>
    rintro ⟨b1, b2⟩ s' ⟨hb', i, hz, hi, hj, hI⟩
    simp only at hb'
    subst hb'
    have hge : min items.size items2.size ≤ i := by
      rcases Nat.lt_or_ge i (items.toList.zip items2.toList).length with h' | h'
      · rw [List.drop_eq_getElem_cons h'] at hz; cases hz
      · exact hZ ▸ h'
    have hi' : i = min items.size items2.size := by omega
    have hR := fin s' hI
    rw [all_of (hi' ▸ hj), Bool.true_and] at hR
    wp_walk
    simp only [Builtin.Tuple.tupleCompareSizes]
    have ed : (items.size == items2.size) = decide (items.size = items2.size) := by
      rw [Bool.eq_iff_iff]
      simp
    rw [ed]
    exact hR
  case h =>
    exact ⟨rfl, 0, rfl, Nat.zero_le _, (fun _ h => absurd h (Nat.not_lt_zero _)), h0⟩
end
section
variable {prog : Program} {w : World} {A : Around} {E : Value → Shared → Prop} {s : Shared}
theorem rc_listB {l b : Addr} {N : Nat} {e : Nat → Bool} {Q : Value → Shared → Prop} (hu : A.units < cLine) (I : Shared → Prop) (hl : ListB prog w A E l b N e I)
    (fin : ∀ s, I s → Q (.bool ((List.range N).all e)) s) (h : I s) : wpAny (model prog w) A (richCompare .Eq (.ref l) (.ref b)) Q E s := by
  obtain ⟨items, items2, n, n2, hl1, hb1, _, _, _⟩ := hl _ h
  refine wpAny_richCompare_same_room (op := .Eq) ⟨_, hl1, rfl⟩ ⟨_, hb1, rfl⟩ F.slot_list_eq (call_here F.slot_list_eq ⟨_, hl1, rfl⟩ F.entry_list_eq (F.args_list_eq_2 _ _) ?_) hu
  exact list_eqB (R := wants (fun v s' => v ≠ .notImplemented ∧ Q v s') E) l b N e I hl (fun s' q => ⟨(fun x => nomatch x), fin s' q⟩) h
theorem rc_tupB {l b : Addr} {items items2 : Array Value} {e : Nat → Bool} {Q : Value → Shared → Prop} (hu : A.units < cLine) (I : Shared → Prop)
    (hl : s.heap.IsTuple l items) (hb : s.heap.IsTuple b items2)
    (turn : ∀ i (h1 : i < items.size) (h2 : i < items2.size) s, I s → wpAny (model prog w) A.in1 (eqBool items[i] items2[i]) (fun r s' => r = e i ∧ I s') E s)
    (fin : ∀ s, I s → Q (.bool ((List.range (min items.size items2.size)).all e && decide (items.size = items2.size))) s) (h : I s) : wpAny (model prog w) A (richCompare .Eq (.ref l) (.ref b)) Q E s := by
  obtain ⟨⟨cls, dd, data, sl⟩, ho, hc, n, hd⟩ := id hl
  obtain ⟨⟨cls2, dd2, data2, sl2⟩, ho2, hc2, n2, hd2⟩ := id hb
  simp only at hc hd hc2 hd2
  subst hc hd hc2 hd2
  refine wpAny_richCompare_same_room (op := .Eq) ⟨_, ho, rfl⟩ ⟨_, ho2, rfl⟩ F.slot_tuple_eq (call_here F.slot_tuple_eq ⟨_, ho, rfl⟩ F.entry_tuple_eq (F.args_tuple_eq_2 _ _) ?_) hu
  exact tuple_eqB (R := wants (fun v s' => v ≠ .notImplemented ∧ Q v s') E) l b items items2 n n2 dd dd2 sl sl2 e I turn (fun s' q => ⟨(fun x => nomatch x), fin s' q⟩) ho ho2 h
end
/-- how two values compare, by the abstract heap -/
abbrev EqvB := V → V → Bool → Hp → Prop
def MonB (D : EqvB) : Prop := ∀ x y b H H', Ext H H' → D x y b H → D x y b H'
def EqB (X : Cx) (n : Nat) (D : EqvB) : Prop :=
  ∀ (A : Around) (pins : List (Addr × Obj)) (s : Shared) (σ : L2.St) (H : Hp) (x y : V) (b : Bool) (u v : Value), L2.Sub X n A → Inv X pins σ H s → RelV x u → RelV y v → D x y b H →
    wpAny (model X.prog X.w) A (eqBool u v) (fun r s' => r = b ∧ ∃ H', Inv X pins σ H' s' ∧ Ext H H') X.xe s
def RcB (X : Cx) (n : Nat) (D : EqvB) : Prop :=
  ∀ (A : Around) (pins : List (Addr × Obj)) (s : Shared) (σ : L2.St) (H : Hp) (x y : V) (b : Bool) (u v : Value), L2.Sub X n A → Inv X pins σ H s → RelV x u → RelV y v → D x y b H →
    wpAny (model X.prog X.w) A (richCompare .Eq u v) (fun r s' => r = .bool b ∧ ∃ H', Inv X pins σ H' s' ∧ Ext H H') X.xe s
section
variable {X : Cx} {n m : Nat} {D D' : EqvB}
theorem EqB.mono (h : EqB X n D) (hn : n ≤ m) : EqB X m D := fun A pins s σ H x y b u v sb => h A pins s σ H x y b u v (sb.mono hn)
theorem EqB.or (h : EqB X n D) (h' : EqB X n D') : EqB X n (fun x y b H => D x y b H ∨ D' x y b H) := fun A pins s σ H x y b u v sb I rx ry d => by
  rcases d with d | d
  · exact h A pins s σ H x y b u v sb I rx ry d
  · exact h' A pins s σ H x y b u v sb I rx ry d
theorem MonB.or (h : MonB D) (h' : MonB D') : MonB (fun x y b H => D x y b H ∨ D' x y b H) := fun x y b H H' e d => d.elim (fun d => .inl (h x y b H H' e d)) fun d => .inr (h' x y b H H' e d)
def DFlatB : EqvB := fun x y b _ => flatV x = true ∧ flatV y = true ∧ eqV x y = b
theorem monB_flat : MonB DFlatB := fun _ _ _ _ _ _ d => d
theorem eqB_flat : EqB X 0 DFlatB := by
  intro A pins s σ H x y b u v sb I rx ry d
  obtain ⟨fx, fy, e⟩ := d
  have q := eqAt_V (A := A) (s := s) rx ry fx fy
  rw [e] at q
  exact q X.prog X.w X.xe _ ⟨rfl, H, I, Ext.rfl'⟩
/-- item by item, as far as both go -/
def PrsB (D : EqvB) (xs ys : List V) (e : Nat → Bool) (H : Hp) : Prop := ∀ (i : Nat) x y, xs[i]? = some x → ys[i]? = some y → D x y (e i) H
theorem PrsB.mon (hD : MonB D) {xs ys : List V} {e : Nat → Bool} {H H' : Hp} (x : Ext H H') (p : PrsB D xs ys e H) : PrsB D xs ys e H' := fun i a b h1 h2 => hD a b _ H H' x (p i a b h1 h2)
theorem turnB (hD : MonB D) (h : EqB X n D) {A : Around} (sb : L2.Sub X (n + 1) A) {pins : List (Addr × Obj)} {σ : L2.St} {H : Hp} {xs ys : List V} {e : Nat → Bool} {its its2 : List Value} (p : PrsB D xs ys e H) (r : Vals xs its) (r2 : Vals ys its2)
    (i : Nat) (h1 : i < its.toArray.size) (h2 : i < its2.toArray.size) (s' : Shared) (l : LoopI X pins σ H s') :
    wpAny (model X.prog X.w) A.in1 (eqBool its.toArray[i] its2.toArray[i]) (fun r s2 => r = e i ∧ LoopI X pins σ H s2) X.xe s' := by
  obtain ⟨H1, I1, e1⟩ := l
  have g1 : its[i]? = some its.toArray[i] := by
    have h1' : i < its.length := by simpa using h1
    rw [List.getElem?_eq_getElem h1'] <;> simp
  have g2 : its2[i]? = some its2.toArray[i] := by
    have h2' : i < its2.length := by simpa using h2
    rw [List.getElem?_eq_getElem h2'] <;> simp
  have k1 : i < xs.length := by rw [r.length]; simpa using h1
  have k2 : i < ys.length := by rw [r2.length]; simpa using h2
  obtain ⟨u, hu, ru⟩ := r.get (List.getElem?_eq_getElem k1)
  obtain ⟨v, hv, rv⟩ := r2.get (List.getElem?_eq_getElem k2)
  rw [g1] at hu
  rw [g2] at hv
  rw [Option.some.inj hu, Option.some.inj hv]
  refine wpAny_mono (h A.in1 pins s' σ H1 _ _ _ u v sb.in1 I1 ru rv (hD _ _ _ _ _ e1 (p i _ _ (List.getElem?_eq_getElem k1) (List.getElem?_eq_getElem k2)))) (fun r s2 q => ?_) fun _ _ x => x
  obtain ⟨hr, H2, I2, e2⟩ := q
  exact ⟨hr, H2, I2, e1.trans e2⟩
def DListB (D : EqvB) : EqvB := fun x y b H => ∃ a c xs ys e, x = .ref a ∧ y = .ref c ∧ H a = some (.lst xs) ∧ H c = some (.lst ys) ∧ (xs.length = ys.length → PrsB D xs ys e H) ∧ b = (decide (xs.length = ys.length) && (List.range xs.length).all e)
def DTupB (K : PySem.W.Frag) (D : EqvB) : EqvB := fun x y b H => ∃ a c xs ys e, x = .ref a ∧ y = .ref c ∧ SqT K H a xs ∧ SqT K H c ys ∧ PrsB D xs ys e H ∧ b = ((List.range (min xs.length ys.length)).all e && decide (xs.length = ys.length))
theorem monB_list (hD : MonB D) : MonB (DListB D) := fun x y b H H' x' d => by
  obtain ⟨a, c, xs, ys, e, hx, hy, h1, h2, p, hb⟩ := d
  exact ⟨a, c, xs, ys, e, hx, hy, x' _ _ h1, x' _ _ h2, fun z => (p z).mon hD x', hb⟩
theorem monB_tup {K : PySem.W.Frag} (hD : MonB D) : MonB (DTupB K D) := fun x y b H H' x' d => by
  obtain ⟨a, c, xs, ys, e, hx, hy, h1, h2, p, hb⟩ := d
  exact ⟨a, c, xs, ys, e, hx, hy, h1.ext x', h2.ext x', p.mon hD x', hb⟩
theorem rcB_list (hD : MonB D) (h : EqB X n D) : RcB X (n + 1) (DListB D) := by
  intro A pins s σ H x y b u v sb I rx ry d
  obtain ⟨a, c, xs, ys, e, rfl, rfl, ha, hb, p, rfl⟩ := d
  cases rx
  cases ry
  by_cases hlen : xs.length = ys.length
  · rw [decide_eq_true hlen, Bool.true_and]
    refine rc_listB (N := xs.length) (e := e) sb.room.units0 (fun s' => LoopI X pins σ H s') (fun s' q => ?_) (fun s' q => ⟨rfl, q⟩) ⟨H, I, Ext.rfl'⟩
    obtain ⟨H1, I1, e1⟩ := id q
    obtain ⟨z, its, k, r, e0⟩ := I1.hok a _ (e1 _ _ ha)
    obtain ⟨z2, its2, k2, r2, e2⟩ := I1.hok c _ (e1 _ _ hb)
    refine ⟨its.toArray, its2.toArray, k, k2, e0, e2, by rw [List.size_toArray, ← r.length], by rw [List.size_toArray, ← r2.length, hlen], fun i h1 h2 => ?_⟩
    exact turnB hD h sb (p hlen) r r2 i h1 h2 s' q
  · rw [decide_eq_false hlen, Bool.false_and]
    obtain ⟨z, its, k, r, e0⟩ := I.hok a _ ha
    obtain ⟨z2, its2, k2, r2, e2⟩ := I.hok c _ hb
    have p1 : s.heap.IsList a its.toArray := ⟨_, e0, rfl, _, rfl⟩
    have p2 : s.heap.IsList c its2.toArray := ⟨_, e2, rfl, _, rfl⟩
    refine SeqAt.eq_list_lengthsAt p1 p2 ?_ sb.room.units0 ⟨rfl, H, I, Ext.rfl'⟩
    rw [List.size_toArray, List.size_toArray, ← r.length, ← r2.length]
    simpa using hlen
theorem rcB_tup (hD : MonB D) (h : EqB X n D) : RcB X (n + 1) (DTupB X.K D) := by
  intro A pins s σ H x y b u v sb I rx ry d
  obtain ⟨a, c, xs, ys, e, rfl, rfl, ha, hb, p, rfl⟩ := d
  cases rx
  cases ry
  obtain ⟨its, r, e1, z⟩ := I.tuple ha
  obtain ⟨its2, r2, e2, z2⟩ := I.tuple hb
  refine rc_tupB (e := e) sb.room.units0 (fun s' => LoopI X pins σ H s') e1 e2 (fun i h1 h2 s' q => turnB hD h sb p r r2 i h1 h2 s' q) (fun s' q => ⟨?_, q⟩) ⟨H, I, Ext.rfl'⟩
  rw [List.size_toArray, List.size_toArray, ← r.length, ← r2.length]
/-- instances of the class at C with the text's own == -/
def DInsB (C : Addr) (R : Addr → Addr → Bool → Hp → Prop) : EqvB := fun x y e H => ∃ a b dx dy fs gs, x = .ref a ∧ y = .ref b ∧ H a = some (.ins C dx fs) ∧ H b = some (.ins C dy gs) ∧ R a b e H
theorem monB_ins {C : Addr} {R : Addr → Addr → Bool → Hp → Prop} (hR : ∀ a b e H H', Ext H H' → R a b e H → R a b e H') : MonB (DInsB C R) := fun x y b H H' e d => by
  obtain ⟨a, c, dx, dy, fs, gs, hx, hy, h1, h2, r⟩ := d
  exact ⟨a, c, dx, dy, fs, gs, hx, hy, e _ _ h1, e _ _ h2, hR a c _ H H' e r⟩
def spEqB (R : Addr → Addr → Bool → Hp → Prop) : Sp := fun vs H Q _ => ∃ a b e, vs = [.ref a, .ref b] ∧ R a b e H ∧ ∀ H', Ext H H' → Q (.bl e) H'
theorem rcB_ins {CX : CXT} {C f : Addr} {fd : FuncData} {ps : List Str} {R : Addr → Addr → Bool → Hp → Prop} {E : XK} (F : FnOk X.prog X.w X.K X.mg X.base CX n f fd ps (spEqB R))
    (hs : PySem.W.findIn X.K (.ref C) "__eq__" = some (some (.ref f))) (hf : PySem.W.isFn X.K (.ref f) = true) (hb : Binds X.K fd ps []) (hx : Passes CX X E) : RcB X n (DInsB C R) := by
  intro A pins s σ H x y b u v sb I rx ry d
  obtain ⟨a, c, dx, dy, fs, gs, rfl, rfl, ha, hb', hr⟩ := d
  cases rx
  cases ry
  obtain ⟨mA, J, _⟩ := ins_get I.hok ha
  obtain ⟨mB, J', _⟩ := ins_get I.hok hb'
  obtain ⟨od, J, _⟩ := J.look
  obtain ⟨od', J', _⟩ := J'.look
  obtain ⟨m, hF⟩ := I.fr
  refine PySem.W.cmp_K (op := .Eq) (tb := .ref C) sb.room.units0 hF I.ok.mod.kin J J'.type (by simp [PySem.W.notFirst]) hs hf ?_
  have hsp : spEqB R [.ref a, .ref c] H (fun v H' => v = .bl b ∧ Ext H H') E := ⟨a, c, b, rfl, hr, fun H' e => ⟨rfl, e⟩⟩
  have e0 : Env0 X.prog X.w X.K X.mg X.base A X.stack s H := by
    have e := I.env0
    exact ⟨by rw [sb.fr]; exact e.frames, e.mod, e.bs, e.bsz, e.funs, e.frf, e.hok, e.bare⟩
  have hl := F.len _ _ _ _ hsp
  have r2 : Vals [V.ref a, V.ref c] [Value.ref a, Value.ref c] := .cons rfl (.cons rfl .nil)
  refine wpAny_call (codeAny_mono (F.run A X.stack s H ⟨[.ref a, .ref c], []⟩ [.ref a, .ref c] [.ref a, .ref c] _ E sb.room e0 (by
    have := hb s [.ref a, .ref c] I.kIn (by simpa using hl)
    simpa using this) r2 hsp) fun r s' hq => ?_)
  cases r with
  | error e => exact hx pins σ H s e s' I hq
  | ok fl =>
    cases fl with
    | ret w =>
      obtain ⟨z, H', I', rz, ez, ex⟩ := I.after hq
      subst ez
      obtain rfl : w = Value.bool b := rz
      exact ⟨rfl, H', I', ex⟩
    | next => exact False.elim hq
    | brk => exact False.elim hq
    | cont => exact False.elim hq
theorem RcB.eqB (h : RcB X n D) (hr : ∀ x y b H, D x y b H → ∃ a c, x = .ref a ∧ y = .ref c) (hs : ∀ a b H, D (.ref a) (.ref a) b H → b = true) : EqB X n D := by
  intro A pins s σ H x y b u v sb I rx ry d
  obtain ⟨a, c, rfl, rfl⟩ := hr _ _ _ _ d
  cases rx
  cases ry
  by_cases hab : a = c
  · subst hab
    rw [hs a b H d]
    exact SeqAt.EqAt.same (A := A) (s := s) (.ref a) X.prog X.w X.xe _ ⟨rfl, H, I, Ext.rfl'⟩
  · refine GQ.eqBool_refG hab (wpAny_mono (h A pins s σ H (.ref a) (.ref c) b _ _ sb I rfl rfl d) (fun r s' q => ?_) fun _ _ x => x)
    obtain ⟨hr', q⟩ := q
    exact ⟨b, hr', rfl, q⟩
/-- x == y as an expression -/
def rEqB (D : EqvB) : R2 := fun x y H Q => ∃ b, D x y b H ∧ ∀ H', Ext H H' → Q (.bl b) H'
theorem op_eqB (h : RcB X n D) (hr : Room n X.A) : OpR X (compareOp .Eq) (rEqB D) := by
  intro pins s σ H x y v u Q I rx ry hq
  obtain ⟨b, d, q⟩ := hq
  show wpAny (model X.prog X.w) X.A (richCompare .Eq v u) (EP X pins σ Q) X.xe s
  refine wpAny_mono (h X.A pins s σ H x y b v u ⟨hr, rfl⟩ I rx ry d) (fun r s' z => ?_) fun _ _ x => x
  obtain ⟨hr', H', I', e⟩ := z
  subst hr'
  exact ⟨.bl b, H', I', rfl, q H' e⟩
end
end Mz
set_option Elab.async false
set_option linter.all false
set_option maxRecDepth 100000
set_option maxHeartbeats 4000000
/-! != of lists whose items may have an own ==, whichever way it goes -/
namespace Mz
open PySem PySem.Spec PyProof.Rows L2
open PySem.SeqAt
open AutoSeq1 (wpAny_loadPart')
open MeetsSeq MeetsSeq2 MeetsSeq3 SeqRoads2
open GQ (FinOf call_here)
section
variable {prog : Program} {w : World} {A : Around} {R : Result → Shared → Prop}
theorem ne_loopB (l b : Addr) (N : Nat) (e : Nat → Bool) (I : Shared → Prop) (hl : ListB prog w A (fun e s' => R (.error e) s') l b N e I)
    (fin : ∀ s, I s → R (.ok (.ret (.bool (!(List.range N).all e)))) s) (k : Nat) :
    ∀ i : Nat, N - i = k → i ≤ N → (∀ j, j < i → e j = true) → ∀ s, I s →
      wpAny (model prog w) A.in1 (Builtin.«list.__eq__.loop» ⟨[.ref l, .ref b, rawInt i, rawInt 3], []⟩) (FinOf prog w A R) (fun e s' => R (.error e) s') s := by
  induction k with
  | zero =>
    intro i hk hi hj s h
    obtain ⟨items, items2, n, n2, hl1, hb1, hs1, hs2, _⟩ := hl _ h
    have hi' : i = N := by omega
    have hR := fin s h
    rw [all_of (hi' ▸ hj)] at hR
    obtain ⟨hp, g, d, tk, os⟩ := s
    wp_walk using wpAny_loadPart' hl1, wpAny_loadPart' hb1
    have hi1 : items[((i : Nat) : Int).toNat]? = none := by simp; omega
    have hi2 : items2[((i : Nat) : Int).toNat]? = none := by simp; omega
    rw [hi1, hi2]
    wp_walk using wpAny_loadPart' hl1, wpAny_loadPart' hb1
    show R (.ok (.ret (.bool (items.size != items2.size)))) _
    rw [hs1, hs2]
    simpa using hR
  | succ k ih =>
    intro i hk hi hj s h
    obtain ⟨items, items2, n, n2, hl1, hb1, hs1, hs2, turn⟩ := hl _ h
    have hlt : i < items.size := by omega
    have hlt2 : i < items2.size := by omega
    have ht := turn i hlt hlt2
    obtain ⟨hp, g, d, tk, os⟩ := s
    wp_walk using wpAny_loadPart' hl1, wpAny_loadPart' hb1
    have hi1 : items[((i : Nat) : Int).toNat]? = some items[i] := by simp [hlt]
    have hi2 : items2[((i : Nat) : Int).toNat]? = some items2[i] := by simp [hlt2]
    have hc : ((i : Int) + 1) = ((i + 1 : Nat) : Int) := by omega
    rw [hi1, hi2]
    refine wpAny_bind (wpAny_mono ht (fun r s2 h2 => ?_) fun _ _ x => x)
    obtain ⟨hr, h2⟩ := h2
    cases he : e i with
    | true =>
      rw [he] at hr
      subst hr
      have hrec := ih (i + 1) (by omega) (by omega) (fun j hj' => by
        rcases Nat.lt_or_ge j i with lt | ge
        · exact hj j lt
        · rw [show j = i by omega]; exact he) s2 h2
      obtain ⟨hp2, g2, d2, tk2, os2⟩ := s2
      wp_walk
      rw [hc]
      exact ⟨plainId_quiet plain_eq_loop _, codeAny_builtin entry_eq_loop (by
        rw [Around.under_plainId plain_eq_loop _]
        exact hrec)⟩
    | false =>
      rw [he] at hr
      subst hr
      have hR := fin s2 h2
      rw [not_all (by omega) he] at hR
      obtain ⟨items3, items4, n3, n4, hl3, hb3, hs3, hs4, _⟩ := hl _ h2
      obtain ⟨hp2, g2, d2, tk2, os2⟩ := s2
      wp_walk using wpAny_loadPart' hl3, wpAny_loadPart' hb3
      have hi3 : items3[((i : Nat) : Int).toNat]? = some (items3[i]'(by omega)) := by simp [show i < items3.size by omega]
      have hi4 : items4[((i : Nat) : Int).toNat]? = some (items4[i]'(by omega)) := by simp [show i < items4.size by omega]
      rw [hi3, hi4]
      wp_walk using wpAny_loadPart' hl3, wpAny_loadPart' hb3
      exact hR
theorem list_neB (l b : Addr) (N : Nat) (e : Nat → Bool) (I : Shared → Prop) (hl : ListB prog w A (fun e s' => R (.error e) s') l b N e I)
    (fin : ∀ s, I s → R (.ok (.ret (.bool (!(List.range N).all e)))) s) {s : Shared} (h : I s) :
    wpAny (model prog w) A.in1 (Builtin.«list.__ne__» ⟨[.ref l, .ref b], []⟩) (FinOf prog w A R) (fun e s' => R (.error e) s') s := by
  obtain ⟨items, items2, n, n2, hl1, hb1, hs1, hs2, _⟩ := hl _ h
  have hrec := ne_loopB (A := A) (R := R) l b N e I hl fin _ 0 rfl (Nat.zero_le _) (fun _ h => absurd h (Nat.not_lt_zero _)) s h
  obtain ⟨hp, g, d, tk, os⟩ := s
  have f3 := AutoSeq1.sub_list_list
  have hne : ¬ (items.size != items2.size) = true := by simp [hs1, hs2]
  wp_walk using wpAny_loadPart' hl1, wpAny_loadPart' hb1
  exact ⟨plainId_quiet plain_eq_loop _, codeAny_builtin entry_eq_loop (by
    rw [Around.under_plainId plain_eq_loop _]
    exact hrec)⟩
end
section
variable {prog : Program} {w : World} {A : Around} {E : Value → Shared → Prop} {s : Shared}
theorem rc_listNeB {l b : Addr} {N : Nat} {e : Nat → Bool} {Q : Value → Shared → Prop} (hu : A.units < cLine) (I : Shared → Prop) (hl : ListB prog w A E l b N e I)
    (fin : ∀ s, I s → Q (.bool (!(List.range N).all e)) s) (h : I s) : wpAny (model prog w) A (richCompare .NotEq (.ref l) (.ref b)) Q E s := by
  obtain ⟨items, items2, n, n2, hl1, hb1, _, _, _⟩ := hl _ h
  refine wpAny_richCompare_same_room (op := .NotEq) ⟨_, hl1, rfl⟩ ⟨_, hb1, rfl⟩ F.slot_list_ne (call_here F.slot_list_ne ⟨_, hl1, rfl⟩ F.entry_list_ne (F.args_list_ne_2 _ _) ?_) hu
  exact list_neB (R := wants (fun v s' => v ≠ .notImplemented ∧ Q v s') E) l b N e I hl (fun s' q => ⟨(fun x => nomatch x), fin s' q⟩) h
end
section
variable {X : Cx} {n m : Nat} {D D' : EqvB}
/-- x != y of lists, item by item -/
def rNeB (D : EqvB) : R2 := fun x y H Q => ∃ b, DListB D x y b H ∧ ∀ H', Ext H H' → Q (.bl (!b)) H'
theorem op_neB (hD : MonB D) (h : EqB X n D) (hr : Room (n + 1) X.A) : OpR X (compareOp .NotEq) (rNeB D) := by
  intro pins s σ H x y v u Q I rx ry hq
  obtain ⟨b, ⟨a, c, xs, ys, e, rfl, rfl, ha, hc, p, rfl⟩, q⟩ := hq
  cases rx
  cases ry
  show wpAny (model X.prog X.w) X.A (richCompare .NotEq (.ref a) (.ref c)) (EP X pins σ Q) X.xe s
  by_cases hlen : xs.length = ys.length
  · rw [decide_eq_true hlen, Bool.true_and] at q
    refine rc_listNeB (N := xs.length) (e := e) hr.units0 (fun s' => LoopI X pins σ H s') (fun s' qq => ?_) (fun s' qq => ?_) ⟨H, I, Ext.rfl'⟩
    · obtain ⟨H1, I1, e1⟩ := id qq
      obtain ⟨z, its, k, r, e0⟩ := I1.hok a _ (e1 _ _ ha)
      obtain ⟨z2, its2, k2, r2, e2⟩ := I1.hok c _ (e1 _ _ hc)
      refine ⟨its.toArray, its2.toArray, k, k2, e0, e2, by rw [List.size_toArray, ← r.length], by rw [List.size_toArray, ← r2.length, hlen], fun i h1 h2 => ?_⟩
      exact turnB hD h ⟨hr, rfl⟩ (p hlen) r r2 i h1 h2 s' qq
    · obtain ⟨H1, I1, e1⟩ := qq
      exact ⟨.bl _, H1, I1, rfl, q H1 e1⟩
  · rw [decide_eq_false hlen, Bool.false_and] at q
    obtain ⟨z, its, k, r, e0⟩ := I.hok a _ ha
    obtain ⟨z2, its2, k2, r2, e2⟩ := I.hok c _ hc
    have p1 : s.heap.IsList a its.toArray := ⟨_, e0, rfl, _, rfl⟩
    have p2 : s.heap.IsList c its2.toArray := ⟨_, e2, rfl, _, rfl⟩
    refine SeqAt.RcNeAt.lists_lengths p1 p2 ?_ hr.units0 X.prog X.w X.xe _ ⟨.bl true, H, I, rfl, q H Ext.rfl'⟩
    rw [List.size_toArray, List.size_toArray, ← r.length, ← r2.length]
    simpa using hlen
end
end Mz
set_option Elab.async false
set_option linter.all false
set_option maxRecDepth 100000
set_option maxHeartbeats 4000000
namespace Mz
open PySem PySem.Spec PyProof.Rows L2
/-! where a line may stand -/
theorem op_inK {X : Cx} (K : PySem.W.Frag) (hK : X.K = K := by rfl) : OpR X (compareOp .In) (rIn K false) := by
  subst hK
  exact op_in_seq
theorem op_notInK {X : Cx} (K : PySem.W.Frag) (hK : X.K = K := by rfl) : OpR X (compareOp .NotIn) (rIn K true) := by
  subst hK
  exact op_notIn_seq
/-- may a line of this word stand behind these? -/
def canS (z : Str) (ws : List Str) : Bool := if ws.isEmpty = true then decide (z = "first") else if z = "page" then decide (ws = (["first"] : List Str)) else if z = "fact" then !decide (("hand" : Str) ∈ ws) else decide (z = "hand") || (decide (z = "step") && decide (("hand" : Str) ∈ ws))
def spCan : Sp := fun vs H Q _ => ∃ (z : Str) (a : Addr) (ws : List Str), vs = [.str z, .ref a] ∧ H a = some (.lst (ws.map V.str)) ∧ ∀ H', Same H H' → Q (.bl (canS z ws)) H'
theorem prs_strs : ∀ (xs ys : List Str) {H : Hp}, PrsB DFlatB (xs.map V.str) (ys.map V.str) (fun i => decide (xs[i]? = ys[i]?)) H := fun xs ys H i x y h1 h2 => by
  rw [List.getElem?_map] at h1 h2
  obtain ⟨a, ha, rfl⟩ := Option.map_eq_some_iff.mp h1
  obtain ⟨b, hb, rfl⟩ := Option.map_eq_some_iff.mp h2
  refine ⟨rfl, rfl, ?_⟩
  show decide (a = b) = decide (xs[i]? = ys[i]?)
  rw [ha, hb]
  by_cases e : a = b
  · rw [decide_eq_true e, decide_eq_true (by rw [e])]
  · rw [decide_eq_false e, decide_eq_false (fun x => e (Option.some.inj x))]
theorem eq_strs (xs ys : List Str) : (decide (xs.length = ys.length) && (List.range xs.length).all fun i => decide (xs[i]? = ys[i]?)) = decide (xs = ys) := by
  by_cases e : xs = ys
  · subst e
    rw [decide_eq_true rfl, decide_eq_true rfl, Bool.true_and, List.all_eq_true]
    exact fun i _ => decide_eq_true rfl
  · rw [decide_eq_false e]
    by_cases l : xs.length = ys.length
    · rw [decide_eq_true l, Bool.true_and]
      cases h : (List.range xs.length).all fun i => decide (xs[i]? = ys[i]?) with
      | false => rfl
      | true =>
        exfalso
        refine e (List.ext_getElem? fun i => ?_)
        by_cases hi : i < xs.length
        · exact of_decide_eq_true (List.all_eq_true.mp h i (List.mem_range.mpr hi))
        · rw [List.getElem?_eq_none (by omega), List.getElem?_eq_none (by omega)]
    · rw [decide_eq_false l, Bool.false_and]
theorem dstr {a b : Str} : decide (V.str a = V.str b) = decide (a = b) := by
  by_cases e : a = b
  · rw [decide_eq_true e, decide_eq_true (by rw [e])]
  · rw [decide_eq_false e, decide_eq_false (fun x => e (V.str.inj x))]
/-- lists of texts, told alike or not -/
theorem lst_strs {H : Hp} {a c : Addr} {xs ys : List Str} (ha : H a = some (.lst (xs.map V.str))) (hc : H c = some (.lst (ys.map V.str))) : DListB DFlatB (.ref a) (.ref c) (decide (xs = ys)) H :=
  ⟨a, c, _, _, _, rfl, rfl, ha, hc, fun _ => prs_strs xs ys, by rw [List.length_map, List.length_map]; exact (eq_strs xs ys).symm⟩
section
variable {P : Program} {w : World} {K : PySem.W.Frag} {mg : Str → Option Value} {base : Heap}
theorem scCan : FnScope ["word", "ahead"] ["word", "ahead"] (defScope sCanStand) := ⟨rfl, rfl, rfl, by decide +kernel, rfl, by decide +kernel, by decide +kernel⟩
theorem ok_can {f : Addr} {fd : FuncData} (F : Fun K "_can_stand" "_can_stand" sCanStand f fd) : FnOk P w K mg base CX0 2 f fd ["word", "ahead"] spCan := by
  refine F.ok scCan (fun vs H Q E h => ?_) (fun cdv A outer s H vs Q E hr h => ?_)
  · obtain ⟨z, a, ws, rfl, _⟩ := h
    rfl
  · obtain ⟨z, a, ws, rfl, ha, q⟩ := h
    refine ⟨_, (pss_cons (ps_if (pt_cmpR (op_eqL0 hr.units) (pv 1) (pe_lst pa_nil) (nomark _)) (pss_one (ps_ret (pe_cmpR op_eq (pv 0) pe_str (nomark _)))) pss_nil)
      (pss_cons (ps_if (pt_cmpR op_eq (pv 0) pe_str (nomark _)) (pss_one (ps_ret (pe_cmpR (op_eqB (rcB_list monB_flat eqB_flat) hr) (pv 1) (pe_lst (pa_cons pe_str pa_nil)) (nomark _)))) pss_nil)
      (pss_cons (ps_if (pt_cmpR op_eq (pv 0) pe_str (nomark _)) (pss_one (ps_ret (pe_cmpR (op_notInK K) pe_str (pv 1) (by rfl)))) pss_nil)
      (pss_one (ps_ret (pe_or (pe_cmpR op_eq (pv 0) pe_str (nomark _)) (pe_one (pe_and (pe_cmpR op_eq (pv 0) pe_str (nomark _)) (pe_one (pe_cmpR (op_inK K) pe_str (pv 1) (by rfl))))))))))), ?_⟩
    refine ⟨_, rfl, (by show 0 ≤ sizeLine; omega), fun l0 n0 => ?_⟩
    have s1 : Same H (upd H l0 (.lst [])) := same_nw n0
    have t1 : upd H l0 (.lst []) l0 = some (.lst []) := upd_same
    generalize upd H l0 (.lst []) = H1 at s1 t1
    have ha1 := s1 _ _ ha
    refine ⟨a, l0, _, rfl, rfl, SqL.of ha1, SqL.of t1, _, rfl, ite2 (fun c => ?_) (fun c => ?_)⟩
    · have e : ws.isEmpty = true := by
        cases ws with
        | nil => rfl
        | cons _ _ => cases c
      refine ⟨_, rfl, rfl, ?_⟩
      rw [dstr]
      have := q H1 s1
      rw [show canS z ws = decide (z = "first") from if_pos e] at this
      exact this
    · have e : ¬ ws.isEmpty = true := fun x => c (by
        cases ws with
        | nil => rfl
        | cons _ _ => cases x)
      refine ⟨_, rfl, rfl, _, rfl, ?_⟩
      rw [dstr]
      refine ite2 (fun c2 => ?_) (fun c2 => ?_)
      · have e2 := of_decide_eq_true c2
        refine ⟨_, rfl, (by show 1 ≤ sizeLine; exact Nat.le_trans (by decide) (by decide : 1000 ≤ sizeLine)), fun l2 n2 => ?_⟩
        have s2 : Same H1 (upd H1 l2 (.lst ((["first"] : List Str).map V.str))) := same_nw n2
        refine ⟨_, lst_strs (s2 _ _ ha1) (upd_same (o := .lst ((["first"] : List Str).map V.str))), fun H' e' => ?_⟩
        have := q H' (s1.trans (s2.trans fun p o x => e' p o x))
        rw [show canS z ws = decide (ws = (["first"] : List Str)) by unfold canS; rw [if_neg e, if_pos e2]] at this
        exact this
      · have e2 : ¬ z = "page" := fun x => c2 (decide_eq_true x)
        refine ⟨_, rfl, rfl, _, rfl, ?_⟩
        rw [dstr]
        refine ite2 (fun c3 => ?_) (fun c3 => ?_)
        · have e3 := of_decide_eq_true c3
          refine ⟨_, rfl, a, _, rfl, .inl (SqL.of ha1), rfl, flat_strs, ?_⟩
          show Q (.bl (!inV (.str "hand") (ws.map V.str))) H1
          rw [inV_strs]
          have := q H1 s1
          rw [show canS z ws = !decide (("hand" : Str) ∈ ws) by unfold canS; rw [if_neg e, if_neg e2, if_pos e3]] at this
          exact this
        · have e3 : ¬ z = "fact" := fun x => c3 (decide_eq_true x)
          have := q H1 s1
          rw [show canS z ws = (decide (z = "hand") || (decide (z = "step") && decide (("hand" : Str) ∈ ws))) by unfold canS; rw [if_neg e, if_neg e2, if_neg e3]] at this
          refine ⟨_, rfl, rfl, _, rfl, ?_⟩
          rw [dstr]
          refine ite2 (fun c4 => ?_) (fun c4 => ?_)
          · rw [c4, Bool.true_or] at this
            exact this
          · rw [Bool.eq_false_iff.mpr c4, Bool.false_or] at this
            refine ⟨_, rfl, rfl, _, rfl, ?_⟩
            rw [dstr]
            refine ite2 (fun c5 => ?_) (fun c5 => ?_)
            · rw [c5, Bool.true_and] at this
              refine ⟨_, rfl, a, _, rfl, .inl (SqL.of ha1), rfl, flat_strs, ?_⟩
              show Q (.bl (inV (.str "hand") (ws.map V.str))) H1
              rw [inV_strs]
              exact this
            · rw [Bool.eq_false_iff.mpr c5, Bool.false_and] at this
              exact this
end
end Mz
set_option Elab.async false
set_option linter.all false
set_option maxRecDepth 100000
set_option maxHeartbeats 4000000
namespace Mz
open PySem PySem.Spec PyProof.Rows L2
/-! the hands of a text's rows -/
/-- rows by hands: a hand begins at its word, a step goes to the last one -/
def stepG {α : Type} (acc : List (List α)) (p : α × Str) : List (List α) := if p.2 = "hand" then acc ++ [[]] else if p.2 = "step" then acc.dropLast ++ [acc.getLast?.getD [] ++ [p.1]] else acc
def handsG {α : Type} (ps : List (α × Str)) : List (List α) := ps.foldl stepG []
theorem handsG_snoc {α : Type} (ps : List (α × Str)) (p : α × Str) : handsG (ps ++ [p]) = stepG (handsG ps) p := by
  unfold handsG
  rw [List.foldl_append]
  rfl
theorem stepG_ne {α : Type} {acc : List (List α)} {p : α × Str} (h : acc ≠ [] ∨ p.2 = "hand") : stepG acc p ≠ [] := by
  unfold stepG
  split
  · simp
  · rename_i hn
    split
    · simp
    · exact h.resolve_right hn
theorem fold_ne {α : Type} : ∀ (ps : List (α × Str)) (acc : List (List α)), (acc ≠ [] ∨ ∃ p ∈ ps, p.2 = "hand") → ps.foldl stepG acc ≠ []
  | [], acc, h => h.resolve_right fun ⟨_, m, _⟩ => nomatch m
  | p :: ps, acc, h => fold_ne ps (stepG acc p) (by
    rcases h with h | ⟨q, m, e⟩
    · exact .inl (stepG_ne (.inl h))
    · rcases List.mem_cons.mp m with rfl | m
      · exact .inl (stepG_ne (.inr e))
      · exact .inr ⟨q, m, e⟩)
theorem stepG_len {α : Type} {acc : List (List α)} {p : α × Str} {n : Nat} (h : ∀ g ∈ acc, g.length ≤ n) : ∀ g ∈ stepG acc p, g.length ≤ n + 1 := by
  unfold stepG
  intro g hg
  split at hg
  · rcases List.mem_append.mp hg with hg | hg
    · have := h g hg
      omega
    · rw [List.mem_singleton.mp hg]
      exact Nat.zero_le _
  · split at hg
    · rcases List.mem_append.mp hg with hg | hg
      · have := h g (List.dropLast_subset _ hg)
        omega
      · rw [List.mem_singleton.mp hg, List.length_append]
        show _ + 1 ≤ _
        cases e : acc.getLast? with
        | none => exact Nat.le_add_left _ _
        | some x =>
          have := h x (List.mem_of_getLast? e)
          show x.length + 1 ≤ n + 1
          omega
    · have := h g hg
      omega
theorem fold_len {α : Type} : ∀ (ps : List (α × Str)) (acc : List (List α)) (n : Nat), (∀ g ∈ acc, g.length ≤ n) → ∀ g ∈ ps.foldl stepG acc, g.length ≤ n + ps.length
  | [], _, _, h => h
  | p :: ps, acc, n, h => fun g hg => by
    have := fold_len ps (stepG acc p) (n + 1) (stepG_len h) g hg
    rw [List.length_cons]
    omega
theorem handsG_len {α : Type} {ps : List (α × Str)} {g : List α} (h : g ∈ handsG ps) : g.length ≤ ps.length := by
  have := fold_len ps [] 0 (fun _ h => nomatch h) g h
  omega
theorem lk_last {α β : Type} {R : α → β → Prop} : ∀ {xs : List α} {ys : List β} {y : β}, Lk R xs (ys ++ [y]) → ∃ xs0 x, xs = xs0 ++ [x] ∧ Lk R xs0 ys ∧ R x y
  | _, [], _, .cons h .nil => ⟨[], _, rfl, .nil, h⟩
  | _, _ :: _, _, .cons h r => by
    obtain ⟨xs0, x, rfl, a, b⟩ := lk_last r
    exact ⟨_ :: xs0, x, rfl, .cons h a, b⟩
theorem lk_mem {α β : Type} {R S : α → β → Prop} : ∀ {xs : List α} {ys : List β}, Lk R xs ys → (∀ x y, x ∈ xs → R x y → S x y) → Lk S xs ys
  | _, _, .nil, _ => .nil
  | _, _, .cons h r, k => .cons (k _ _ List.mem_cons_self h) (lk_mem r fun x y m g => k x y (List.mem_cons_of_mem _ m) g)
def spHands : Sp := fun vs H Q _ => ∃ (ra wa : Addr) (rs : List Addr) (ws : List Str), vs = [.ref ra, .ref wa] ∧ H ra = some (.lst (rs.map V.ref)) ∧ H wa = some (.lst (ws.map V.str)) ∧ rs.length = ws.length ∧ rs.length ≤ 1000 ∧ (∀ i, ws[i]? = some ("step" : Str) → ("hand" : Str) ∈ ws.take i) ∧
  ∀ (p : Addr) (ls : List Addr) (H' : Hp), Same H H' → H p = none → H' p = some (.lst (ls.map V.ref)) → Lk (fun l g => H l = none ∧ l ≠ p ∧ H' l = some (.lst (g.map V.ref))) ls (handsG (rs.zip ws)) → ls.Nodup → Q (.ref p) H'
section
variable {P : Program} {w : World} {K : PySem.W.Frag} {mg : Str → Option Value} {base : Heap}
theorem scHands : FnScope ["rows", "words", "hands", "row", "word"] ["rows", "words"] (defScope sHandsOf) := ⟨rfl, rfl, rfl, by decide +kernel, rfl, by decide +kernel, by decide +kernel⟩
theorem ok_hands {f : Addr} {fd : FuncData} (F : Fun K "_hands_of" "_hands_of" sHandsOf f fd) (mZ : mg "zip" = none) : FnOk P w K mg base CX0 1 f fd ["rows", "words"] spHands := by
  refine F.ok scHands (fun vs H Q E h => ?_) (fun cdv A outer s H vs Q E hr h => ?_)
  · obtain ⟨ra, wa, rs, ws, rfl, _⟩ := h
    rfl
  · obtain ⟨ra, wa, rs, ws, rfl, hra, hwa, ll, l100, hg, q⟩ := h
    have nd := scHands.nd
    refine ⟨_, (pss_cons (ps_set (i := 2) nd rfl (Or.inl rfl) (pe_lst pa_nil))
      (pss_cons (ps_for PassesOwn.never rfl (pi_zip (by rfl) mZ (pa_cons (pv 0) (pa_cons (pv 1) pa_nil))) (pg_tup (by rfl) (pgs_cons (pg_name (i := 3) nd rfl (Or.inl rfl)) (pgs_cons (pg_name (i := 4) nd rfl (Or.inl rfl)) pgs_nil)))
      (pss_one (ps_if (pt_cmpR op_eq (pv 4) pe_str (nomark _)) (pss_one (ps_expr (pe_bm PySem.F.plainAttrs_list PySem.F.slot_list_append PySem.F.type_list_append mt_append (pv 2) (pa_cons (pe_lst pa_nil) pa_nil)))) (pss_one (ps_if (pt_cmpR op_eq (pv 4) pe_str (nomark _)) (pss_one (ps_expr (pe_bm PySem.F.plainAttrs_list PySem.F.slot_list_append PySem.F.type_list_append mt_append (pe_ix ix_list (pv 2) (pe_un un_neg pe_int) (fun _ _ => rfl)) (pa_cons (pv 3) pa_nil)))) pss_nil)))))
      (pss_one (ps_ret (pv 2))))), ?_⟩
    have sb : 1000 ≤ sizeLine := by decide
    refine ⟨(by show 0 ≤ sizeLine; omega), fun p np => ?_⟩
    have s1 : Same H (upd H p (.lst [])) := same_nw np
    have t1 : upd H p (.lst []) p = some (.lst []) := upd_same
    generalize upd H p (.lst []) = H1 at s1 t1
    dsimp only
    refine ⟨_, rfl, _, rfl, ra, wa, _, _, rfl, SqL.of (s1 _ _ hra), SqL.of (s1 _ _ hwa), ?_⟩
    have lz : (rs.zip ws).length = rs.length := by rw [List.length_zip, ← ll, Nat.min_self]
    refine for_it (walk_zip (n := rs.length) (by rw [List.length_map, List.length_map, ← ll, Nat.min_self])) (fun i σ G => (∃ v3 v4 : Option V, σ = [some (.ref ra), some (.ref wa), some (.ref p), v3, v4]) ∧ Same H G ∧ ∃ ls : List Addr, G p = some (.lst (ls.map V.ref)) ∧
        Lk (fun l g => H l = none ∧ l ≠ p ∧ G l = some (.lst (g.map V.ref))) ls (handsG ((rs.zip ws).take i)) ∧ ls.Nodup ∧ ls.length ≤ i)
      ⟨⟨_, _, rfl⟩, s1, [], t1, by rw [List.take_zero]; exact .nil, List.nodup_nil, Nat.le_refl _⟩ (fun i σ G _ h => ⟨SqL.of (h.2.1 _ _ hra), SqL.of (h.2.1 _ _ hwa)⟩) ?_ ?_
    · rintro i x σ G G' hi ⟨⟨v3, v4, rfl⟩, keep, ls, hp, hL, nd2, li⟩ ⟨T, x1, y1, rfl, nT, rfl, e1, e2⟩
      have er : rs[i]? = some rs[i] := List.getElem?_eq_getElem hi
      have ew : ws[i]? = some ws[i] := List.getElem?_eq_getElem (by omega)
      have e1 : (rs.map V.ref)[i]? = some x1 := e1
      have e2 : (ws.map V.str)[i]? = some y1 := e2
      rw [List.getElem?_map, er] at e1
      rw [List.getElem?_map, ew] at e2
      cases e1
      cases e2
      have tk : (rs.zip ws).take (i + 1) = (rs.zip ws).take i ++ [(rs[i], ws[i])] := by
        rw [List.take_succ, (List.getElem?_zip_eq_some (z := (rs[i], ws[i]))).mpr ⟨er, ew⟩]
        rfl
      generalize rs[i] = r0 at *
      generalize hz0 : ws[i] = z0 at *
      have sT : Same G (upd G T (.tup [.ref r0, .str z0])) := same_nw nT
      have tT : upd G T (.tup [.ref r0, .str z0]) T = some (.tup [.ref r0, .str z0]) := upd_same
      show gTup _ 2 _ _ _ (upd G T (.tup [.ref r0, .str z0])) _
      generalize upd G T (.tup [.ref r0, .str z0]) = G1 at sT tT ⊢
      refine ⟨T, _, rfl, SqT.of tT, rfl, _, _, rfl, _, _, rfl, rfl, ?_⟩
      have hp1 := sT _ _ hp
      have hL1 : Lk (fun l g => H l = none ∧ l ≠ p ∧ G1 l = some (.lst (g.map V.ref))) ls (handsG ((rs.zip ws).take i)) := hL.imp fun _ _ x => ⟨x.1, x.2.1, sT _ _ x.2.2⟩
      have k1 : Same H G1 := keep.trans sT
      refine ⟨_, rfl, rfl, _, rfl, ?_⟩
      rw [dstr]
      refine ite2 (fun c => ?_) (fun c => ?_)
      · have ez := of_decide_eq_true c
        refine ⟨_, rfl, .inl ⟨rfl, _, SqL.of hp1⟩, (by show 0 ≤ sizeLine; omega), fun l nl => ?_⟩
        have s2 : Same G1 (upd G1 l (.lst [])) := same_nw nl
        have t2 : upd G1 l (.lst []) l = some (.lst []) := upd_same
        generalize upd G1 l (.lst []) = G2 at s2 t2
        have hp2 := s2 _ _ hp1
        have lp : l ≠ p := (ne_of_none hp1 nl).symm
        refine ⟨p, _, _, rfl, rfl, hp2, by rw [List.length_map]; omega, ⟨_, _, rfl⟩, fun q o e => by rw [upd_ne (fun z => by rw [z, np] at e; cases e)]; exact s2 _ _ (k1 _ _ e), ls ++ [l], by rw [upd_same, List.map_append]; rfl, ?_, ?_, by rw [List.length_append]; show _ + 1 ≤ _; omega⟩
        · rw [tk, handsG_snoc]
          unfold stepG
          rw [if_pos ez]
          exact (hL1.imp fun _ _ x => ⟨x.1, x.2.1, by rw [upd_ne x.2.1]; exact s2 _ _ x.2.2⟩).append (.one ⟨k1.free nl, lp, by rw [upd_ne lp]; exact t2⟩)
        · rw [List.nodup_append]
          refine ⟨nd2, List.nodup_cons.mpr ⟨List.not_mem_nil, List.nodup_nil⟩, fun a ha b hb e => ?_⟩
          rw [List.mem_singleton.mp hb] at e
          obtain ⟨g, _, x⟩ := hL1.memL ha
          rw [e, nl] at x
          cases x.2.2
      · have nz : ¬ z0 = "hand" := fun x => c (decide_eq_true x)
        refine ⟨_, rfl, rfl, _, rfl, ?_⟩
        rw [dstr]
        refine ite2 (fun c2 => ?_) (fun c2 => ?_)
        · have ez := of_decide_eq_true c2
          have hh := hg i (by rw [ew, ez])
          have ne : handsG ((rs.zip ws).take i) ≠ [] := by
            refine fold_ne _ _ (.inr ?_)
            obtain ⟨j, hj, e⟩ := List.getElem_of_mem hh
            rw [List.length_take] at hj
            rw [List.getElem_take] at e
            refine ⟨(rs[j]'(by omega), ws[j]'(by omega)), ?_, e⟩
            refine List.mem_of_getElem? (i := j) ?_
            rw [List.getElem?_take_of_lt (by omega)]
            exact (List.getElem?_zip_eq_some (z := (rs[j]'(by omega), ws[j]'(by omega)))).mpr ⟨List.getElem?_eq_getElem (by omega), List.getElem?_eq_getElem (by omega)⟩
          obtain ⟨gs, g0, eg⟩ : ∃ gs g0, handsG ((rs.zip ws).take i) = gs ++ [g0] := ⟨_, _, (List.dropLast_concat_getLast ne).symm⟩
          rw [eg] at hL1
          obtain ⟨ls0, l0, rfl, hL0, hl0⟩ : ∃ ls0 l0, ls = ls0 ++ [l0] ∧ Lk (fun l g => H l = none ∧ l ≠ p ∧ G1 l = some (.lst (g.map V.ref))) ls0 gs ∧ (H l0 = none ∧ l0 ≠ p ∧ G1 l0 = some (.lst (g0.map V.ref))) := lk_last hL1
          have hlx : (ls0 ++ [l0]).map V.ref = ls0.map V.ref ++ [.ref l0] := List.map_append
          rw [hlx] at hp1
          refine ⟨_, rfl, _, rfl, p, _, _, _, rfl, rfl, SqL.of hp1, atI_last _ _, .inl ⟨rfl, _, SqL.of hl0.2.2⟩, _, rfl, l0, _, _, rfl, rfl, hl0.2.2, ?_, ⟨_, _, rfl⟩, fun q o e => by rw [upd_ne (fun z => by rw [z, hl0.1] at e; cases e)]; exact k1 _ _ e, ls0 ++ [l0], by rw [upd_ne hl0.2.1.symm, hp1, hlx], ?_, nd2, by omega⟩
          · have l0 := handsG_len (ps := (rs.zip ws).take i) (g := g0) (by rw [eg]; exact List.mem_append_right _ List.mem_cons_self)
            rw [List.length_take] at l0
            rw [List.length_map]
            omega
          · rw [tk, handsG_snoc, eg]
            unfold stepG
            rw [if_neg nz, if_pos ez, List.dropLast_concat, List.getLast?_concat]
            have no : ∀ l ∈ ls0, l ≠ l0 := fun l hl e => by
              rw [List.nodup_append] at nd2
              exact nd2.2.2 l hl l0 List.mem_cons_self e
            exact (lk_mem hL0 fun l g m x => ⟨x.1, x.2.1, by rw [upd_ne (no l m)]; exact x.2.2⟩).append (.one ⟨hl0.1, hl0.2.1, by rw [upd_same, List.map_append]; rfl⟩)
        · have nz2 : ¬ z0 = "step" := fun x => c2 (decide_eq_true x)
          refine ⟨⟨_, _, rfl⟩, k1, ls, hp1, ?_, nd2, by omega⟩
          rw [tk, handsG_snoc]
          unfold stepG
          rw [if_neg nz, if_neg nz2]
          exact hL1
    · rintro σ G ⟨⟨v3, v4, rfl⟩, keep, ls, hp, hL, nd2, _⟩
      rw [← lz, List.take_length] at hL
      exact ⟨_, rfl, q p ls G keep np hp hL nd2⟩
end
end Mz
set_option Elab.async false
set_option linter.all false
set_option maxRecDepth 100000
set_option maxHeartbeats 4000000
namespace Mz
open PySem PySem.Spec PyProof.Rows L2
/-! rows of texts: steps, facts -/
def fitsS (f s : Str) : Bool := if f = "place" then (partsS s).isSome else if f = "mark" then markV (.str s) else nameV (.str s)
def stepS : List Str → Bool
  | [] => false
  | z :: r => match formS z with
    | none => false
    | some fs => decide (r.length = fs.length) && ((r.zip fs).map fun p => fitsS p.2 p.1).all id
def factS : List Str → Bool
  | [] => false
  | z :: r => match plS z with
    | none => false
    | some n => decide (r.length = n.toNat) && (r.map fun s => (partsS s).isSome).all id
theorem kd_str {K : PySem.W.Frag} {H : Hp} {s : Str} (h : Sm 1000 s) : Kd K H (.str s) := .str s h.1 h.2
theorem nopl_str {K : PySem.W.Frag} {C : Addr} {H : Hp} {s : Str} (N : Npl K C) (h : Sm 1000 s) : NoPl K C H (.str s) := ⟨kd_str h, ⟨_, .base (.str _), N.str⟩⟩
theorem forms_are {z : Str} {fs : List Str} (h : formS z = some fs) : ∀ f ∈ fs, f = "place" ∨ f = "mark" ∨ f = "name" := by
  unfold formS at h
  obtain ⟨p, hp, e⟩ := Option.map_eq_some_iff.mp h
  have all : ∀ q ∈ formL, ∀ f ∈ q.2, f = "place" ∨ f = "mark" ∨ f = "name" := by decide +kernel
  have := all p (List.mem_of_find?_eq_some hp)
  rw [e] at this
  exact this
theorem fts_str {K : PySem.W.Frag} {C : Addr} {H : Hp} (N : Npl K C) : ∀ {r fs : List Str}, r.length = fs.length → (∀ f ∈ fs, f = "place" ∨ f = "mark" ∨ f = "name") → (∀ s ∈ r, Sm 1000 s) → Fts K C H (r.map V.str) fs ((r.zip fs).map fun p => fitsS p.2 p.1)
  | [], [], _, _, _ => .nil
  | s :: r, f :: fs, l, hf, hs => by
    refine .cons ⟨kd_str (hs s List.mem_cons_self), ?_⟩ (fts_str N (Nat.succ.inj l) (fun g m => hf g (List.mem_cons_of_mem _ m)) fun g m => hs g (List.mem_cons_of_mem _ m))
    have n1 : ¬ (("mark" : Str) = "place") := by decide +kernel
    have n2 : ¬ (("name" : Str) = "place") := by decide +kernel
    have n3 : ¬ (("name" : Str) = "mark") := by decide +kernel
    rcases hf f List.mem_cons_self with rfl | rfl | rfl
    · exact .inl ⟨rfl, .inr ⟨⟨_, .base (.str _), N.str⟩, if_pos rfl⟩⟩
    · refine .inr (.inl ⟨rfl, ?_⟩)
      show fitsS "mark" s = _
      unfold fitsS
      rw [if_neg n1, if_pos rfl]
    · refine .inr (.inr ⟨rfl, ?_⟩)
      show fitsS "name" s = _
      unfold fitsS
      rw [if_neg n2, if_neg n3]
theorem stp_str {K : PySem.W.Frag} {C a : Addr} {H : Hp} {ts : List Str} (N : Npl K C) (h : H a = some (.tup (ts.map V.str))) (sm : ∀ s ∈ ts, Sm 1000 s) (l : ts.length ≤ 100) : Stp K C H (.ref a) (stepS ts) := by
  refine .inr ⟨a, _, rfl, h, ?_⟩
  cases ts with
  | nil => exact .inl ⟨rfl, rfl⟩
  | cons z r =>
    refine .inr ⟨.str z, r.map V.str, rfl, .inr ⟨z, rfl, ?_⟩⟩
    show (formS z = none ∧ (match formS z with | none => false | some fs => _) = false) ∨ _
    cases e : formS z with
    | none => exact .inl ⟨rfl, rfl⟩
    | some fs =>
      refine .inr ⟨fs, rfl, ?_⟩
      have es : stepS (z :: r) = (decide (r.length = fs.length) && ((r.zip fs).map fun p => fitsS p.2 p.1).all id) := by
        show (match formS z with | none => false | some fs => _) = _
        rw [e]
      rw [es]
      rw [List.length_cons] at l
      by_cases hl : r.length = fs.length
      · rw [decide_eq_true hl, Bool.true_and]
        exact .inr ⟨_, fts_str N hl (forms_are e) fun s m => sm s (List.mem_cons_of_mem _ m), rfl⟩
      · rw [decide_eq_false hl, Bool.false_and]
        exact .inl ⟨by rw [List.length_map]; exact hl, by rw [List.length_map]; omega, rfl⟩
theorem fct_str {K : PySem.W.Frag} {C a : Addr} {H : Hp} {ts : List Str} (N : Npl K C) (h : H a = some (.tup (ts.map V.str))) (sm : ∀ s ∈ ts, Sm 1000 s) (l : ts.length ≤ 100) : Fct K C H (.ref a) (factS ts) := by
  refine .inr ⟨a, _, rfl, h, ?_⟩
  cases ts with
  | nil => exact .inl ⟨rfl, rfl⟩
  | cons z r =>
    refine .inr ⟨.str z, r.map V.str, rfl, .inr ⟨z, rfl, ?_⟩⟩
    cases e : plS z with
    | none =>
      refine .inl ⟨rfl, ?_⟩
      show (match plS z with | none => false | some n => _) = false
      rw [e]
    | some n =>
      refine .inr ⟨n, rfl, ?_⟩
      have es : factS (z :: r) = (decide (r.length = n.toNat) && (r.map fun s => (partsS s).isSome).all id) := by
        show (match plS z with | none => false | some n => _) = _
        rw [e]
      rw [es]
      rw [List.length_cons] at l
      by_cases hl : r.length = n.toNat
      · rw [decide_eq_true hl, Bool.true_and]
        refine .inr ⟨by rw [List.length_map]; exact hl, _, by rw [List.length_map, List.length_map], fun i v b hv hb => ?_, rfl⟩
        rw [List.getElem?_map] at hv hb
        obtain ⟨s, hs, rfl⟩ := Option.map_eq_some_iff.mp hv
        rw [hs] at hb
        cases hb
        exact .inr ⟨nopl_str N (sm s (List.mem_cons_of_mem _ (List.mem_of_getElem? hs))), rfl⟩
      · rw [decide_eq_false hl, Bool.false_and]
        exact .inl ⟨by rw [List.length_map]; exact hl, by rw [List.length_map]; omega, rfl⟩
end Mz
set_option Elab.async false
set_option linter.all false
set_option maxRecDepth 100000
set_option maxHeartbeats 4000000
namespace Mz
open PySem PySem.Spec PyProof.Rows L2
/-! the texts of a page size -/
def pagesS : List Str := (List.range 31).map fun (i : Nat) => Str.ofString (toString (1 + (i : Int)))
def spPages : Sp := fun vs H Q _ => vs = [] ∧ ∀ (p : Addr) (H' : Hp), Same H H' → H p = none → H' p = some (.lst (pagesS.map V.str)) → Q (.ref p) H'
section
variable {P : Program} {w : World} {K : PySem.W.Frag} {mg : Str → Option Value} {base : Heap}
theorem scPages : FnScope ["page"] [] (defScope sPageTexts) := ⟨rfl, rfl, rfl, by decide +kernel, rfl, by decide +kernel, by decide +kernel⟩
theorem ok_pages {f : Addr} {fd : FuncData} {t : Tok} (F : Fun K "_page_texts" "_page_texts" sPageTexts f fd) (B : Blt mg) (D : Blp mg) (mL : mg "LEAST_LARGE_PAGE" = some (.int 32 t)) : FnOk P w K mg base CX0 1 f fd [] spPages := by
  refine F.ok scPages (fun vs H Q E h => ?_) (fun cdv A outer s H vs Q E hr h => ?_)
  · obtain ⟨rfl, _⟩ := h
    rfl
  · obtain ⟨rfl, q⟩ := h
    have nd := scPages.nd
    refine ⟨_, (pss_one (ps_ret (pe_lc (own := [("page", 0)]) (g := gName 0) (tt := tYes) rfl nd (pi_range2 rfl B.range (pa_cons pe_int (pa_cons (pe_glob (v := .int 32) rfl mL ⟨_, rfl⟩) pa_nil))) (blkOk_by (N := ["page"]) (sc := defScope sPageTexts) (by decide +kernel)) (fun _ _ _ _ _ => (pg_name (i := 0) nd rfl (Or.inl rfl))) (fun _ _ _ _ _ => pts_nil) (fun _ _ _ _ _ => (pe_callTy call_str_int (by rfl) D.str (by decide +kernel) (pa_cons (pv 0) pa_nil)))))), ?_⟩
    have sb : 1000 ≤ sizeLine := by decide
    refine ⟨1, 32, rfl, ⟨by decide, by decide, by decide, by decide⟩, fun p np => ?_⟩
    refine lc_range (lo := 1) (n := 31) (fun i G => (∀ q o, q ≠ p → H q = some o → G q = some o) ∧ G p = some (.lst ((pagesS.take i).map V.str)))
      ⟨fun q o n e => by rw [upd_ne n]; exact e, upd_same⟩ ?_ ?_
    · rintro i G hi ⟨keep, hp⟩
      have ei : pagesS[i]? = some (Str.ofString (toString (1 + (i : Int)))) := by
        unfold pagesS
        rw [List.getElem?_map, List.getElem?_range hi]
        rfl
      have lp : pagesS.length = 31 := rfl
      refine ⟨rfl, yesT ⟨_, rfl, _, rfl, Nat.lt_of_le_of_lt (Nat.log2_le_self _) (by omega), _, hp, by rw [List.length_map, List.length_take]; omega, fun q o n e => by rw [upd_ne n]; exact keep q o n e, ?_⟩⟩
      rw [upd_same, List.take_succ, ei, List.map_append]
      rfl
    · rintro G ⟨keep, hp⟩
      rw [show pagesS.take 31 = pagesS from rfl] at hp
      exact q p G (fun q o e => keep q o (ne_of_none e np) e) np hp
end
end Mz
set_option Elab.async false
set_option linter.all false
set_option maxRecDepth 100000
set_option maxHeartbeats 4000000
namespace Mz
open PySem PySem.Spec PyProof.Rows L2
/-! the word of a row -/
def wordS : List Str → Str
  | [] => ""
  | z :: r => if stepS (z :: r) = true then "step" else if (z :: r = (["hand"] : List Str)) ∨ (z = "fact" ∧ factS r = true) then z else if (z :: r).length ≠ 2 then "" else if z = "first" then (if (partsS (r.headD "")).isSome = true then "first" else "") else if z = "page" ∧ r.headD "" ∈ pagesS then "page" else ""
theorem wordS_cons (z : Str) (r : List Str) : wordS (z :: r) = if stepS (z :: r) = true then ("step" : Str) else if (z :: r = (["hand"] : List Str)) ∨ (z = "fact" ∧ factS r = true) then z else if (z :: r).length ≠ 2 then "" else if z = "first" then (if (partsS (r.headD "")).isSome = true then "first" else "") else if z = "page" ∧ r.headD "" ∈ pagesS then "page" else "" := rfl
def spWordOf : Sp := fun vs H Q _ => ∃ (a : Addr) (z : Str) (r : List Str), vs = [.ref a] ∧ H a = some (.tup ((z :: r).map V.str)) ∧ (∀ s ∈ z :: r, Sm 1000 s) ∧ (z :: r).length ≤ 100 ∧ ∀ H', Same H H' → Q (.str (wordS (z :: r))) H'
theorem eq_strs2 (xs ys : List Str) : ((List.range (min xs.length ys.length)).all (fun i => decide (xs[i]? = ys[i]?)) && decide (xs.length = ys.length)) = decide (xs = ys) := by
  by_cases l : xs.length = ys.length
  · rw [← eq_strs, decide_eq_true l, Bool.and_true, Bool.true_and, ← l, Nat.min_self]
  · rw [decide_eq_false l, Bool.and_false, decide_eq_false (fun e => l (by rw [e]))]
theorem tup_strs {K : PySem.W.Frag} {H : Hp} {a c : Addr} {xs ys : List Str} (ha : H a = some (.tup (xs.map V.str))) (hc : H c = some (.tup (ys.map V.str))) : DTupB K DFlatB (.ref a) (.ref c) (decide (xs = ys)) H :=
  ⟨a, c, _, _, _, rfl, rfl, SqT.of ha, SqT.of hc, prs_strs xs ys, by rw [List.length_map, List.length_map]; exact (eq_strs2 xs ys).symm⟩
section
variable {P : Program} {w : World} {K : PySem.W.Frag} {mg : Str → Option Value} {base : Heap}
theorem scWordOf : FnScope ["row"] ["row"] (defScope sWordOf) := ⟨rfl, rfl, rfl, by decide +kernel, rfl, by decide +kernel, by decide +kernel⟩
theorem ok_wordOf {f fS fF fP fPg C : Addr} {fd fdS fdF fdP fdPg : FuncData} (F : Fun K "_word_of" "_word_of" sWordOf f fd) (B : Blt mg) (N : Npl K C) (GS : D1 P w K mg base "is_step" 8 ["value"] (spIsStep K C) fS fdS) (GF : D1 P w K mg base "is_fact" 7 ["value"] (spIsFact K C) fF fdF)
    (GP : D1 P w K mg base "is_place" 6 ["value"] (spIsPl K C) fP fdP) (GPg : D1 P w K mg base "_page_texts" 1 [] spPages fPg fdPg) : FnOk P w K mg base CX0 9 f fd ["row"] spWordOf := by
  refine F.ok scWordOf (fun vs H Q E h => ?_) (fun cdv A outer s H vs Q E hr h => ?_)
  · obtain ⟨a, z, r, rfl, _⟩ := h
    rfl
  · obtain ⟨a, z, r, rfl, ha, hs, hl, q⟩ := h
    have nd := scWordOf.nd
    have hr8 : Room 8 _ := hr
    have hr1 : Room 1 _ := hr.mono (by decide)
    have hr6 : Room 6 _ := hr.mono (by decide)
    have hr7 : Room 7 _ := hr.mono (by decide)
    refine ⟨_, (pss_cons (ps_if (pt_val (pe_call GS.ok hr8 (by rfl) GS.m GS.k GS.b .nil pass0 (pa_cons (pv 0) pa_nil))) (pss_one (ps_ret pe_str)) pss_nil)
      (pss_cons (ps_if (PW.pt (pw_or (pt_cmpR (op_eqB (rcB_tup monB_flat eqB_flat) hr1) (pv 0) (pe_tup (pa_cons pe_str pa_nil)) (nomark _)) (pw_or1 (PW.pt (pw_and (pt_cmpR op_eq (pe_ix ix_tup (pv 0) pe_int (fun _ _ => rfl)) pe_str (nomark _)) (pw_and1 (pt_val (pe_call GF.ok hr7 (by rfl) GF.m GF.k GF.b .nil pass0 (pa_cons (pe_slice sl_tup (pv 0) (po_some pe_int) po_none) pa_nil))))))))) (pss_one (ps_ret (pe_ix ix_tup (pv 0) pe_int (fun _ _ => rfl)))) pss_nil)
      (pss_cons (ps_if (pt_cmpR op_ne (pe_callB call_len_seq (by rfl) B.len PySem.boot_len (pa_cons (pv 0) pa_nil)) pe_int (nomark _)) (pss_one (ps_ret pe_str)) pss_nil)
      (pss_cons (ps_if (pt_cmpR op_eq (pe_ix ix_tup (pv 0) pe_int (fun _ _ => rfl)) pe_str (nomark _)) (pss_one (ps_ret (pe_ifExp (pt_val (pe_call GP.ok hr6 (by rfl) GP.m GP.k GP.b .nil pass0 (pa_cons (pe_ix ix_tup (pv 0) pe_int (fun _ _ => rfl)) pa_nil))) pe_str pe_str))) pss_nil)
      (pss_one (ps_ret (pe_ifExp (PW.pt (pw_and (pt_cmpR op_eq (pe_ix ix_tup (pv 0) pe_int (fun _ _ => rfl)) pe_str (nomark _)) (pw_and1 (pt_cmpR (op_inK K) (pe_ix ix_tup (pv 0) pe_int (fun _ _ => rfl)) (pe_call0 GPg.ok hr1 (by rfl) GPg.m GPg.k GPg.b .nil pass0) (by rfl))))) pe_str pe_str))))))), ?_⟩
    have sb : 1000 ≤ sizeLine := by decide
    refine ⟨_, rfl, .ref a, stepS (z :: r), rfl, stp_str N ha hs hl, fun H1 s1 => ⟨_, rfl, ite2 (fun c => ?_) (fun c => ?_)⟩⟩
    · have := q H1 s1
      rw [show wordS (z :: r) = "step" from if_pos c] at this
      exact this
    have ha1 := s1 _ _ ha
    dsimp only
    refine ⟨_, rfl, (by show 1 ≤ sizeLine; omega), fun t2 n2 => ?_⟩
    have s2 : Same H1 (upd H1 t2 (.tup ((["hand"] : List Str).map V.str))) := same_nw n2
    refine ⟨_, tup_strs (s2 _ _ ha1) (upd_same (o := .tup ((["hand"] : List Str).map V.str))), fun H3 e3 => ⟨_, rfl, ?_⟩⟩
    have s3 : Same H H3 := s1.trans (s2.trans fun p o x => e3 p o x)
    have ha3 := s3 _ _ ha
    have i0 : atI (V.str z :: r.map V.str) (0 : Int) = some (.str z) := atI_nat (xs := V.str z :: r.map V.str) (j := 0) rfl
    clear n2 s2 e3
    refine ite2 (fun c2 => ?_) (fun c2 => ?_)
    · have e2 := of_decide_eq_true c2
      refine iteT ⟨_, rfl, a, _, _, _, rfl, rfl, SqT.of ha3, i0, ?_⟩
      have := q H3 s3
      rw [wordS_cons, if_neg c, if_pos (.inl e2)] at this
      exact this
    have n2 : ¬ z :: r = (["hand"] : List Str) := fun e => c2 (decide_eq_true e)
    generalize hT : tSeq (tIfS (tTest (tOp rNe _ _)) _ _) _ = TR
    have rest : ∀ H4, Same H H4 → ¬ (z = "fact" ∧ factS r = true) → TR ({ nx := fun x H' => Q V.non H', rt := Q } : Ends) (L2.start [Str.ofString "row"] [V.ref a]) H4 := by
      intro H4 s4 nf
      rw [← hT]
      clear hT
      have ha4 := s4 _ _ ha
      have nn : ¬ (z :: r = (["hand"] : List Str) ∨ (z = "fact" ∧ factS r = true)) := fun h => h.elim n2 nf
      refine ⟨_, rfl, a, _, rfl, .inr (SqT.of ha4), rfl, _, rfl, ite2 (fun c4 => ?_) (fun c4 => ?_)⟩
      · have e4 : (z :: r).length ≠ 2 := fun e => by
          rw [List.length_map, e] at c4
          rw [decide_eq_true (show V.int ((2 : Nat) : Int) = V.int 2 from rfl)] at c4
          cases c4
        have := q H4 s4
        rw [wordS_cons, if_neg c, if_neg nn, if_pos e4] at this
        exact this
      · have e4 : ¬ (z :: r).length ≠ 2 := fun e => c4 (by
          rw [List.length_map]
          rw [decide_eq_false (fun x => e (by
            have := V.int.inj x
            omega))]
          rfl)
        obtain ⟨u, rfl⟩ : ∃ u, r = [u] := by
          match r, e4 with
          | [u], _ => exact ⟨u, rfl⟩
          | [], h => exact (h (by show 1 ≠ 2; decide)).elim
          | _ :: _ :: _, h => exact (h (by rw [List.length_cons, List.length_cons, List.length_cons]; omega)).elim
        have i1 : atI (V.str z :: [V.str u]) ((1 : Nat) : Int) = some (.str u) := atI_nat rfl
        have hu := hs u (List.mem_cons_of_mem _ List.mem_cons_self)
        dsimp only
        refine ⟨_, rfl, a, _, _, _, rfl, rfl, SqT.of ha4, i0, rfl, _, rfl, ?_⟩
        rw [dstr]
        refine ite2 (fun c5 => ?_) (fun c5 => ?_)
        · have e5 := of_decide_eq_true c5
          refine ⟨_, rfl, a, _, _, _, rfl, rfl, SqT.of ha4, i1, .str u, rfl, .inr ⟨nopl_str N hu, fun H5 s5 => ⟨_, rfl, ?_⟩⟩⟩
          have := q H5 (s4.trans s5)
          rw [wordS_cons, if_neg c, if_neg nn, if_neg e4, if_pos e5] at this
          show if (partsS u).isSome = true then _ else _
          refine ite2 (fun c6 => ?_) (fun c6 => ?_)
          · rw [if_pos (show (partsS (([u] : List Str).headD "")).isSome = true from c6)] at this
            exact this
          · rw [if_neg (show ¬ (partsS (([u] : List Str).headD "")).isSome = true from c6)] at this
            exact this
        · have n5 : ¬ z = "first" := fun e => c5 (decide_eq_true e)
          have q5 := fun H5 s5 => q H5 s5
          simp only [wordS_cons, if_neg c, if_neg nn, if_neg e4, if_neg n5] at q5
          refine ⟨_, rfl, a, _, _, _, rfl, rfl, SqT.of ha4, i0, rfl, _, rfl, ?_⟩
          rw [dstr]
          refine ite2 (fun c6 => ?_) (fun c6 => ?_)
          · have e6 := of_decide_eq_true c6
            refine ⟨_, rfl, a, _, _, _, rfl, rfl, SqT.of ha4, i1, rfl, fun pp H5 s5 np5 tp5 => ⟨pp, _, rfl, .inl (SqL.of tp5), rfl, flat_strs, _, rfl, ?_⟩⟩
            show if (inV (.str u) (pagesS.map V.str)) = true then _ else _
            rw [inV_strs]
            have := q5 H5 (s4.trans s5)
            refine ite2 (fun c7 => ?_) (fun c7 => ?_)
            · rw [if_pos ⟨e6, of_decide_eq_true c7⟩] at this
              exact this
            · rw [if_neg (fun h => c7 (decide_eq_true h.2))] at this
              exact this
          · have n6 : ¬ z = "page" := fun e => c6 (decide_eq_true e)
            have := q5 H4 s4
            rw [if_neg (fun h => n6 h.1)] at this
            exact iteF this
    refine ⟨_, rfl, a, _, _, _, rfl, rfl, SqT.of ha3, i0, rfl, _, rfl, ?_⟩
    rw [dstr]
    refine ite2 (fun c3 => ?_) (fun c3 => ?_)
    · have e3 := of_decide_eq_true c3
      refine ⟨_, rfl, _, rfl, a, _, rfl, SqT.of ha3, cut1n, fun p5 np5 => ?_⟩
      rw [show cutV ((z :: r).map V.str) (some 1) none = r.map V.str from cut1]
      have s5 : Same H3 (upd H3 p5 (.tup (r.map V.str))) := same_nw np5
      have t5 : upd H3 p5 (.tup (r.map V.str)) p5 = some (.tup (r.map V.str)) := upd_same
      generalize upd H3 p5 (.tup (r.map V.str)) = H5 at s5 t5
      rw [List.length_cons] at hl
      refine ⟨.ref p5, factS r, rfl, fct_str N t5 (fun s m => hs s (List.mem_cons_of_mem _ m)) (by omega), fun H6 s6 => ⟨_, rfl, ?_⟩⟩
      have s36 : Same H H6 := s3.trans (s5.trans s6)
      refine ite2 (fun c8 => ?_) (fun c8 => ?_)
      · refine ⟨_, rfl, a, _, _, _, rfl, rfl, SqT.of (s36 _ _ ha), i0, ?_⟩
        have := q H6 s36
        rw [wordS_cons, if_neg c, if_pos (.inr ⟨e3, c8⟩)] at this
        exact this
      · exact rest H6 s36 fun h => c8 h.2
    · have n3 : ¬ z = "fact" := fun e => c3 (decide_eq_true e)
      exact iteF (rest H3 s3 fun h => n3 h.1)
end
end Mz
set_option Elab.async false
set_option linter.all false
set_option maxRecDepth 100000
set_option maxHeartbeats 4000000
namespace Mz
open PySem PySem.Spec PyProof.Rows L2
/-! a text, its rows, what becomes of it -/
def lineS (r : List Str) : Str := Str.join " " r
def txtS (rows : List (List Str)) : Str := Str.join "\n" (rows.map lineS)
/-- words without a blank, without an end of a line -/
def Wok (s : Str) : Prop := Sm 20 s ∧ (32 : Nat) ∉ s.cps.toList ∧ (10 : Nat) ∉ s.cps.toList
def RowOk (r : List Str) : Prop := r ≠ [] ∧ r.length ≤ 6 ∧ ∀ s ∈ r, Wok s
structure RowsOk (rows : List (List Str)) : Prop where
  ne : rows ≠ []
  len : rows.length ≤ 40
  row : ∀ r ∈ rows, RowOk r
theorem sum_le {b : Nat} : ∀ l : List Str, (∀ y ∈ l, y.length ≤ b) → (l.map (·.length)).sum ≤ l.length * b
  | [], _ => Nat.zero_le _
  | x :: r, h => by
    have h1 := h x List.mem_cons_self
    have h2 := sum_le r fun z hz => h z (List.mem_cons_of_mem _ hz)
    rw [List.map_cons, List.sum_cons, List.length_cons, Nat.succ_mul]
    omega
theorem join_len {b : Nat} {y : Str} {l : List Str} (hy : y.length = 1) (h : ∀ x ∈ l, x.length ≤ b) : (Str.join y l).length ≤ l.length * b + l.length := by
  have h1 := StrLaws.join_length_le y l
  have h2 := sum_le l h
  rw [hy, Nat.mul_one] at h1
  omega
theorem line_len {r : List Str} (h : RowOk r) : (lineS r).length ≤ 126 := by
  have := join_len (y := " ") (b := 20) (by decide +kernel) fun x hx => (h.2.2 x hx).1.1
  have := h.2.1
  unfold lineS
  omega
theorem txt_len {rows : List (List Str)} (h : RowsOk rows) : (txtS rows).length ≤ 5080 := by
  have := join_len (y := "\n") (l := rows.map lineS) (b := 126) (by decide +kernel) fun x hx => by
    obtain ⟨r, hr, rfl⟩ := List.mem_map.mp hx
    exact line_len (h.row r hr)
  have := h.len
  rw [List.length_map] at *
  unfold txtS
  omega
theorem line_split {r : List Str} (h : RowOk r) : Txt.split (lineS r) " " = r := by
  have := TL.split_join (y := " ") (s := 32) (S := []) (by decide +kernel) (by decide +kernel) h.1 fun p hp => (h.2.2 p hp).2.1
  rw [TL.join_eq] at this
  exact this
theorem join_no {c : Nat} {y : Str} (hy : c ∉ y.cps.toList) : ∀ l : List Str, (∀ s ∈ l, c ∉ s.cps.toList) → c ∉ (Str.join y l).cps.toList
  | [], _ => fun h => by
    rw [show (Str.join y []).cps.toList = [] from rfl] at h
    cases h
  | [x], h => h x List.mem_cons_self
  | x :: z :: r, h => fun hc => by
    have e : Str.join y (x :: z :: r) = x ++ y ++ Str.join y (z :: r) := rfl
    rw [e, cps_app, cps_app, List.mem_append, List.mem_append] at hc
    rcases hc with (hc | hc) | hc
    · exact h x List.mem_cons_self hc
    · exact hy hc
    · exact join_no hy (z :: r) (fun s m => h s (List.mem_cons_of_mem _ m)) hc
theorem line_no {r : List Str} (h : RowOk r) : (10 : Nat) ∉ (lineS r).cps.toList := join_no (by decide +kernel) r fun s m => (h.2.2 s m).2.2
theorem txt_split {rows : List (List Str)} (h : RowsOk rows) : Txt.split (txtS rows) "\n" = rows.map lineS := by
  have := TL.split_join (y := "\n") (s := 10) (S := []) (by decide +kernel) (by decide +kernel) (parts := rows.map lineS) (fun e => h.ne (List.map_eq_nil_iff.mp e)) fun p hp => by
    obtain ⟨r, hr, rfl⟩ := List.mem_map.mp hp
    exact line_no (h.row r hr)
  rw [TL.join_eq] at this
  exact this
/-! the model -/
def wsS (rows : List (List Str)) : List Str := rows.map wordS
def standsAt (ws : List Str) (i : Nat) : Bool := canS (ws.getD i "") (ws.take i)
def itmS (f s : Str) : Itm := if f = "place" then .pl ((partsS s).getD ("", 0)).1 ((partsS s).getD ("", 0)).2 else .wd s
def stpOf : List Str → StpD
  | [] => ("", [])
  | z :: r => (z, (r.zip ((formS z).getD [])).map fun p => itmS p.2 p.1)
def fctOf : List Str → Row
  | [] => ("", [])
  | z :: r => (z, r.map fun s => (partsS s).getD ("", 0))
def hsS (rows : List (List Str)) : List (List StpD) := (handsG (rows.zip (wsS rows))).map fun g => g.map stpOf
def fcS (rows : List (List Str)) : List Row := (rows.filter fun r => decide (wordS r = "fact")).map fun r => fctOf r.tail
def fpS (rows : List (List Str)) : Option (Str × Int) := partsS ((rows.headD []).getD 1 "")
def PgR (rows : List (List Str)) (pg : Option Int) : Prop := ((wsS rows)[1]? ≠ some ("page" : Str) ∧ pg = none) ∨ ∃ i : Nat, i < 31 ∧ rows[1]? = some [("page" : Str), Str.ofString (toString (1 + (i : Int)))] ∧ (wsS rows)[1]? = some ("page" : Str) ∧ pg = some (1 + (i : Int))
inductive Ro
  | line (i : Nat)
  | facts
  | hand
  | program
  | read
def AllSt (rows : List (List Str)) : Prop := ∀ i, i < rows.length → standsAt (wsS rows) i = true
/-- the hands are some, each good -/
def HsOk (hs : List (List StpD)) : Prop := 1 ≤ hs.length ∧ hs.length ≤ 3 ∧ ∀ h ∈ hs, h.length ≤ 12 ∧ locksFrom [] h = true
def OverS (z : Str) (k : Int) (hs : List (List StpD)) (rws : List Row) (pg : Option Int) : Prop := (prAll z k hs rws).length < 60 ∧ (14 < (prAll z k hs rws).length ∨ ∀ ys, Unk (prAll z k hs rws) ys → capP pg < ys.length)
def InS (z : Str) (k : Int) (hs : List (List StpD)) (rws : List Row) (pg : Option Int) : Prop := (prAll z k hs rws).length ≤ 14 ∧ ∀ ys, Unk (prAll z k hs rws) ys → ys.length ≤ capP pg
def RdS (rows : List (List Str)) : Ro → Prop
  | .line i => i < rows.length ∧ (∀ j, j < i → standsAt (wsS rows) j = true) ∧ standsAt (wsS rows) i = false
  | .facts => AllSt rows ∧ (fcS rows).length ≤ 20 ∧ ∀ ys, Unk (plsOf (fcS rows)) ys → ¬ ys.length ≤ 2
  | .hand => AllSt rows ∧ (fcS rows).length ≤ 20 ∧ Two (fcS rows) ∧ 1 ≤ (hsS rows).length ∧ (hsS rows).length ≤ 3 ∧ ∃ (ib : Nat) (h : List StpD), (hsS rows)[ib]? = some h ∧ (∀ j g, j < ib → (hsS rows)[j]? = some g → g.length ≤ 12 ∧ locksFrom [] g = true) ∧ (12 < h.length ∨ (h.length ≤ 12 ∧ locksFrom [] h = false))
  | .program => AllSt rows ∧ (fcS rows).length ≤ 20 ∧ Two (fcS rows) ∧ (((hsS rows).length = 0 ∨ 3 < (hsS rows).length) ∨ (HsOk (hsS rows) ∧ ∃ z k pg, fpS rows = some (z, k) ∧ PgR rows pg ∧ OverS z k (hsS rows) (fcS rows) pg))
  | .read => AllSt rows ∧ (fcS rows).length ≤ 20 ∧ Two (fcS rows) ∧ HsOk (hsS rows) ∧ ∃ z k pg, fpS rows = some (z, k) ∧ PgR rows pg ∧ InS z k (hsS rows) (fcS rows) pg
/-! rows that are steps, facts -/
theorem all_id_get {l : List Bool} (h : l.all id = true) {i : Nat} {b : Bool} (e : l[i]? = some b) : b = true := List.all_eq_true.mp h b (List.mem_of_getElem? e)
theorem itm_str {K : PySem.W.Frag} {C : Addr} {H : Hp} (N : Npl K C) {f s : Str} (hf : f = "place" ∨ f = "mark" ∨ f = "name") (sm : Sm 1000 s) (h : fitsS f s = true) : ItmG K C H (.str s) (itmS f s) ∧ FitI (itmS f s) f := by
  have n1 : ¬ (("mark" : Str) = "place") := by decide +kernel
  have n2 : ¬ (("name" : Str) = "place") := by decide +kernel
  have n3 : ¬ (("name" : Str) = "mark") := by decide +kernel
  rcases hf with rfl | rfl | rfl
  · have h : (partsS s).isSome = true := by
      unfold fitsS at h
      rw [if_pos rfl] at h
      exact h
    obtain ⟨⟨z, k⟩, e⟩ := Option.isSome_iff_exists.mp h
    unfold itmS
    rw [if_pos rfl, e]
    exact ⟨⟨.inr ⟨nopl_str N sm, e⟩, parts_good sm e⟩, rfl⟩
  · unfold fitsS at h
    rw [if_neg n1, if_pos rfl] at h
    unfold itmS
    rw [if_neg n1]
    exact ⟨⟨rfl, sm⟩, .inl ⟨rfl, h⟩⟩
  · unfold fitsS at h
    rw [if_neg n2, if_neg n3] at h
    unfold itmS
    rw [if_neg n2]
    exact ⟨⟨rfl, sm⟩, .inr ⟨rfl, h⟩⟩
theorem itms_str {K : PySem.W.Frag} {C : Addr} {H : Hp} (N : Npl K C) : ∀ {r fs : List Str}, r.length = fs.length → (∀ f ∈ fs, f = "place" ∨ f = "mark" ∨ f = "name") → (∀ s ∈ r, Sm 1000 s) → ((r.zip fs).map fun p => fitsS p.2 p.1).all id = true →
    Lk (ItmG K C H) (r.map V.str) ((r.zip fs).map fun p => itmS p.2 p.1) ∧ Lk FitI ((r.zip fs).map fun p => itmS p.2 p.1) fs
  | [], [], _, _, _, _ => ⟨.nil, .nil⟩
  | s :: r, f :: fs, l, hf, hs, h => by
    have h : (fitsS f s && ((r.zip fs).map fun p => fitsS p.2 p.1).all id) = true := h
    obtain ⟨h1, h2⟩ := Bool.and_eq_true_iff.mp h
    obtain ⟨a, b⟩ := itm_str (K := K) (C := C) (H := H) N (hf f List.mem_cons_self) (hs s List.mem_cons_self) h1
    obtain ⟨c, d⟩ := itms_str (K := K) (C := C) (H := H) N (Nat.succ.inj l) (fun g m => hf g (List.mem_cons_of_mem _ m)) (fun g m => hs g (List.mem_cons_of_mem _ m)) h2
    exact ⟨.cons a c, .cons b d⟩
theorem stg_str {K : PySem.W.Frag} {C a : Addr} {H : Hp} {ts : List Str} (N : Npl K C) (h : H a = some (.tup (ts.map V.str))) (sm : ∀ s ∈ ts, Sm 1000 s) (st : stepS ts = true) : StG K C H a (stpOf ts) := by
  cases ts with
  | nil => cases st
  | cons z r =>
    have st : (match formS z with | none => false | some fs => decide (r.length = fs.length) && ((r.zip fs).map fun p => fitsS p.2 p.1).all id) = true := st
    cases e : formS z with
    | none =>
      rw [e] at st
      cases st
    | some fs =>
      rw [e] at st
      obtain ⟨h1, h2⟩ := Bool.and_eq_true_iff.mp st
      have h1 := of_decide_eq_true h1
      obtain ⟨c, d⟩ := itms_str (K := K) (C := C) (H := H) N h1 (forms_are e) (fun g m => sm g (List.mem_cons_of_mem _ m)) h2
      have es : stpOf (z :: r) = (z, (r.zip fs).map fun p => itmS p.2 p.1) := by
        show (z, List.map (fun p => itmS p.2 p.1) (r.zip ((formS z).getD []))) = _
        rw [e]
        rfl
      rw [es]
      exact ⟨r.map V.str, h, c, fs, e, d⟩
theorem pvs_str {K : PySem.W.Frag} {C : Addr} {H : Hp} (N : Npl K C) : ∀ r : List Str, (∀ s ∈ r, Sm 1000 s) → (∀ s ∈ r, ∃ z k, partsS s = some (z, k)) → Lk (fun v (p : Str × Int) => Pv6 K C H v p.1 p.2) (r.map V.str) (r.map fun s => (partsS s).getD ("", 0))
  | [], _, _ => .nil
  | s :: r, sm, all => by
    obtain ⟨y, k, ey⟩ := all s List.mem_cons_self
    refine .cons ?_ (pvs_str N r (fun g m => sm g (List.mem_cons_of_mem _ m)) fun g m => all g (List.mem_cons_of_mem _ m))
    show Pv6 K C H (.str s) ((partsS s).getD ("", 0)).1 ((partsS s).getD ("", 0)).2
    rw [ey]
    exact .inr ⟨nopl_str N (sm s List.mem_cons_self), ey⟩
theorem rwg_str {K : PySem.W.Frag} {C a : Addr} {H : Hp} {ts : List Str} (N : Npl K C) (h : H a = some (.tup (ts.map V.str))) (sm : ∀ s ∈ ts, Sm 1000 s) (st : factS ts = true) : RwG K C H a (fctOf ts) := by
  cases ts with
  | nil => cases st
  | cons z r =>
    have st : (match plS z with | none => false | some n => decide (r.length = n.toNat) && (r.map fun s => (partsS s).isSome).all id) = true := st
    cases e : plS z with
    | none =>
      rw [e] at st
      cases st
    | some n =>
      rw [e] at st
      obtain ⟨h1, h2⟩ := Bool.and_eq_true_iff.mp st
      have h1 := of_decide_eq_true h1
      have n0 := plS_le e
      have all : ∀ s ∈ r, ∃ z k, partsS s = some (z, k) := fun s hs => by
        have := List.all_eq_true.mp h2 _ (List.mem_map_of_mem (f := fun s => (partsS s).isSome) hs)
        obtain ⟨⟨z, k⟩, e⟩ := Option.isSome_iff_exists.mp this
        exact ⟨z, k, e⟩
      refine ⟨r.map V.str, h, ?_, ?_, fun p hp => ?_⟩
      · exact pvs_str N r (fun s hs => sm s (List.mem_cons_of_mem _ hs)) all
      · show plS z = some (((r.map fun s => (partsS s).getD ("", 0)).length : Nat) : Int)
        rw [e, List.length_map]
        congr 1
        omega
      · obtain ⟨s, hs, rfl⟩ := List.mem_map.mp hp
        obtain ⟨y, k, ey⟩ := all s hs
        rw [ey]
        exact parts_good (sm s (List.mem_cons_of_mem _ hs)) ey
/-! words -/
theorem word_step {r : List Str} (h : wordS r = "step") : stepS r = true := by
  cases r with
  | nil => exact absurd h (by decide +kernel)
  | cons z r =>
    rw [wordS_cons] at h
    by_cases c : stepS (z :: r) = true
    · exact c
    · exfalso
      rw [if_neg c] at h
      by_cases c2 : (z :: r = (["hand"] : List Str)) ∨ (z = "fact" ∧ factS r = true)
      · rw [if_pos c2] at h
        rcases c2 with e | ⟨e, _⟩
        · have : z = "hand" := (List.cons.inj e).1
          rw [this] at h
          exact absurd h (by decide +kernel)
        · rw [e] at h
          exact absurd h (by decide +kernel)
      · rw [if_neg c2] at h
        repeat' split at h
        all_goals exact absurd h (by decide +kernel)
theorem word_fact {r : List Str} (h : wordS r = "fact") : factS r.tail = true := by
  cases r with
  | nil => exact absurd h (by decide +kernel)
  | cons z r =>
    rw [wordS_cons] at h
    by_cases c : stepS (z :: r) = true
    · rw [if_pos c] at h
      exact absurd h (by decide +kernel)
    · rw [if_neg c] at h
      by_cases c2 : (z :: r = (["hand"] : List Str)) ∨ (z = "fact" ∧ factS r = true)
      · rcases c2 with e | ⟨_, e⟩
        · rw [if_pos (.inl e), (List.cons.inj e).1] at h
          exact absurd h (by decide +kernel)
        · exact e
      · rw [if_neg c2] at h
        repeat' split at h
        all_goals exact absurd h (by decide +kernel)
theorem word_first {r : List Str} (h : wordS r = "first") : ∃ s, r = [("first" : Str), s] ∧ (partsS s).isSome = true := by
  cases r with
  | nil => exact absurd h (by decide +kernel)
  | cons z r =>
    rw [wordS_cons] at h
    by_cases c : stepS (z :: r) = true
    · rw [if_pos c] at h
      exact absurd h (by decide +kernel)
    · rw [if_neg c] at h
      by_cases c2 : (z :: r = (["hand"] : List Str)) ∨ (z = "fact" ∧ factS r = true)
      · exfalso
        rw [if_pos c2] at h
        rcases c2 with e | ⟨e, _⟩
        · rw [(List.cons.inj e).1] at h
          exact absurd h (by decide +kernel)
        · rw [e] at h
          exact absurd h (by decide +kernel)
      · rw [if_neg c2] at h
        by_cases c3 : (z :: r).length ≠ 2
        · rw [if_pos c3] at h
          exact absurd h (by decide +kernel)
        · rw [if_neg c3] at h
          have l : r.length = 1 := by
            rw [List.length_cons] at c3
            omega
          obtain ⟨s, rfl⟩ := List.length_eq_one_iff.mp l
          by_cases c4 : z = "first"
          · rw [if_pos c4] at h
            by_cases c5 : (partsS (([s] : List Str).headD "")).isSome = true
            · exact ⟨s, by rw [c4], c5⟩
            · rw [if_neg c5] at h
              exact absurd h (by decide +kernel)
          · rw [if_neg c4] at h
            split at h
            all_goals exact absurd h (by decide +kernel)
theorem word_page {r : List Str} (h : wordS r = "page") : ∃ i : Nat, i < 31 ∧ r = [("page" : Str), Str.ofString (toString (1 + (i : Int)))] := by
  cases r with
  | nil => exact absurd h (by decide +kernel)
  | cons z r =>
    rw [wordS_cons] at h
    by_cases c : stepS (z :: r) = true
    · rw [if_pos c] at h
      exact absurd h (by decide +kernel)
    · rw [if_neg c] at h
      by_cases c2 : (z :: r = (["hand"] : List Str)) ∨ (z = "fact" ∧ factS r = true)
      · exfalso
        rw [if_pos c2] at h
        rcases c2 with e | ⟨e, _⟩
        · rw [(List.cons.inj e).1] at h
          exact absurd h (by decide +kernel)
        · rw [e] at h
          exact absurd h (by decide +kernel)
      · rw [if_neg c2] at h
        by_cases c3 : (z :: r).length ≠ 2
        · rw [if_pos c3] at h
          exact absurd h (by decide +kernel)
        · rw [if_neg c3] at h
          have l : r.length = 1 := by
            rw [List.length_cons] at c3
            omega
          obtain ⟨s, rfl⟩ := List.length_eq_one_iff.mp l
          by_cases c4 : z = "first"
          · rw [if_pos c4] at h
            split at h
            all_goals exact absurd h (by decide +kernel)
          · rw [if_neg c4] at h
            by_cases c5 : z = "page" ∧ ([s] : List Str).headD "" ∈ pagesS
            · obtain ⟨e, hm⟩ := c5
              have hm : s ∈ pagesS := hm
              unfold pagesS at hm
              obtain ⟨i, hi, rfl⟩ := List.mem_map.mp hm
              exact ⟨i, List.mem_range.mp hi, by rw [e]⟩
            · rw [if_neg c5] at h
              exact absurd h (by decide +kernel)
theorem first_row {rows : List (List Str)} (ne : rows ≠ []) (h : AllSt rows) : ∃ s rest, rows = [("first" : Str), s] :: rest ∧ (partsS s).isSome = true := by
  cases rows with
  | nil => exact absurd rfl ne
  | cons r rest =>
    have h0 := h 0 (by rw [List.length_cons]; omega)
    have h0 : canS (wordS r) [] = true := h0
    have h0 : decide (wordS r = "first") = true := h0
    obtain ⟨s, rfl, hs⟩ := word_first (of_decide_eq_true h0)
    exact ⟨s, rest, rfl, hs⟩
/-- a step stands behind a hand -/
theorem step_ahead {rows : List (List Str)} (h : AllSt rows) {i : Nat} (e : (wsS rows)[i]? = some ("step" : Str)) : ("hand" : Str) ∈ (wsS rows).take i := by
  have li : i < rows.length := by
    have := (List.getElem?_eq_some_iff.mp e).1
    unfold wsS at this
    rw [List.length_map] at this
    exact this
  have := h i li
  unfold standsAt at this
  rw [List.getD_eq_getElem?_getD, e] at this
  have this : canS "step" ((wsS rows).take i) = true := this
  unfold canS at this
  by_cases c : ((wsS rows).take i).isEmpty = true
  · rw [if_pos c] at this
    exact absurd this (by decide +kernel)
  · rw [if_neg c, if_neg (by decide +kernel), if_neg (by decide +kernel)] at this
    rw [show decide (("step" : Str) = "hand") = false by decide +kernel, Bool.false_or] at this
    exact of_decide_eq_true (Bool.and_eq_true_iff.mp this).2
end Mz
set_option Elab.async false
set_option linter.all false
set_option maxRecDepth 100000
set_option maxHeartbeats 4000000
namespace Mz
open PySem PySem.Spec PyProof.Rows L2
/-! a program made, or refused -/
/-- what is raised -/
def Raises (K : PySem.W.Frag) (F C cP cH cS cX cF cI : Addr) (H : Hp) (hv fv cv gv : V) (c : Addr) (u : V) : Prop :=
  (HsBad K H hv ∧ c = cP ∧ u = hv) ∨ ∃ a xs, hv = .ref a ∧ SqA H a xs ∧ 1 ≤ xs.length ∧ xs.length ≤ 3 ∧
    ((∃ (ib : Nat) (v : V), xs[ib]? = some v ∧ (∀ j, j < ib → ∃ b ss, xs[j]? = some (.ref b) ∧ HdG K C H b ss ∧ ss.length ≤ 12 ∧ locksFrom [] ss = true) ∧ BadHd K C cH cS H v c u) ∨
     ∃ (as : List Addr) (hs : List (List StpD)), xs = as.map V.ref ∧ Lk (HdG K C H) as hs ∧ (∀ h ∈ hs, h.length ≤ 12 ∧ locksFrom [] h = true) ∧
       ((NoPl K C H fv ∧ ofV fv = none ∧ c = cX ∧ u = fv) ∨ ∃ z k, Pv6 K C H fv z k ∧ Good z k ∧
         ((cv ≠ .non ∧ (∃ ty, TyX K H cv ty ∧ PySem.W.kitOne K ty (.ref F) = some false) ∧ c = cF ∧ u = cv) ∨ ∃ rws, ((cv = .non ∧ rws = []) ∨ ∃ f, cv = .ref f ∧ Fac F C H f rws) ∧
           ((gv ≠ .non ∧ Kd K H gv ∧ inB 1 (32 - 1) gv = false ∧ c = cI ∧ u = gv) ∨ ∃ pg, PgV gv pg ∧ (∀ i, pg = some i → 1 ≤ i ∧ i ≤ 31) ∧ (prAll z k hs rws).length < 60 ∧
             (14 < (prAll z k hs rws).length ∨ ∀ ys, Unk (prAll z k hs rws) ys → capP pg < ys.length) ∧ c = cP ∧ u = hv))))
/-- what is made -/
def Makes (K : PySem.W.Frag) (F C : Addr) (H : Hp) (hv fv cv gv : V) : Prop := ∃ (a : Addr) (as : List Addr) (hs : List (List StpD)) (z : Str) (k : Int) (rws : List Row) (pg : Option Int), hv = .ref a ∧ SqA H a (as.map V.ref) ∧ Lk (HdG K C H) as hs ∧ 1 ≤ hs.length ∧ hs.length ≤ 3 ∧ (∀ h ∈ hs, h.length ≤ 12 ∧ locksFrom [] h = true) ∧
  Pv6 K C H fv z k ∧ Good z k ∧ ((cv = .non ∧ rws = []) ∨ ∃ f, cv = .ref f ∧ Fac F C H f rws) ∧ PgV gv pg ∧ (∀ i, pg = some i → 1 ≤ i ∧ i ≤ 31) ∧ (prAll z k hs rws).length ≤ 14 ∧ ∀ ys, Unk (prAll z k hs rws) ys → ys.length ≤ capP pg
theorem Raises.init {K : PySem.W.Frag} {G F C cP cH cS cX cF cI p dx c : Addr} {H H1 : Hp} {hv fv cv gv u : V} {Q : VK} {E : XK} (h : Raises K F C cP cH cS cX cF cI H hv fv cv gv c u) (rs : Rs H E c u) (np : H p = none) (s : Same H H1) (hp : H1 p = some (.ins G dx [])) :
    spInitP K G F C cP cH cS cX cF cI [.ref p, hv, fv, cv, gv] H1 Q E := by
  refine ⟨p, dx, hv, fv, cv, gv, H, rfl, np, s, hp, ?_⟩
  rcases h with ⟨hb, rfl, rfl⟩ | ⟨a, xs, e, ha, h1, h3, h⟩
  · exact .inl ⟨hb, rs⟩
  · refine .inr ⟨a, xs, e, ha, h1, h3, ?_⟩
    rcases h with ⟨ib, v, hv, hg, hb⟩ | ⟨as, hs, e2, hd, hl, h⟩
    · refine ⟨ib, hg, fun v' hv' => ?_, fun e => ?_⟩
      · rw [hv] at hv'
        cases hv'
        exact ⟨c, u, hb, rs⟩
      · rw [hv] at e
        cases e
    · have ld := hd.length
      refine ⟨xs.length, fun j hj => ?_, fun v hv => ?_, fun _ => ⟨as, hs, e2, hd, hl, ?_⟩⟩
      · rw [e2, List.length_map] at hj
        have hj' : as[j]? = some as[j] := List.getElem?_eq_getElem hj
        obtain ⟨ss, hss, g⟩ := hd.get hj'
        obtain ⟨k1, k2⟩ := hl ss (List.mem_of_getElem? hss)
        exact ⟨as[j], ss, by rw [e2, List.getElem?_map, hj']; rfl, g, k1, k2⟩
      · rw [List.getElem?_eq_none (Nat.le_refl _)] at hv
        cases hv
      · rcases h with ⟨n, o, rfl, rfl⟩ | ⟨z, k, pv, g, h⟩
        · exact .inl ⟨n, o, rs⟩
        · refine .inr ⟨z, k, pv, g, ?_⟩
          rcases h with ⟨n, o, rfl, rfl⟩ | ⟨rws, hc, h⟩
          · exact .inl ⟨n, o, rs⟩
          · refine .inr ⟨rws, hc, ?_⟩
            rcases h with ⟨n, o, i, rfl, rfl⟩ | ⟨pg, p1, p2, l60, l, rfl, rfl⟩
            · exact .inl ⟨n, o, i, rs⟩
            · exact .inr ⟨pg, p1, p2, l60, .inl ⟨l, rs⟩⟩
theorem Makes.init {K : PySem.W.Frag} {G F C cP cH cS cX cF cI p dx : Addr} {H H1 : Hp} {hv fv cv gv : V} {Q : VK} {E : XK} (h : Makes K F C H hv fv cv gv) (q : ∀ H', Same H H' → Q .non H') (np : H p = none) (s : Same H H1) (hp : H1 p = some (.ins G dx [])) :
    spInitP K G F C cP cH cS cX cF cI [.ref p, hv, fv, cv, gv] H1 Q E := by
  obtain ⟨a, as, hs, z, k, rws, pg, e, ha, hd, h1, h3, hl, pv, g, hc, p1, p2, l14, lu⟩ := h
  have ld := hd.length
  refine ⟨p, dx, hv, fv, cv, gv, H, rfl, np, s, hp, .inr ⟨a, _, e, ha, by rw [List.length_map]; omega, by rw [List.length_map]; omega, (as.map V.ref).length, fun j hj => ?_, fun v hv => ?_, fun _ => ⟨as, hs, rfl, hd, hl, .inr ⟨z, k, pv, g, .inr ⟨rws, hc, .inr ⟨pg, p1, p2, by omega, .inr ⟨l14, lu, fun H' s' _ => q H' s'⟩⟩⟩⟩⟩⟩⟩
  · rw [List.length_map] at hj
    have hj' : as[j]? = some as[j] := List.getElem?_eq_getElem hj
    obtain ⟨ss, hss, g⟩ := hd.get hj'
    obtain ⟨k1, k2⟩ := hl ss (List.mem_of_getElem? hss)
    exact ⟨as[j], ss, by rw [List.getElem?_map, hj']; rfl, g, k1, k2⟩
  · rw [List.getElem?_eq_none (Nat.le_refl _)] at hv
    cases hv
end Mz
set_option Elab.async false
set_option linter.all false
set_option maxRecDepth 100000
set_option maxHeartbeats 4000000
namespace Mz
open PySem PySem.Spec PyProof.Rows L2
/-! rows in a heap -/
/-- rows as tuples of texts -/
def TpS (H : Hp) (a : Addr) (r : List Str) : Prop := H a = some (.tup (r.map V.str))
theorem TpS.same {H H' : Hp} {a : Addr} {r : List Str} (s : Same H H') (h : TpS H a r) : TpS H' a r := s _ _ h
theorem lk_fcts {K : PySem.W.Frag} {C : Addr} {H : Hp} (N : Npl K C) : ∀ {fs : List Addr} {rs : List (List Str)}, Lk (TpS H) fs (rs.map List.tail) → (∀ r ∈ rs, wordS r = "fact" ∧ RowOk r) → Lk (RwG K C H) fs (rs.map fun r => fctOf r.tail)
  | _, [], .nil, _ => .nil
  | _, r :: rs, .cons h t, g => by
    obtain ⟨h1, h2⟩ := g r List.mem_cons_self
    exact .cons (rwg_str N h (fun s hs => (h2.2.2 s (List.mem_of_mem_tail hs)).1.mono (by decide)) (word_fact h1)) (lk_fcts N t fun x m => g x (List.mem_cons_of_mem _ m))
theorem mk_factsX {K : PySem.W.Frag} {C F cR cF x dx : Addr} {H : Hp} {as : List Addr} {rws : List Row} {Q : VK} {E : XK} (nx : H x = Option.none) (ndx : H dx = Option.none) (hR : Lk (RwG K C H) as rws) (hn : rws.length ≤ 20) (h2 : ∀ ys, Unk (plsOf rws) ys → ¬ ys.length ≤ 2)
    (q : ∀ d t xs H', H d = none → Same H H' → H' d = some (.xd [("value", .ref t)]) → H' t = some (.tup xs) → E (.ref cF) (some d) H') : spMakeF K C F cR cF (V.ref x :: as.map V.ref) (upd (upd H dx (.own x)) x (.ins F dx [])) Q E := by
  have sm : Same H (upd (upd H dx (.own x)) x (.ins F dx [])) := fun b o e => by
    rw [upd_ne (ne_of_none e nx), upd_ne (ne_of_none e ndx)]
    exact e
  have tx : upd (upd H dx (.own x)) x (.ins F dx []) x = some (.ins F dx []) := upd_same
  generalize upd (upd H dx (.own x)) x (.ins F dx []) = H1 at sm tx
  have lR := hR.length
  refine ⟨[.ref x], as.map V.ref, rfl, rfl, ?_, fun p np => ?_⟩
  · rw [List.length_map]
    exact Nat.le_trans (show as.length ≤ 100 by omega) (by decide)
  have s2 : Same H1 (upd H1 p (.tup (as.map V.ref))) := same_nw np
  have t2 : upd H1 p (.tup (as.map V.ref)) p = some (.tup (as.map V.ref)) := upd_same
  generalize upd H1 p (.tup (as.map V.ref)) = H2 at s2 t2
  have s02 := sm.trans s2
  refine ⟨x, dx, p, _, rfl, s2 _ _ tx, t2, by rw [List.length_map]; omega, .inl ⟨as, rws, rfl, hR.imp fun _ _ r => r.same s02, .inr ⟨h2, fun d H3 nd s3 hd => ?_⟩⟩⟩
  exact q d p _ H3 (s02.free nd) (s02.trans s3) hd (s3 _ _ t2)
theorem cutV_mid (xs : List V) (i j : Nat) : cutV xs (some (i : Int)) (some (j : Int)) = (xs.drop i).take (j - i) := by
  unfold cutV
  rw [HT.sIx_nat, HT.sIx_nat]
  rcases Nat.le_total i xs.length with h | h
  · rw [Nat.min_eq_left h]
    rcases Nat.le_total j xs.length with h2 | h2
    · rw [Nat.min_eq_left h2]
    · rw [Nat.min_eq_right h2]
      rw [List.take_of_length_le (by rw [List.length_drop]; omega), List.take_of_length_le (by rw [List.length_drop]; omega)]
  · rw [Nat.min_eq_right h, List.drop_of_length_le (Nat.le_refl _), List.drop_of_length_le h]
    simp
theorem one_is {l : List Str} {z : Str} : (l.drop 1).take 1 = [z] ↔ l[1]? = some z := by
  match l with
  | [] => simp
  | [a] => simp
  | a :: b :: r => simp
theorem page_int : ∀ i : Nat, i < 31 → PySem.intText? (Str.ofString (toString (1 + (i : Int)))) = some (1 + (i : Int)) ∧ (Str.ofString (toString (1 + (i : Int)))).length ≤ 640 := by
  intro i hi
  have : (1 + (i : Int)) = ((1 + i : Nat) : Int) := by omega
  rw [this]
  have l : (TL.numL (1 + i)).length ≤ 2 := by
    by_cases h : 1 + i < 10
    · rw [TL.numL_lt h]
      exact Nat.le_succ 1
    · rw [TL.numL_step (by omega), TL.numL_lt (by omega)]
      exact Nat.le_refl 2
  refine ⟨TL.int_num (by omega), ?_⟩
  rw [TL.len_tl, TL.tl_num]
  omega
/-- there is one page size -/
theorem PgR.eq {rows : List (List Str)} {p q : Option Int} (h : PgR rows p) (g : PgR rows q) : p = q := by
  rcases h with ⟨h1, rfl⟩ | ⟨i, hi, h1, h2, rfl⟩ <;> rcases g with ⟨g1, rfl⟩ | ⟨j, hj, g1, g2, rfl⟩
  · rfl
  · exact absurd g2 h1
  · exact absurd h2 g1
  · rw [h1] at g1
    have e := Option.some.inj g1
    have e := (List.cons.inj (List.cons.inj e).2).1
    have a := (page_int i hi).1
    rw [e, (page_int j hj).1] at a
    exact a.symm
/-- a value, and what comes behind it -/
theorem seq_val {te : TE} {i : Nat} {r : TS} {D : Ends} {σ : L2.St} {H : Hp} (J : V → Hp → Prop) (hj : ∀ v H', J v H' → r D (σ.set i (some v)) H') (h : (∀ v H', J v H' → r D (σ.set i (some v)) H') → tSeq (tAsg te (gName i)) r D σ H) : tSeq (tAsg te (gName i)) r D σ H := h hj
/-! hands -/
theorem lk_dl {α β : Type} {R : α → β → Prop} : ∀ {xs : List α} {ys : List β}, Lk R xs ys → Lk R xs.dropLast ys.dropLast
  | _, _, .nil => .nil
  | _, _, .cons h .nil => .nil
  | _, _, .cons h (.cons g t) => by
    rw [List.dropLast_cons₂, List.dropLast_cons₂]
    exact .cons h (lk_dl (.cons g t))
theorem lk_gl {α β : Type} {R : α → β → Prop} : ∀ {xs : List (List α)} {ys : List (List β)}, Lk (Lk R) xs ys → Lk R (xs.getLast?.getD []) (ys.getLast?.getD [])
  | _, _, .nil => .nil
  | _, _, .cons h .nil => h
  | _, _, .cons h (.cons g t) => by
    rw [List.getLast?_cons_cons, List.getLast?_cons_cons]
    exact lk_gl (.cons g t)
theorem lk_fold {α β : Type} {R : α → β → Prop} : ∀ {as : List α} {bs : List β} (ws : List Str), Lk R as bs → ∀ {xs : List (List α)} {ys : List (List β)}, Lk (Lk R) xs ys → Lk (Lk R) ((as.zip ws).foldl stepG xs) ((bs.zip ws).foldl stepG ys)
  | _, _, _, .nil, _, _, g => g
  | _, _, [], .cons _ _, _, _, g => g
  | _, _, w :: ws, .cons h t, xs, ys, g => by
    refine lk_fold ws t ?_
    unfold stepG
    dsimp only
    split
    · exact g.append (.one .nil)
    · split
      · exact (lk_dl g).append (.one ((lk_gl g).append (.one h)))
      · exact g
theorem lk_hands {α β : Type} {R : α → β → Prop} {as : List α} {bs : List β} (ws : List Str) (h : Lk R as bs) : Lk (Lk R) (handsG (as.zip ws)) (handsG (bs.zip ws)) := lk_fold ws h .nil
/-- what stands in a hand is a step -/
theorem fold_mem {α : Type} : ∀ (ps : List (α × Str)) (acc : List (List α)) {g : List α} {x : α}, g ∈ ps.foldl stepG acc → x ∈ g → (∃ g ∈ acc, x ∈ g) ∨ (x, ("step" : Str)) ∈ ps
  | [], acc, g, x, h, hx => .inl ⟨g, h, hx⟩
  | p :: ps, acc, g, x, h, hx => by
    rcases fold_mem ps (stepG acc p) h hx with ⟨g', hg, hx⟩ | h
    · unfold stepG at hg
      split at hg
      · rcases List.mem_append.mp hg with hg | hg
        · exact .inl ⟨g', hg, hx⟩
        · rw [List.mem_singleton.mp hg] at hx
          cases hx
      · split at hg
        · rename_i e
          rcases List.mem_append.mp hg with hg | hg
          · exact .inl ⟨g', List.dropLast_subset _ hg, hx⟩
          · rw [List.mem_singleton.mp hg] at hx
            rcases List.mem_append.mp hx with hx | hx
            · cases el : acc.getLast? with
              | none =>
                rw [el] at hx
                cases hx
              | some y =>
                rw [el] at hx
                exact .inl ⟨y, List.mem_of_getLast? el, hx⟩
            · refine .inr (List.mem_cons.mpr (.inl ?_))
              rw [List.mem_singleton.mp hx]
              exact Prod.ext rfl e.symm
        · exact .inl ⟨g', hg, hx⟩
    · exact .inr (List.mem_cons_of_mem _ h)
theorem hands_mem {rows : List (List Str)} {g : List (List Str)} {r : List Str} (h : g ∈ handsG (rows.zip (wsS rows))) (hr : r ∈ g) : r ∈ rows ∧ wordS r = "step" := by
  rcases fold_mem _ _ h hr with ⟨_, h, _⟩ | h
  · cases h
  · obtain ⟨i, hi⟩ := List.mem_iff_getElem?.mp h
    obtain ⟨h1, h2⟩ := List.getElem?_zip_eq_some.mp hi
    unfold wsS at h2
    have h1 : rows[i]? = some r := h1
    rw [List.getElem?_map, h1] at h2
    exact ⟨List.mem_of_getElem? h1, Option.some.inj h2⟩
theorem lk_stps {K : PySem.W.Frag} {C : Addr} {H : Hp} (N : Npl K C) : ∀ {as : List Addr} {g : List (List Str)}, Lk (TpS H) as g → (∀ r ∈ g, wordS r = "step" ∧ RowOk r) → Lk (StG K C H) as (g.map stpOf)
  | _, [], .nil, _ => .nil
  | _, r :: g, .cons h t, k => by
    obtain ⟨h1, h2⟩ := k r List.mem_cons_self
    exact .cons (stg_str N h (fun s hs => (h2.2.2 s hs).1.mono (by decide)) (word_step h1)) (lk_stps N t fun x m => k x (List.mem_cons_of_mem _ m))
/-- the hands, as they are read -/
theorem lk_hds {K : PySem.W.Frag} {C p : Addr} {H H' : Hp} {rs ls : List Addr} {rows : List (List Str)} (N : Npl K C) (ok : RowsOk rows) (hL : Lk (TpS H) rs rows) (s : Same H H') (h : Lk (fun l g => H l = none ∧ l ≠ p ∧ H' l = some (.lst (g.map V.ref))) ls (handsG (rs.zip (wsS rows)))) :
    Lk (HdG K C H') ls (hsS rows) := by
  have h2 := lk_hands (wsS rows) hL
  unfold hsS
  have k := fun (g : List (List Str)) (hg : g ∈ handsG (rows.zip (wsS rows))) (r : List Str) (hr : r ∈ g) => hands_mem hg hr
  generalize handsG (rs.zip (wsS rows)) = xs at h h2
  generalize handsG (rows.zip (wsS rows)) = ys at h2 k
  induction h generalizing ys with
  | nil =>
    cases h2
    exact .nil
  | cons h1 t ih =>
    cases h2 with
    | cons g1 g2 =>
      refine .cons ⟨_, .inl h1.2.2, lk_stps N (g1.imp fun _ _ x => TpS.same s x) fun r hr => ?_⟩ (ih _ g2 fun g hg => k g (List.mem_cons_of_mem _ hg))
      obtain ⟨a, b⟩ := k _ List.mem_cons_self r hr
      exact ⟨b, ok.row r a⟩
end Mz
set_option Elab.async false
set_option linter.all false
set_option maxRecDepth 100000
set_option maxHeartbeats 4000000
namespace Mz
open PySem PySem.Spec PyProof.Rows L2
/-! what is no program -/
def spCkP (K : PySem.W.Frag) (G cP : Addr) : Sp := fun vs H Q E => ∃ v : V, vs = [v] ∧ (∃ ty, TyX K H v ty ∧ PySem.W.kitOne K ty (.ref G) = some false) ∧ Rs H E cP v
section
variable {P : Program} {w : World} {K : PySem.W.Frag} {mg : Str → Option Value} {base : Heap}
theorem scCkP : FnScope ["value"] ["value"] (defScope sCheckProgram) := ⟨rfl, rfl, rfl, by decide +kernel, rfl, by decide +kernel, by decide +kernel⟩
theorem ok_ckP {f fXP G cP : Addr} {fd dXP : FuncData} (F : Fun K "check_program" "check_program" sCheckProgram f fd) (D : Blp mg) (TP : Pcl K mg G) (XP : Xr P w K mg base "InvalidProgram" cP fXP dXP) : FnOk P w K mg base (L2.CX P w) 3 f fd ["value"] (spCkP K G cP) := by
  refine F.okX scCkP (fun vs H Q E h => ?_) (fun cdv A outer s H vs Q E hr h => ?_)
  · obtain ⟨v, rfl, _⟩ := h
    rfl
  · obtain ⟨v, rfl, ⟨ty, t1, t2⟩, rs⟩ := h
    have hr2 : Room 2 _ := hr
    refine ⟨_, (pss_one (ps_if (pt_not (pt_val (pe_callB call_isi (by rfl) D.isi (by decide +kernel) (pa_cons (pv 0) (pa_cons (pe_glob (v := .ref G) rfl TP.mgG rfl) pa_nil))))) (pss_one (ps_raise rfl (takes_of rfl rfl rfl rfl) (pmk_oex XP.T.ox XP.i XP.t XP.G hr2 XP.b .nil pass0 (by rfl) XP.T.m (pa_cons (pv 0) pa_nil)))) pss_nil)), ?_⟩
    refine ⟨_, rfl, v, .ref G, _, _, _, rfl, .own G, t1, t2, _, rfl, ?_⟩
    exact iteT (raiseRs rfl (Same.refl H) rs)
end
end Mz
set_option Elab.async false
set_option linter.all false
set_option maxRecDepth 100000
set_option maxHeartbeats 4000000
namespace Mz
open PySem PySem.Spec PyProof.Rows L2
/-! the text of what is no program -/
section
variable {P : Program} {w : World} {K : PySem.W.Frag} {mg : Str → Option Value} {base : Heap}
theorem scTxt : FnScope ["program", "lines", "steps"] ["program"] (defScope sProgramText) := ⟨rfl, rfl, rfl, by decide +kernel, rfl, by decide +kernel, by decide +kernel⟩
theorem ok_txt {f fC G cP : Addr} {fd fdC : FuncData} (F : Fun K "program_text" "program_text" sProgramText f fd) (GC : FnOk P w K mg base (L2.CX P w) 3 fC fdC ["value"] (spCkP K G cP)) (mC : mg "check_program" = some (.ref fC)) (kC : PySem.W.keepIn K (.ref fC) = true) (bC : Binds K fdC ["value"] []) :
    FnOk P w K mg base (L2.CX P w) 4 f fd ["program"] (spCkP K G cP) := by
  refine F.okX scTxt (fun vs H Q E h => ?_) (fun cdv A outer s H vs Q E hr3 h => ?_)
  · obtain ⟨v, rfl, _⟩ := h
    rfl
  · obtain ⟨v, rfl, ht, rs⟩ := h
    refine ⟨_, (pss_cons (ps_expr (pe_callS GC hr3 (by rfl) mC kC bC (fun σ => passAt (takes_of rfl rfl rfl rfl) σ) (pa_cons (pv 0) pa_nil))) pss_never), ?_⟩
    exact ⟨_, rfl, v, rfl, ht, fun d H' nd s' hd => rs d H' nd s' hd⟩
end
end Mz
set_option Elab.async false
set_option linter.all false
set_option maxRecDepth 100000
set_option maxHeartbeats 4000000
/-! repr of nested lists and tuples that hold instances; defs told what is being shown around them -/
namespace Mz
open PySem PySem.Spec PyProof.Rows L2
/-- nothing that is fresh is being shown -/
def Fr (g : List Code) (H : Hp) : Prop := ∀ b, H b = none → Clear g b
theorem Fr.same {g : List Code} {H H' : Hp} (h : Fr g H) (s : Same H H') : Fr g H' := fun b e => h b (s.free e)
theorem Fr.nil {H : Hp} : Fr [] H := fun b _ => Clear.nil b
theorem Fr.push {g : List Code} {H : Hp} {a : Addr} {o : HO} {id : String} {rest : List Value} {kw : List (Str × Value)} (h : Fr g H) (e : H a = some o) : Fr (.builtin id ⟨.ref a :: rest, kw⟩ :: g) H := fun b hb => (h b hb).cons fun z => by
  rw [z, hb] at e
  cases e
/-- v is shown as t, where the containers as and what is fresh are not being shown -/
def ShW (X : Cx) (k : Nat) (as : List Addr) (Pre : Hp → Prop) (v : V) (t : Str) : Prop :=
  ∀ (base : Nat), base + t.length ≤ sizeLine → ∀ (A : Around) (g : List Code) (pins : List (Addr × Obj)) (σ : L2.St) (H : Hp) (s : Shared) (u : Value) (Q : Str → Shared → Prop), A.frames = some X.stack → A.guards = some g → (∀ b ∈ as, Clear g b) → Fr g H → Room k A →
    Inv X pins σ H s → Pre H → RelV v u → (∀ H' s', Inv X pins σ H' s' → Same H H' → Q t s') → wpAny (model X.prog X.w) A (pyReprUnder base u) Q X.xe s
section
variable {X : Cx} {k : Nat} {as : List Addr} {Pre : Hp → Prop}
theorem ShV.w {v : V} {t : Str} (h : ShV X k as Pre v t) : ShW X k as Pre v t := fun base hb A g pins σ H s u Q f1 f2 f3 _ => h base hb A g pins σ H s u Q f1 f2 f3
theorem ShW.more {as' : List Addr} {v : V} {t : Str} (h : ShW X k as Pre v t) (sub : ∀ b ∈ as, b ∈ as') : ShW X k as' Pre v t := fun base hb A g pins σ H s u Q f1 f2 f3 => h base hb A g pins σ H s u Q f1 f2 fun b m => f3 b (sub b m)
theorem ShW.lift {j : Nat} {v : V} {t : Str} (h : ShW X j as Pre v t) (le : j ≤ k) : ShW X k as Pre v t := fun base hb A g pins σ H s u Q f1 f2 f3 f4 f5 => h base hb A g pins σ H s u Q f1 f2 f3 f4 (f5.mono le)
theorem ShW.pre {Pre2 : Hp → Prop} {v : V} {t : Str} (h : ShW X k as Pre v t) (i : ∀ H, Pre2 H → Pre H) : ShW X k as Pre2 v t := fun base hb A g pins σ H s u Q f1 f2 f3 f4 f5 f6 f7 => h base hb A g pins σ H s u Q f1 f2 f3 f4 f5 f6 (i H f7)
theorem shw_non : ShW X k as Pre .non (PyData.shown .none) := ShV.w (shv_is fun u r => by
  obtain rfl : u = Value.none := r
  simpa only [PyData.shown] using ReprIs.none)
theorem shw_bl {b : Bool} : ShW X k as Pre (.bl b) (PyData.shown (.bool b)) := ShV.w (shv_is fun u r => by
  obtain rfl : u = Value.bool b := r
  simpa only [PyData.shown] using ReprIs.bool b)
/-! tuples -/
theorem frames_code {A : Around} {l : List Env} {id : String} {args : Args} (hid : Code.isFrame (.builtin id args) = false) (h : A.frames = some l) : (A.under (.builtin id args)).frames = some l := by
  first | exact h | (simpa [Around.under, Code.envs, hid, pushEnvs] using h)
theorem room_code {A : Around} {j : Nat} {id : String} {args : Args} (hcu : (A.under (.builtin id args)).units = A.units + 1) (hcd : (A.under (.builtin id args)).depth ≤ A.depth + 1) (r : Room (j + 1) A) : Room j (A.under (.builtin id args)) :=
  ⟨r.hd, by have := r.dp; omega, by have := r.un; rw [hcu]; omega⟩
theorem fold_own {A : Around} {g : List Code} {pins : List (Addr × Obj)} {σ : L2.St} (hfr : A.frames = some X.stack) (hg : A.guards = some g) (hcl : ∀ b ∈ as, Clear g b) (hr : Room k A) (mono : ∀ H H', Same H H' → Pre H → Pre H') :
    ∀ (vs : List V) (us : List Value) (ts : List Str) (acc : Array Str) (n : Nat) (H : Hp) (s : Shared) (Q : (Array Str × Nat) → Shared → Prop), Vals vs us → Lk (fun v t => ShW X k as Pre v t) vs ts → n + piled ts ≤ sizeLine → Inv X pins σ H s → Pre H → Fr g H →
    (∀ H' s', Inv X pins σ H' s' → Same H H' → Q ⟨acc ++ ts.toArray, n + piled ts⟩ s') → wpAny (model X.prog X.w) A (forIn us (⟨acc, n⟩ : (Array Str × Nat)) tupBody) Q X.xe s := by
  intro vs
  induction vs with
  | nil =>
    intro us ts acc n H s Q rv hT _ I _ _ h
    cases hT
    cases rv
    rw [List.forIn_nil]
    refine wpAny_pure ?_
    have z := h H s I (Same.refl H)
    simpa [piled] using z
  | cons v vs ih =>
    intro us ts acc n H s Q rv hT hn I pre fr h
    cases hT with
    | @cons _ t _ ts2 hv hl =>
    cases rv with
    | @cons _ u _ us2 r1 r2 =>
    have ep : n + piled (t :: ts2) = n + (t.length + 2) + piled ts2 := by
      rw [piled_cons]
      omega
    rw [ep] at hn
    rw [List.forIn_cons]
    refine wpAny_bind (wpAny_bind (hv (n + 1) (by omega) A g pins σ H s u (fun t2 s2 => t2 = t ∧ ∃ H', Inv X pins σ H' s2 ∧ Same H H') hfr hg hcl fr hr I pre r1 (fun H' s' I' sm => ⟨rfl, H', I', sm⟩) |> fun z => wpAny_mono z (fun t2 s2 hh => ?_) fun _ _ e => e))
    obtain ⟨rfl, H', I', sm⟩ := hh
    refine wpAny_pure (ih us2 ts2 (acc.push t2) _ H' s2 Q r2 hl hn I' (mono _ _ sm pre) (fr.same sm) fun H2 s3 I2 sm2 => ?_)
    have z := h H2 s3 I2 (sm.trans sm2)
    rw [ep] at z
    simpa using z
/-- the body of tuple.__repr__ -/
theorem tup_own {A : Around} {g : List Code} {pins : List (Addr × Obj)} {σ : L2.St} {a : Addr} {vs : List V} {ts : List Str} {base : Nat} {id : String} {rest : List Value} {R : Result → Shared → Prop} {H : Hp} {s : Shared} (hcg : (Code.builtin id ⟨.ref a :: rest, []⟩).isGuard = true)
    (hcf : Code.isFrame (.builtin id ⟨.ref a :: rest, []⟩) = false) (hcu : (A.under (.builtin id ⟨.ref a :: rest, []⟩)).units = A.units + 1) (hcd : (A.under (.builtin id ⟨.ref a :: rest, []⟩)).depth ≤ A.depth + 1) (hfr : A.frames = some X.stack) (hg : A.guards = some g) (hcl : ∀ b ∈ a :: as, Clear g b) (hr : Room (k + 1) A) (hna : a ∉ as)
    (mono : ∀ H H', Same H H' → Pre H → Pre H') (hT : Lk (fun v t => ShW X k as Pre v t) vs ts) (hsz : base + (tupleText ts).length ≤ sizeLine) (hE : ∀ e s', X.xe e s' → R (.error e) s') (I : Inv X pins σ H s) (pre : Pre H) (fr : Fr g H) (hA : H a = some (.tup vs))
    (q : ∀ H' s' u, Inv X pins σ H' s' → Same H H' → R (.ok (.ret (.str (tupleText ts) u))) s') :
    wpOwn (model X.prog X.w) A (.builtin id ⟨.ref a :: rest, []⟩) (Builtin.tupleReprAt base ⟨[.ref a], []⟩) (fun fin s' => match fin with | .done f => R (.ok f) s' | .again c' => c'.quiet = true ∧ codeAny (model X.prog X.w) A c' R s') (fun e s' => R (.error e) s') s := by
  have cl : Clear g a := hcl a List.mem_cons_self
  obtain ⟨_, its, rv, o, ho, hc, n, hd⟩ := (show ObjOk X.prog X.w H s.heap a (.tup vs) from I.hok a _ hA)
  have pl := piled_le_tupleText ts
  have len : ts.length = its.length := by rw [← hT.length, rv.length]
  have way : (g.any fun c => tupGuardF (.ref a) (c, default)) = false := List.any_eq_false.mpr fun c hm => by
    rw [tupGuardF_of_clear cl c hm]
    exact Bool.false_ne_true
  rw [tuple_repr_tree, tupleReprUnderWay_eq]
  refine wpOwn_bind (wpOwn_stackTailAny hg (tupGuardF_off _) (tupGuardF_pos _) (by
    rw [way]
    refine wpOwn_of_wpAny ?_
    show wpAny _ _ (tupleReprRest base (.ref a)) _ _ s
    unfold tupleReprRest Builtin.Tuple.tupleItemsOf
    refine wpAny_bind (wpAny_bind (wpAny_seqItems ho hd (wpAny_pure ?_)))
    rw [← Array.forIn_toList]
    refine wpAny_bind (wpAny_mono (fold_own (frames_code hcf hfr) (guards_under_guard hcg hg) (fun b hb => (hcl b (.tail _ hb)).cons (a := a) fun e => hna (e ▸ hb)) (room_code hcu hcd hr) mono vs its ts #[] base H s (fun x s2 => x = ⟨#[] ++ ts.toArray, base + piled ts⟩ ∧ ∃ H', Inv X pins σ H' s2 ∧ Same H H') rv hT (by omega) I pre (fr.push hA) fun H' s' I' sm => ⟨rfl, H', I', sm⟩) (fun x s2 hx => ?_) fun e s2 z => hE e s2 z)
    obtain ⟨rfl, H', I', sm⟩ := hx
    refine wpAny_bind (wpAny_mkStr (wpAny_pure ?_) (by simpa [tupleText, len] using (show (tupleText ts).length ≤ sizeLine by omega)))
    have z := q H' { s2 with toks := s2.toks + 1 } s2.toks (I'.tok _) sm
    simpa [tupleText, len] using z))
theorem tup_depth {A : Around} {args : Args} : (A.under (.builtin "tuple.__repr__" args)).depth ≤ A.depth + 1 := by
  first | exact Nat.le_refl _ | (simp [Around.under, Code.weight, Code.isCreation, Code.isGuard, Code.isCaller, Code.frames, Code.isFrame, guardIds])
theorem tupu_depth {A : Around} {args : Args} : (A.under (.builtin "tuple.__repr__.under" args)).depth ≤ A.depth + 1 := by
  first | exact Nat.le_refl _ | (simp [Around.under, Code.weight, Code.isCreation, Code.isGuard, Code.isCaller, Code.frames, Code.isFrame, guardIds])
/-- a tuple in a container -/
theorem shw_tup {a : Addr} {vs : List V} {ts : List Str} (hna : a ∉ as) (mono : ∀ H H', Same H H' → Pre H → Pre H') (hT : Lk (fun v t => ShW X k as Pre v t) vs ts) (hA : ∀ H, Pre H → H a = some (.tup vs)) : ShW X (k + 1) (a :: as) Pre (.ref a) (tupleText ts) := by
  intro base hb A g pins σ H s u Q hfr hg hcl fr hr I pre r q
  obtain rfl : u = Value.ref a := r
  obtain ⟨_, its, rv, o, ho, hc, n, hd⟩ := (show ObjOk X.prog X.w H s.heap a (.tup vs) from I.hok a _ (hA H pre))
  have hun := hr.units
  refine wpAny_pyReprUnder_ref (by omega) (wpAny_pyReprObjUnder_twin (twin := "tuple.__repr__.under") ⟨o, ho, hc⟩ PySem.F.slot_tuple_repr rfl (by omega) ?_)
  exact call_twin_own (PySem.F.quiet_tuple_repr_under _) PySem.F.entry_tuple_repr_under PySem.F.check_tuple_repr_under ⟨o, ho, hc⟩ PySem.F.slot_tuple_repr (PySem.F.args_tuple_repr_1 _)
    (tup_own (R := callEnd (fun v s' => (∃ x u, v = Value.str x u) ∧ ∃ x u, v = .str x u ∧ Q x s') X.xe) (isGuard_tuple_repr_under _) rfl (units_under_tuple_repr_under _ _) tupu_depth hfr hg hcl hr hna mono hT hb (fun _ _ z => z) I pre fr (hA H pre) fun H' s' u I' sm => ⟨⟨_, _, rfl⟩, _, _, rfl, q H' s' I' sm⟩)
/-- repr of a tuple as a call of pyReprObj -/
theorem objRepr_tup {A : Around} {g : List Code} {pins : List (Addr × Obj)} {σ : L2.St} {H : Hp} {s : Shared} {Q : Value → Shared → Prop} {a : Addr} {vs : List V} {ts : List Str} (hna : a ∉ as) (mono : ∀ H H', Same H H' → Pre H → Pre H') (hT : Lk (fun v t => ShW X k as Pre v t) vs ts) (hsz : (tupleText ts).length ≤ sizeLine)
    (hfr : A.frames = some X.stack) (hg : A.guards = some g) (hcl : ∀ b ∈ a :: as, Clear g b) (fr : Fr g H) (hr : Room (k + 1) A) (I : Inv X pins σ H s) (pre : Pre H) (hA : H a = some (.tup vs)) (q : ∀ H' s' u, Inv X pins σ H' s' → Same H H' → Q (.str (tupleText ts) u) s') : wpAny (model X.prog X.w) A (pyReprObj (.ref a)) Q X.xe s := by
  obtain ⟨_, its, rv, o, ho, hc, n, hd⟩ := (show ObjOk X.prog X.w H s.heap a (.tup vs) from I.hok a _ hA)
  have hTy : s.TypeIs (.ref a) "tuple" := ⟨o, ho, hc⟩
  have hun := hr.units
  unfold pyReprObj
  refine wpAny_bind (wpAny_cRoomFor (by omega) ?_)
  refine wpAny_bind (wpAny_specialOf (name := Str.ofString "__repr__") hTy PySem.F.slot_tuple_repr.lookup ?_)
  have fin : ∀ H' s' u, Inv X pins σ H' s' → Same H H' → wpAny (model X.prog X.w) A (do if ← isInstance (.str (tupleText ts) u) (.type "str") then pure (Value.str (tupleText ts) u) else raiseError "TypeError" s!"__repr__ returned non-string (type {← typeNameOf (.str (tupleText ts) u)})") Q X.xe s' := fun H' s' u I' sm =>
    wpAny_bind (wpAny_isInstance (T := "str") (b := true) rfl isSubtype_str_str (wpAny_pure (q H' s' u I' sm)))
  refine wpAny_bind (m := callSpecialIfBound? (.ref a) (Str.ofString "__repr__")) (wpAny_callSpecialIfBound?_slotG (name := Str.ofString "__repr__") hTy PySem.F.slot_tuple_repr (wpAny_call (codeAny_call_builtin_own (Code.quiet_builtin _ (by decide +kernel)) PySem.F.entry_tuple_repr (PySem.F.slot_tuple_repr.check _ _ _ _ _ _ _ _ hTy (PySem.F.args_tuple_repr_1 _)
    (tup_own (base := 0) (R := callEnd _ X.xe) (isGuard_tuple_repr _) rfl (units_under_tuple_repr _ _) tup_depth hfr hg hcl hr hna mono hT (by omega) (fun _ _ z => z) I pre fr hA fun H' s' u I' sm => fin H' s' u I' sm)))))
end
end Mz
set_option Elab.async false
set_option linter.all false
set_option maxRecDepth 100000
set_option maxHeartbeats 4000000
/-! repr of lists whose items are shown as MzReprT says -/
namespace Mz
open PySem PySem.Spec PyProof.Rows L2
theorem Fr.upd {g : List Code} {H : Hp} {P : Addr} {o : HO} (h : Fr g H) : Fr g (L2.upd H P o) := fun b hb => h b (by
  by_cases e : b = P
  · rw [e, upd_same] at hb
    cases hb
  · rw [upd_ne e] at hb
    exact hb)
section
variable {X : Cx} {k : Nat} {as : List Addr} {Pre : Hp → Prop}
/-- the loop of list.__repr__ -/
theorem loop_ownW {A : Around} {g : List Code} {pins : List (Addr × Obj)} {σ : L2.St} {a P : Addr} {vs : List V} {ts : List Str} {base : Nat} {R : Result → Shared → Prop} (hfr : A.frames = some X.stack) (hg : A.guards = some g) (hcl : ∀ b ∈ as, Clear g b) (hr : Room (k + 1) A) (hna : a ∉ as)
    (mono : ∀ H H', Same H H' → Pre H → Pre H') (hne : a ≠ P) (hlen : ts.length = vs.length) (hT : ∀ (i : Nat) (v : V), vs[i]? = some v → ∃ t, ts[i]? = some t ∧ ShW X k as Pre v t) (hsz : base + (listText ts).length ≤ sizeLine) (hE : ∀ e s', X.xe e s' → R (.error e) s') :
    ∀ (n i : Nat) (H : Hp) (s : Shared), vs.length - i = n → i ≤ vs.length → Inv X pins σ H s → (∀ H', (∀ p o, p ≠ P → H p = some o → H' p = some o) → Pre H') → H a = some (.lst vs) → H P = some (.lst ((ts.take i).map V.str)) → Fr g H →
    (∀ H' s' u, Inv X pins σ H' s' → (∀ p o, p ≠ P → H p = some o → H' p = some o) → R (.ok (.ret (.str (listText ts) u))) s') →
    codeAny (model X.prog X.w) A (.builtin "list.__repr__.loop" ⟨[.ref a, rawInt i, .ref P, rawInt ((base + piled (ts.take i) : Nat) : Int)], []⟩) R s := by
  have hL := textFrom_len ts 0 "["
  have hX : (listText ts).length = (textFrom 0 "[" ts).length + 1 := by
    show (textFrom 0 "[" ts ++ "]").length = _
    rw [strLen_append]; rfl
  have hsz1 : vs.length ≤ sizeLine := by
    have h1 := hL.1
    rw [if_neg (Nat.lt_irrefl 0)] at h1
    omega
  have hsz2 : ∀ t ∈ ts, t.length ≤ sizeLine := fun t ht => by
    have h2 := hL.2.1 t ht
    omega
  have hsz3 : (listText ts).length ≤ sizeLine := by omega
  have hp3 := piled_le_listText ts
  intro n
  induction n with
  | zero =>
    intro i H s hk hi I pre hA hP fr q
    obtain ⟨_, its, na, rv, l1, ha⟩ := I.lstM hA
    obtain ⟨_, its2, nc, rv2, l2, hP2⟩ := I.lstM hP
    obtain ⟨done, rfl, hdone⟩ := strs_done rv2
    have hin : i = vs.length := by omega
    refine codeAny_builtin PySem.F.entry_list_repr_loop ?_
    show wpAny _ _ (Builtin.«list.__repr__.loop» ⟨[.ref a, .int i 0, .ref P, .int ((base + piled (ts.take i) : Nat) : Int) 0], []⟩) _ _ s
    rw [repr_loop_tree]
    refine wpAny_bind (wpAny_listItems ha rfl ?_)
    have hnone : its.toArray[(i : Int).toNat]? = none := by simp [hin, l1]
    simp only [hnone]
    unfold reprEnd
    refine wpAny_bind (wpAny_listItems hP2 rfl ?_)
    rw [show (strValues done).toArray.toList = strValues done from rfl, repr_fold]
    refine wpAny_bind (wpAny_pure ?_)
    have hall : done.map (·.1) = ts := by rw [hdone, hin, ← hlen, List.take_length]
    rw [hall]
    refine wpAny_bind (wpAny_mkStr (wpAny_pure ?_) hsz3)
    exact q H _ _ (I.tok _) fun _ _ _ e => e
  | succ n ih =>
    intro i H s hk hi I pre hA hP fr q
    obtain ⟨_, its, na, rv, l1, ha⟩ := I.lstM hA
    have hlt : i < vs.length := by omega
    obtain ⟨t, ht, hrep⟩ := hT i vs[i] (List.getElem?_eq_getElem hlt)
    obtain ⟨u, hu, rel⟩ := rv.get (List.getElem?_eq_getElem hlt)
    have hp1 := piled_take_succ ht
    have hp2 := piled_take_le ts (i + 1)
    refine codeAny_builtin PySem.F.entry_list_repr_loop ?_
    show wpAny _ _ (Builtin.«list.__repr__.loop» ⟨[.ref a, .int i 0, .ref P, .int ((base + piled (ts.take i) : Nat) : Int) 0], []⟩) _ _ s
    rw [repr_loop_tree]
    refine wpAny_bind (wpAny_listItems ha rfl ?_)
    have hsome : its.toArray[(i : Int).toNat]? = some u := by simpa using hu
    simp only [hsome]
    rw [Int.toNat_natCast]
    have hpre : Pre H := pre H fun _ _ _ e => e
    refine wpAny_bind (wpAny_holding (wpAny_mono (hrep (base + piled (ts.take i) + 1) (by omega) _ _ pins σ H s u (fun t' s' => t' = t ∧ ∃ H', Inv X pins σ H' s' ∧ Same H H') (frames_list_loop hfr) (guards_under_guard (isGuard_list_loop _) hg) (fun b hb => (hcl b hb).cons (a := a) fun e => hna (e ▸ hb)) (fr.push hA) (hr.list_loop _) I hpre rel fun H' s' I' sm => ⟨rfl, H', I', sm⟩) (fun t' s' hh => ?_) fun e s' z => hE e s' z))
    obtain ⟨rfl, H', I', sm⟩ := hh
    refine wpAny_bind (wpAny_mkStr ?_ (hsz2 t' (List.mem_of_getElem? ht)))
    refine wpAny_bind ?_
    show wpAny _ _ (updateSeq P _) _ _ _
    have hP' := sm _ _ hP
    obtain ⟨_, its2, nc, rv2, l2, hP2⟩ := I'.lstM hP'
    have take_len : (ts.take i).length ≤ i := by rw [List.length_take]; omega
    have asz : its2.toArray.size ≤ sizeLine := by
      rw [List.size_toArray, ← l2, List.length_map]
      omega
    refine wpAny_updateSeq hP2 rfl (wpAny_pure ⟨PySem.F.quiet_list_repr_loop _, ?_⟩) asz
    have e1 : ((i : Int) + 1) = ((i + 1 : Nat) : Int) := by omega
    have e2 : base + piled (ts.take i) + (t'.length + 2) = base + piled (ts.take (i + 1)) := by omega
    rw [e1, e2]
    have e3 : (ts.take i).map V.str ++ [V.str t'] = (ts.take (i + 1)).map V.str := by
      rw [List.take_add_one, ht, List.map_append]
      rfl
    have I2 : Inv X pins σ (upd H' P (.lst ((ts.take (i + 1)).map V.str))) _ := I'.lset (its' := its2 ++ [.str t' s'.toks]) (f := fun xs => xs.push (.str t' s'.toks)) (t' := s'.toks + 1) hP' hP2 (by simp) (by rw [← e3]; exact rv2.append (.cons ⟨_, rfl⟩ .nil)) (by rw [List.length_map, List.length_take]; omega)
    have keepP : ∀ p o, p ≠ P → H p = some o → (upd H' P (.lst ((ts.take (i + 1)).map V.str))) p = some o := fun p o np e => by
      rw [upd_ne np]
      exact sm p o e
    refine ih (i + 1) _ _ (by omega) hlt I2 (fun H2 k2 => pre H2 fun p o np e => k2 p o np (keepP p o np e)) (keepP a _ hne hA) upd_same ((fr.same sm).upd) fun H2 s2 u2 I3 k3 => ?_
    exact q H2 s2 u2 I3 fun p o np e => k3 p o np (keepP p o np e)
/-- the head of list.__repr__ -/
theorem lst_ownW {A : Around} {g : List Code} {pins : List (Addr × Obj)} {σ : L2.St} {a : Addr} {v0 : V} {vr : List V} {ts : List Str} {base : Nat} {R : Result → Shared → Prop} {H : Hp} {s : Shared} (hfr : A.frames = some X.stack) (hg : A.guards = some g) (hcl : ∀ b ∈ a :: as, Clear g b) (hr : Room (k + 1) A) (hna : a ∉ as)
    (mono : ∀ H H', Same H H' → Pre H → Pre H') (hT : Lk (fun v t => ShW X k as Pre v t) (v0 :: vr) ts) (hsz : base + (listText ts).length ≤ sizeLine) (hE : ∀ e s', X.xe e s' → R (.error e) s') (I : Inv X pins σ H s) (pre : Pre H) (fr : Fr g H) (hA : H a = some (.lst (v0 :: vr)))
    (q : ∀ H' s' u, Inv X pins σ H' s' → Same H H' → R (.ok (.ret (.str (listText ts) u))) s') :
    wpAny (model X.prog X.w) A.in1 (Builtin.listReprAt base ⟨[.ref a], []⟩) (fun fin s' => match fin with | .done f => R (.ok f) s' | .again c' => c'.quiet = true ∧ codeAny (model X.prog X.w) A c' R s') (fun e s' => R (.error e) s') s := by
  have cl : Clear g a := hcl a List.mem_cons_self
  obtain ⟨z, its, n, rv, l1, ha⟩ := I.lstM hA
  match its, rv with
  | x :: l, rv =>
  refine wpAny_list_repr_head (A := A.in1) (g := g) (b := base) hg (fun v rest kw hm => listSameRef_of_ne (cl _ _ _ _ hm)) ha rfl ?_
  refine wpAny_bind (m := newList []) (wpAny_newObj_type ?_)
  refine wpAny_pure ⟨PySem.F.quiet_list_repr_loop _, ?_⟩
  have I1 := I.lnew (ys := []) (its := []) (t' := s.toks) .nil (Nat.zero_le _)
  have nP : H s.heap.objs.size = none := I.hok.fresh (Nat.le_refl _)
  have neP : a ≠ s.heap.objs.size := ne_of_none hA nP
  have same : ∀ {H' : Hp}, (∀ p o, p ≠ s.heap.objs.size → (L2.upd H s.heap.objs.size (.lst [])) p = some o → H' p = some o) → Same H H' := fun k2 p o e => k2 p o (ne_of_none e nP) (by rw [upd_ne (ne_of_none e nP)]; exact e)
  have e0 : base + piled (ts.take 0) = base := by
    rw [List.take_zero]
    rfl
  have run := loop_ownW (X := X) (k := k) (as := as) (Pre := Pre) (A := A) (g := g) (pins := pins) (σ := σ) (a := a) (P := s.heap.objs.size) (vs := v0 :: vr) (ts := ts) (base := base) (R := R) hfr hg (fun b hb => hcl b (.tail _ hb)) hr hna mono neP hT.length.symm (fun i v e => hT.get e) hsz hE _ 0 (L2.upd H s.heap.objs.size (.lst [])) _ rfl (Nat.zero_le _) I1
    (fun H' k2 => mono H H' (same k2) pre) (by rw [upd_ne neP]; exact hA) (by rw [upd_same, List.take_zero]; rfl) fr.upd fun H' s' u2 I2 k2 => q H' s' u2 I2 (same k2)
  rw [e0] at run
  exact run
/-- a list in a container -/
theorem shw_lst {a : Addr} {v0 : V} {vr : List V} {ts : List Str} (hna : a ∉ as) (mono : ∀ H H', Same H H' → Pre H → Pre H') (hT : Lk (fun v t => ShW X k as Pre v t) (v0 :: vr) ts) (hA : ∀ H, Pre H → H a = some (.lst (v0 :: vr))) : ShW X (k + 1) (a :: as) Pre (.ref a) (listText ts) := by
  intro base hb A g pins σ H s u Q hfr hg hcl fr hr I pre r q
  obtain rfl : u = Value.ref a := r
  obtain ⟨z, its, n, rv, l1, ha⟩ := I.lstM (hA H pre)
  have hun := hr.units
  refine wpAny_pyReprUnder_ref (by omega) (wpAny_pyReprObjUnder_twin (twin := "list.__repr__.under") ⟨_, ha, rfl⟩ PySem.F.slot_list_repr.toG rfl (by omega) ?_)
  exact call_twin_plain PySem.F.plain_list_repr_under PySem.F.entry_list_repr_under PySem.F.check_list_repr_under ⟨_, ha, rfl⟩ PySem.F.slot_list_repr.toG (PySem.F.args_list_repr_1 _)
    (lst_ownW (R := callEnd (fun v s' => (∃ x u, v = Value.str x u) ∧ ∃ x u, v = .str x u ∧ Q x s') X.xe) hfr hg hcl hr hna mono hT hb (fun _ _ z => z) I pre fr (hA H pre) fun H' s' u I' sm => ⟨⟨_, _, rfl⟩, _, _, rfl, q H' s' I' sm⟩)
/-- repr of a list whose items are shown so -/
def rReprW (X : Cx) (k : Nat) : List V → Hp → VK → Prop := fun xs H Q => ∃ (a : Addr) (as : List Addr) (v0 : V) (vr : List V) (ts : List Str) (Pre : Hp → Prop), xs = [.ref a] ∧ H a = some (.lst (v0 :: vr)) ∧ a ∉ as ∧ (∀ H H', Same H H' → Pre H → Pre H') ∧ Pre H ∧
  Lk (fun v t => ShW X k as Pre v t) (v0 :: vr) ts ∧ (listText ts).length ≤ sizeLine ∧ ∀ H', Same H H' → Q (.str (listText ts)) H'
theorem call_reprW (g0 : X.A.guards = some []) (hr : Room (k + 2) X.A) : CallR X (.builtin "repr") (rReprW X k) := by
  intro pins s σ H xs us Q I r h
  obtain ⟨a, as, v0, vr, ts, Pre, rfl, hA, hna, mono, pre, hT, hsz, q⟩ := h
  obtain ⟨u, rfl, rx⟩ := vals1 r
  obtain rfl : u = Value.ref a := rx
  obtain ⟨z, its, n, rv, l1, ha⟩ := I.lstM hA
  have hun := hr.units
  refine call_repr_slot (T := "list") (by omega) ⟨_, ha, rfl⟩ PySem.F.slot_list_repr.toG ?_
  exact wpAny_call (codeAny_call_builtin PySem.F.slot_list_repr.plain PySem.F.entry_list_repr (PySem.F.slot_list_repr.check _ _ _ _ _ _ _ _ ⟨_, ha, rfl⟩ (PySem.F.args_list_repr_1 _)
    (lst_ownW (A := X.A.in1) (base := 0) (R := callEnd _ X.xe) I.env0.frames g0 (fun b _ => Clear.nil b) hr.in1 hna mono hT (by omega) (fun _ _ z => z) I pre Fr.nil hA fun H' s' u I' sm => ⟨_, _, rfl, .str _, H', I', ⟨u, rfl⟩, q H' sm⟩)))
/-- the same, not to be unfolded -/
structure rReprWS (X : Cx) (k : Nat) (xs : List V) (H : Hp) (Q : VK) : Prop where
  h : rReprW X k xs H Q
theorem call_reprWS (g0 : X.A.guards = some []) (hr : Room (k + 2) X.A) : CallR X (.builtin "repr") (rReprWS X k) := by
  intro pins s σ H xs us Q I r h
  exact call_reprW g0 hr pins s σ H xs us Q I r h.h
end
end Mz
set_option Elab.async false
set_option linter.all false
set_option maxRecDepth 100000
set_option maxHeartbeats 4000000
/-! repr of a tuple whose items are shown as MzReprT says, and of either -/
namespace Mz
open PySem PySem.Spec PyProof.Rows L2
section
variable {X : Cx} {k : Nat}
def rReprTW (X : Cx) (k : Nat) : List V → Hp → VK → Prop := fun xs H Q => ∃ (a : Addr) (as : List Addr) (vs : List V) (ts : List Str) (Pre : Hp → Prop), xs = [.ref a] ∧ H a = some (.tup vs) ∧ a ∉ as ∧ (∀ H H', Same H H' → Pre H → Pre H') ∧ Pre H ∧
  Lk (fun v t => ShW X k as Pre v t) vs ts ∧ (tupleText ts).length ≤ sizeLine ∧ ∀ H', Same H H' → Q (.str (tupleText ts)) H'
theorem call_reprTW (g0 : X.A.guards = some []) (hr : Room (k + 2) X.A) : CallR X (.builtin "repr") (rReprTW X k) := by
  intro pins s σ H xs us Q I r h
  obtain ⟨a, as, vs, ts, Pre, rfl, hA, hna, mono, pre, hT, hsz, q⟩ := h
  obtain ⟨u, rfl, rx⟩ := vals1 r
  obtain rfl : u = Value.ref a := rx
  obtain ⟨_, its, rv, o, ho, hc, n, hd⟩ := (show ObjOk X.prog X.w H s.heap a (.tup vs) from I.hok a _ hA)
  have hun := hr.units
  refine call_repr_slot (T := "tuple") (by omega) ⟨o, ho, hc⟩ PySem.F.slot_tuple_repr ?_
  exact wpAny_call (codeAny_call_builtin_own (Code.quiet_builtin _ (by decide +kernel)) PySem.F.entry_tuple_repr (PySem.F.slot_tuple_repr.check _ _ _ _ _ _ _ _ ⟨o, ho, hc⟩ (PySem.F.args_tuple_repr_1 _)
    (tup_own (A := X.A.in1) (base := 0) (R := callEnd _ X.xe) (isGuard_tuple_repr _) rfl (units_under_tuple_repr _ _) tup_depth I.env0.frames g0 (fun b _ => Clear.nil b) hr.in1 hna mono hT (by omega) (fun _ _ z => z) I pre Fr.nil hA fun H' s' u I' sm => ⟨_, _, rfl, .str _, H', I', ⟨u, rfl⟩, q H' sm⟩)))
structure rReprUS (X : Cx) (k : Nat) (xs : List V) (H : Hp) (Q : VK) : Prop where
  h : rReprW X k xs H Q ∨ rReprTW X k xs H Q
theorem call_reprUS (g0 : X.A.guards = some []) (hr : Room (k + 2) X.A) : CallR X (.builtin "repr") (rReprUS X k) := by
  intro pins s σ H xs us Q I r h
  rcases h.h with h | h
  · exact call_reprW g0 hr pins s σ H xs us Q I r h
  · exact call_reprTW g0 hr pins s σ H xs us Q I r h
end
end Mz
set_option Elab.async false
set_option linter.all false
set_option maxRecDepth 100000
set_option maxHeartbeats 4000000
/-! defs that are told what is being shown around them: own __repr__ of instances that show containers -/
namespace Mz
open PySem PySem.Spec PyProof.Rows L2
section
variable {P : Program} {w : World} {K : PySem.W.Frag} {mg : Str → Option Value} {base : Heap} {CX : CXT} {k : Nat} {f : Addr} {fd : FuncData} {ps : List Str} {sp : List Code → Sp}
/-- a def's promise, where its wishes may speak of what is being shown -/
structure FnS (P : Program) (w : World) (K : PySem.W.Frag) (mg : Str → Option Value) (base : Heap) (CX : CXT) (k : Nat) (f : Addr) (fd : FuncData) (ps : List Str) (sp : List Code → Sp) : Prop where
  lenS : ∀ g vs H Q E, sp g vs H Q E → vs.length = ps.length
  runS : ∀ (A : Around) (outer : List Env) (s : Shared) (H : Hp) (args : Args) (us : List Value) (vs : List V) (Q : VK) (E : XK) (g : List Code),
    A.guards = some g → Room k A → Env0 P w K mg base A outer s H → BindsTo s fd args (ps.zip us) → Vals vs us → sp g vs H Q E →
    codeAny (model P w) A (.call (.ref f) args) (CR CX outer P w H s Q E) s
theorem FnS.of {sp : Sp} (F : FnOk P w K mg base CX k f fd ps sp) : FnS P w K mg base CX k f fd ps fun _ => sp :=
  ⟨fun _ => F.len, fun A outer s H args us vs Q E _ _ => F.run A outer s H args us vs Q E⟩
/-- the same def by its body -/
theorem fnS_of {name qual : Str} {params : Arguments} {body : List Stmt} {scope : Scope} {dV kV doc pm cdv ct oc : Value} {an od : Option Addr} {osl : Array (Option Value)} {N : List Str}
    (lk : K.lookup f = some ⟨oc, od, .func (PySem.W.fnOf name qual params body scope dV kV doc pm an cdv ct), osl⟩) (hcd : PySem.W.codeIn K cdv qual = true) (S : FnScope N ps scope)
    (len : ∀ g vs H Q E, sp g vs H Q E → vs.length = ps.length)
    (hb : ∀ (A : Around) (outer : List Env) (s : Shared) (H : Hp) (vs : List V) (Q : VK) (E : XK) (g : List Code), A.guards = some g → Room k (A.deeper (envOfC qual scope s.heap.objs.size f cdv)) → sp g vs H Q E →
      ∃ t, PSs (cxOf CX P w K mg base N qual scope f cdv A outer s H E) body t ∧ t { nx := fun _ H' => Q .non H', rt := Q } (start N vs) H) :
    FnS P w K mg base CX (k + 1) f (PySem.W.fnOf name qual params body scope dV kV doc pm an cdv ct) ps sp := by
  refine ⟨len, fun A outer s H args us vs Q E g hg hr e0 hbi r hsp => ?_⟩
  have lenv := len _ _ _ _ _ hsp
  have KX : K.In s.heap := e0.mod.kin.keeps fun b o e => (e0.bs b o e).1
  have lim : s.heap.NoLimit := e0.mod.nolimit.keeps fun b o e => (e0.bs b o e).1
  have kinds : ∀ y ∈ ps.zip us, scope.names.lookup y.1 = some .local ∨ (scope.names.lookup y.1 = some .cell ∧ ((cellsFrom (s.heap.objs.size + 1) scope.names []).lookup y.1).isSome = true) := by
    intro y hy
    obtain ⟨n, v⟩ := y
    rcases S.par n (List.of_mem_zip hy).1 with q | q
    · exact .inl q
    · exact .inr ⟨q, PySem.W.cellsFrom_some _ _ _ (.inl q)⟩
  refine codeAny_call_function hr.depth (KX _ _ lk) rfl S.co S.gen rfl (PySem.W.codeRec_of KX hcd) (hbi _ _ _ _ ?_)
  refine wpAny_newFunctionEnv_cells S.kind kinds fun env he s1 x => ?_
  subst he
  refine ⟨lim.keeps x.toInCall.keep, codeAny_func ?_⟩
  obtain ⟨t, ht, hq⟩ := hb A outer s H vs Q E g hg (hr.deeper _) hsp
  have I : Inv (cxOf CX P w K mg base N qual scope f cdv A outer s H E) [] (start N vs) H s1 := inv_start S hr.hd e0 lenv r x
  refine wpAny_mono (ht.run [] s1 (start N vs) H _ I hq) (fun fl s' hs => ?_) fun e s' hs => hs
  cases fl with
  | ret u =>
    obtain ⟨v, σ', H', J, rv, q⟩ := hs
    exact ⟨v, H', J.os, J.bare, J.base, J.hok, rv, q⟩
  | next =>
    obtain ⟨σ', H', J, q⟩ := hs
    exact ⟨V.non, H', J.os, J.bare, J.base, J.hok, rfl, q⟩
  | brk =>
    obtain ⟨_, _, _, q⟩ := hs
    exact q.elim
  | cont =>
    obtain ⟨_, _, _, q⟩ := hs
    exact q.elim
end
section
variable {P : Program} {w : World} {K : PySem.W.Frag} {mg : Str → Option Value} {base : Heap}
theorem fun_okS {x qual : Str} {st : Stmt} {f : Addr} {fd : FuncData} {N ps : List Str} {k : Nat} {sp : List Code → Sp} (F : Fun K x qual st f fd) (S : FnScope N ps (defScope st)) (len : ∀ g vs H Q E, sp g vs H Q E → vs.length = ps.length)
    (hb : ∀ (cdv : Value) (A : Around) (outer : List Env) (s : Shared) (H : Hp) (vs : List V) (Q : VK) (E : XK) (g : List Code), A.guards = some g → Room k (A.deeper (envOfC qual (defScope st) s.heap.objs.size f cdv)) → sp g vs H Q E →
      ∃ t, PSs (cxOf CX0 P w K mg base N qual (defScope st) f cdv A outer s H E).nox (defBody st) t ∧ t { nx := fun _ H' => Q .non H', rt := Q } (start N vs) H) : FnS P w K mg base CX0 (k + 1) f fd ps sp := by
  obtain ⟨oc, od, kV, doc, pm, an, cdv, ct, osl, rfl, lk, hcd⟩ := F.ex
  refine fnS_of lk hcd S len fun A outer s H vs Q E g hg hr hsp => ?_
  obtain ⟨t, h, q⟩ := hb cdv A outer s H vs Q E g hg hr hsp
  exact ⟨t, h.nox, q⟩
end
section
variable {X : Cx} {k : Nat} {as : List Addr} {Pre : Hp → Prop}
/-- an instance with an own __repr__ in a container -/
theorem shw_own {f C p : Addr} {fd : FuncData} {sp : List Code → Sp} {t : Str} (F : FnS X.prog X.w X.K X.mg X.base CX0 k f fd ["self"] sp) (hb : Binds X.K fd ["self"] []) (hs : PySem.W.findIn X.K (.ref C) "__repr__" = some (some (.ref f))) (hf : PySem.W.isFn X.K (.ref f) = true)
    (hp : ∀ H g, Pre H → (∀ b ∈ as, Clear g b) → Fr g H → ∃ dx fs, H p = some (.ins C dx fs) ∧ sp g [.ref p] H (fun v H2 => v = .str t ∧ Same H H2) E0) : ShW X k as Pre (.ref p) t := by
  intro base hbs A g pins σ H s u Q hfr hg hcl fr hr I pre r q
  obtain rfl : u = Value.ref p := r
  obtain ⟨dx, fs, ha, hsp⟩ := hp H g pre hcl fr
  obtain ⟨mA, O, _⟩ := ins_get I.hok ha
  obtain ⟨od, J, _⟩ := O.look
  refine wpAny_pyReprUnder_ref (by omega) ?_
  unfold pyReprObjUnder pyReprObjBy
  refine wpAny_bind (wpAny_cRoomFor hr.units0 ?_)
  refine wpAny_bind (wpAny_bind (J.type.here ((PySem.W.looks_findIn I.kIn hs).here ?_)))
  refine wpAny_bind (ifBoundBy_K I.kIn J hs hf ?_)
  have hbi := hb s [.ref p] I.kIn rfl
  rw [List.append_nil] at hbi
  have run : wpAny (model X.prog X.w) A (call (.ref f) [.ref p]) (EP X pins σ (fun v H2 => v = .str t ∧ Same H H2)) X.xe s :=
    wpAny_call (codeAny_mono (F.runS A X.stack s H ⟨[.ref p], []⟩ [.ref p] [.ref p] _ _ g hg hr (env_at I hfr) hbi (.cons rfl .nil) hsp) fun r s2 hq => by
      match r, hq with
      | .error e, hq => exact hq.elim
      | .ok (.ret u), hq => exact I.after hq
      | .ok .next, hq => exact hq.elim
      | .ok .brk, hq => exact hq.elim
      | .ok .cont, hq => exact hq.elim)
  refine wpAny_mono run (fun v s2 hv => ?_) fun _ _ z => z
  obtain ⟨w, H2, I2, rv, rfl, sm⟩ := hv
  obtain ⟨tk, rfl⟩ := rv
  exact wpAny_bind (wpAny_isInstance (T := "str") (b := true) rfl isSubtype_str_str (wpAny_pure ⟨_, _, rfl, q _ _ I2 sm⟩))
/-- {x!r} of a tuple -/
theorem pe_fmtRT {g : List Code} {e : Expr} {te : TE} {pos : Pos} (g0 : X.A.guards = some g) (hr : Room (k + 1) X.A) (he : PE X e te) : PE X (.FormattedValue e 114 none pos)
    (fun σ H Q => te σ H fun x H1 => ∃ (a : Addr) (as : List Addr) (vs : List V) (ts : List Str) (Pre : Hp → Prop), x = .ref a ∧ H1 a = some (.tup vs) ∧ a ∉ as ∧ (∀ b ∈ a :: as, Clear g b) ∧ Fr g H1 ∧ (∀ H H', Same H H' → Pre H → Pre H') ∧ Pre H1 ∧ Lk (fun v t => ShW X k as Pre v t) vs ts ∧ (tupleText ts).length ≤ sizeLine ∧ ∀ H', Same H1 H' → Q (.str (tupleText ts)) H') := by
  refine ⟨fun pins s σ H Q I h => ?_⟩
  refine wpAny_FormattedValue_repr (thn (he.run pins s σ H _ I h) fun v s1 hv => ?_)
  obtain ⟨x, H1, I1, r1, a, as, vs, ts, Pre, rfl, hA, hna, hcl, fr, mono, pre, hT, hsz, q⟩ := hv
  obtain rfl : v = Value.ref a := r1
  exact objRepr_tup hna mono hT hsz I.env0.frames g0 hcl fr hr I1 pre hA fun H' s' u I' sm => wpAny_formatField_str ⟨.str (tupleText ts), H', I', ⟨u, rfl⟩, q H' sm⟩ ⟨.str (tupleText ts), H', I'.tok _, ⟨_, rfl⟩, q H' sm⟩ hsz
end
end Mz
set_option Elab.async false
set_option linter.all false
set_option maxRecDepth 100000
set_option maxHeartbeats 4000000
/-! {x!r} of a dict of flat values -/
namespace Mz
open PySem PySem.Spec PyProof.Rows L2
section
variable {X : Cx} {pins : List (Addr × Obj)} {σ : L2.St} {H : Hp} {s : Shared} {qs : List Addr}
theorem ents_shown (I : Inv X pins σ H s) : ∀ (kvs : List (Key × V)) (vs : List (Key × Value)) (l : List DictEntry), KV kvs vs → Pairs (mixKind X.prog X.w) l vs → (∀ kv ∈ kvs, KOk kv.1 ∧ VOk qs H kv.2) → ReprEntriesK X.prog X.w qs s.heap 1 l (kvs.map entT)
  | [], vs, l, kv, pr, _ => by
    match vs, kv, l, pr with
    | [], .nil, _, pr =>
      cases pr
      exact .nil
  | x :: kvs, vs, l, kv, pr, hall => by
    match vs, kv, pr with
    | (k2, v2) :: vs, .cons ⟨ek, rv2⟩ kr, pr =>
      cases pr with
      | @cons en _ es2 _ hk hv hn =>
        obtain ⟨h1, h2⟩ := hall x List.mem_cons_self
        have hk2 : keyIs x.1 en.key = true := by
          rw [show x.1 = k2 from ek]
          exact hk
        exact .cons (k := keyT x.1) (v := itemT x.2) (key_repr hk2 h1) (by
          rw [hv]
          exact item_repr I rv2 h2) (ents_shown I kvs vs es2 kr hn fun y hy => hall y (List.mem_cons_of_mem _ hy))
end
section
variable {X : Cx} {k : Nat}
theorem pe_fmtRDk {g : List Code} {e : Expr} {te : TE} {pos : Pos} (g0 : X.A.guards = some g) (hu : X.A.units + 64 < cLine) (he : PE X e te) : PE X (.FormattedValue e 114 none pos)
    (fun σ H Q => te σ H fun x H1 => ∃ (a : Addr) (kvs : List (Key × V)), x = .ref a ∧ H1 a = some (.dK kvs) ∧ Clear g a ∧ (∀ kv ∈ kvs, KOk kv.1 ∧ VOk [] H1 kv.2) ∧ (dictText (kvs.map entT)).length ≤ sizeLine ∧ Q (.str (dictText (kvs.map entT))) H1) := by
  refine ⟨fun pins s σ H Q I h => ?_⟩
  refine wpAny_FormattedValue_repr (thn (he.run pins s σ H _ I h) fun v s1 hv => ?_)
  obtain ⟨x, H1, I1, r1, a, kvs, rfl, hA, hcl, hall, hsz, q⟩ := hv
  obtain rfl : v = Value.ref a := r1
  obtain ⟨_, hsys, vs, kv, o, es, ep, ho, hx, hd, _, hpair, _⟩ := dk_of I1.hok hA
  refine wpAny_pyReprObj_dictK (as := []) (d := 1) ho hx.1 hd hsys (by simp) (ents_shown I1 kvs vs es.toList kv hpair hall) g0 (fun b hb => by
    rw [List.mem_singleton.mp hb]
    exact hcl) (by omega) (fun _ _ e => e) (fun h' u tk hk => ?_) hsz
  exact wpAny_formatField_str ⟨.str _, H1, I1.kept hk, ⟨u, rfl⟩, q⟩ ⟨.str _, H1, (I1.kept hk).tok _, ⟨_, rfl⟩, q⟩ hsz
end
end Mz
set_option Elab.async false
set_option linter.all false
set_option maxRecDepth 100000
set_option maxHeartbeats 4000000
/-! a dict, an empty list, flat values in a container -/
namespace Mz
open PySem PySem.Spec PyProof.Rows L2
section
variable {X : Cx} {k : Nat} {as : List Addr} {Pre : Hp → Prop}
theorem shw_nil {a : Addr} (hA : ∀ H, Pre H → H a = some (.lst [])) : ShW X k as Pre (.ref a) "[]" := by
  intro base hb A g pins σ H s u Q hfr hg hcl fr hr I pre r q
  obtain rfl : u = Value.ref a := r
  obtain ⟨z, its, n, rv, l1, ha⟩ := I.lstM (hA H pre)
  cases rv
  have hun := hr.units
  exact ReprK.listEmpty (as := []) (h₀ := s.heap) (d := 0) ha rfl rfl base hb A g X.xe s Q hg (fun b hb => nomatch hb) (by omega) (fun _ _ e => e) fun h' tk hk => q H _ (I.kept hk) (Same.refl H)
theorem shw_dict {a : Addr} {kvs : List (Key × V)} (hA : ∀ H, Pre H → H a = some (.dK kvs) ∧ ∀ kv ∈ kvs, KOk kv.1 ∧ VOk [] H kv.2) : ShW X k [a] Pre (.ref a) (dictText (kvs.map entT)) := by
  intro base hb A g pins σ H s u Q hfr hg hcl fr hr I pre r q
  obtain rfl : u = Value.ref a := r
  obtain ⟨ha, hall⟩ := hA H pre
  obtain ⟨_, hsys, vs, kv, o, es, ep, ho, hx, hd, _, hpair, _⟩ := dk_of I.hok ha
  have hun := hr.units
  exact ReprK.dict (as := []) (h₀ := s.heap) (d := 1) ho hx.1 hd hsys (by simp) (ents_shown I kvs vs es.toList kv hpair hall) base hb A g X.xe s Q hg hcl (by omega) (fun _ _ e => e) fun h' tk hk => q H _ (I.kept hk) (Same.refl H)
end
/-- flat values of some size -/
def FlatOk (v : V) : Prop := v = .non ∨ (∃ b, v = .bl b) ∨ (∃ i : Int, v = .int i ∧ 0 ≤ i ∧ i < 100) ∨ ∃ s : Str, v = .str s ∧ (reprText s).length ≤ 1000 ∧ s.length ≤ 1000 ∧ PyData.strOk s = true
theorem small_text {i : Int} (h0 : 0 ≤ i) (h1 : i < 100) : i.natAbs.log2 < 1920 ∧ (Str.ofString (toString i)).length ≤ 1000 := by
  have h : ∀ n : Nat, n < 100 → (Str.ofString (toString (n : Int))).length ≤ 1000 := by decide +kernel
  obtain ⟨n, rfl⟩ := Int.eq_ofNat_of_zero_le h0
  refine ⟨?_, h n (by omega)⟩
  have h : (n : Int).natAbs < 2 ^ 7 := by omega
  exact Nat.lt_trans (PySem.Flt.log2_lt_of (by decide) h) (by decide)
section
variable {X : Cx} {k : Nat} {Pre : Hp → Prop}
theorem shw_flat {v : V} (h : FlatOk v) : ∃ t : Str, t.length ≤ 1000 ∧ ∀ as, ShW X k as Pre v t := by
  rcases h with rfl | ⟨b, rfl⟩ | ⟨i, rfl, h0, h1⟩ | ⟨s, rfl, h, _⟩
  · exact ⟨_, by simp only [PyData.shown]; decide +kernel, fun _ => shw_non⟩
  · exact ⟨_, by cases b <;> simp only [PyData.shown] <;> decide +kernel, fun _ => shw_bl⟩
  · exact ⟨_, (small_text h0 h1).2, fun _ => ShV.w (shv_int (small_text h0 h1).1)⟩
  · exact ⟨_, h, fun _ => ShV.w (shv_str (Nat.le_trans h (by decide)))⟩
theorem lk_flats : ∀ {l : List V}, (∀ v ∈ l, FlatOk v) → ∃ ts : List Str, piled ts ≤ 1002 * l.length ∧ ∀ as, Lk (fun v t => ShW X k as Pre v t) l ts
  | [], _ => ⟨[], Nat.le_refl _, fun _ => .nil⟩
  | v :: l, h => by
    obtain ⟨t, n, ht⟩ := shw_flat (X := X) (k := k) (Pre := Pre) (h v List.mem_cons_self)
    obtain ⟨ts, m, hts⟩ := lk_flats (l := l) fun u hu => h u (List.mem_cons_of_mem _ hu)
    refine ⟨t :: ts, ?_, fun as => .cons (ht as) (hts as)⟩
    rw [piled_cons, List.length_cons]
    omega
/-- list texts -/
theorem list_text (ts : List Str) : (listText ts).length ≤ piled ts + 2 := by
  have e : ∀ (l : List Str) (n : Nat) (acc : Str), (textFrom n acc l).length ≤ acc.length + piled l := by
    intro l
    induction l with
    | nil => intro n acc; exact Nat.le_add_right _ _
    | cons y l ih =>
      intro n acc
      have z := ih (n + 1) (acc ++ (if n > 0 then ", " else "" : String) ++ y)
      have l2 : (((if n > 0 then ", " else "" : String) : Str)).length ≤ 2 := by split <;> decide +kernel
      rw [piled_cons]
      show (textFrom (n + 1) (acc ++ (if n > 0 then ", " else "" : String) ++ y) l).length ≤ _
      rw [strLen_append, strLen_append] at z
      omega
  have h := e ts 0 "["
  have l1 : ("[" : Str).length = 1 := by decide +kernel
  have l2 : ("]" : Str).length = 1 := by decide +kernel
  show (textFrom 0 "[" ts ++ "]").length ≤ _
  rw [strLen_append]
  omega
end
end Mz
set_option Elab.async false
set_option linter.all false
set_option maxRecDepth 100000
set_option maxHeartbeats 4000000
/-! repr of a dict of ints, and of data, of lists and tuples with own instances, in one -/
namespace Mz
open PySem PySem.Spec PyProof.Rows L2
section
variable {X : Cx} {k : Nat}
def rReprDict : List V → Hp → VK → Prop := fun xs H Q => ∃ (a : Addr) (kvs : List (Key × V)), xs = [.ref a] ∧ H a = some (.dK kvs) ∧ (∀ kv ∈ kvs, KOk kv.1 ∧ VOk [] H kv.2) ∧ (dictText (kvs.map entT)).length ≤ sizeLine ∧ Q (.str (dictText (kvs.map entT))) H
theorem call_reprDict (g0 : X.A.guards = some []) (hu : X.A.units + 64 < cLine) : CallR X (.builtin "repr") rReprDict := by
  intro pins s σ H xs us Q I rv h
  obtain ⟨a, kvs, rfl, ha, hall, hsz, q⟩ := h
  obtain ⟨u, rfl, rx⟩ := vals1 rv
  obtain rfl : u = Value.ref a := rx
  obtain ⟨_, hsys, vs, kv, o, es, ep, ho, hx, hd, _, hpair, _⟩ := dk_of I.hok ha
  refine call_repr_slot (T := "dict") (by omega) ⟨_, ho, hx.1⟩ F.slot_dict_repr ?_
  exact call_dict_reprK (as := []) (d := 1) ho hx.1 hd hsys (by simp) (ents_shown I kvs vs es.toList kv hpair hall) (A := X.A.in1) g0 (fun b _ => Clear.nil b) (by show X.A.units + 1 + 2 < cLine; omega) (fun _ _ z => z) (fun h' t tk hk => ⟨_, _, rfl, .str _, H, I.kept hk, ⟨_, rfl⟩, q⟩) hsz
structure rReprZ (X : Cx) (k : Nat) (xs : List V) (H : Hp) (Q : VK) : Prop where
  h : rReprD X.K xs H Q ∨ rReprW X k xs H Q ∨ rReprTW X k xs H Q ∨ rReprDict xs H Q
theorem call_reprZ (g0 : X.A.guards = some []) (hr : Room (k + 2) X.A) : CallR X (.builtin "repr") (rReprZ X k) := by
  intro pins s σ H xs us Q I r h
  rcases h.h with h | h | h | h
  · exact call_reprD g0 hr.units pins s σ H xs us Q I r h
  · exact call_reprW g0 hr pins s σ H xs us Q I r h
  · exact call_reprTW g0 hr pins s σ H xs us Q I r h
  · exact call_reprDict g0 hr.units pins s σ H xs us Q I r h
end
end Mz
set_option Elab.async false
set_option linter.all false
set_option maxRecDepth 100000
set_option maxHeartbeats 4000000
/-! calls of defs that raise nothing, within an except suite -/
namespace Mz
open PySem PySem.Spec PyProof.Rows L2
theorem roomC_in1 {k : Nat} {A : Around} (r : L2H.RoomH (k + 1) A) : L2H.RoomH k A.in1 := by
  have h1 := r.dp
  have h2 := r.un
  refine ⟨?_, ?_⟩
  · show A.depth + 3 * k + 5 < _
    omega
  · show A.units + 1 + 16 * k + 200 < _
    omega
/-- a promise that holds whatever is being handled -/
structure FnC (P : Program) (w : World) (K : PySem.W.Frag) (mg : Str → Option Value) (base : Heap) (k : Nat) (f : Addr) (fd : FuncData) (ps : List Str) (sp : Sp) : Prop where
  lenC : ∀ vs H Q E, sp vs H Q E → vs.length = ps.length
  runC : ∀ (A : Around) (outer : List Env) (s : Shared) (H : Hp) (args : Args) (us : List Value) (vs : List V) (Q : VK) (p : Addr × Obj),
    L2H.RoomH k A → L2H.PinOk outer H s p → Env0 P w K mg base A outer s H → BindsTo s fd args (ps.zip us) → Vals vs us → sp vs H Q E0 → codeAny (model P w) A (.call (.ref f) args) (CR CX0 outer P w H s Q E0) s
section
variable {P : Program} {w : World} {K : PySem.W.Frag} {mg : Str → Option Value} {base : Heap} {k : Nat} {f : Addr} {ps : List Str} {sp : Sp}
theorem fnC_of {name qual : Str} {params : Arguments} {body : List Stmt} {scope : Scope} {dV kV doc pm cdv ct oc : Value} {an od : Option Addr} {osl : Array (Option Value)} {N : List Str}
    (lk : K.lookup f = some ⟨oc, od, .func (PySem.W.fnOf name qual params body scope dV kV doc pm an cdv ct), osl⟩) (hcd : PySem.W.codeIn K cdv qual = true) (S : FnScope N ps scope)
    (len : ∀ vs H Q E, sp vs H Q E → vs.length = ps.length)
    (hb : ∀ (A : Around) (outer : List Env) (s : Shared) (H : Hp) (vs : List V) (Q : VK) (p : Addr × Obj), L2H.RoomH k (A.deeper (envOfC qual scope s.heap.objs.size f cdv)) → sp vs H Q E0 →
      ∃ t, PSs (L2H.cxH CX0 P w K mg base N qual scope f cdv A outer s H E0 p) body t ∧ t { nx := fun _ H' => Q .non H', rt := Q } (start N vs) H) :
    FnC P w K mg base (k + 1) f (PySem.W.fnOf name qual params body scope dV kV doc pm an cdv ct) ps sp := by
  refine ⟨len, fun A outer s H args us vs Q p hr pin e0 hbi r hsp => ?_⟩
  have lenv := len _ _ _ _ hsp
  have KX : K.In s.heap := e0.mod.kin.keeps fun b o e => (e0.bs b o e).1
  have lim : s.heap.NoLimit := e0.mod.nolimit.keeps fun b o e => (e0.bs b o e).1
  have kinds : ∀ y ∈ ps.zip us, scope.names.lookup y.1 = some .local ∨ (scope.names.lookup y.1 = some .cell ∧ ((cellsFrom (s.heap.objs.size + 1) scope.names []).lookup y.1).isSome = true) := by
    intro y hy
    obtain ⟨n, v⟩ := y
    rcases S.par n (List.of_mem_zip hy).1 with q | q
    · exact .inl q
    · exact .inr ⟨q, PySem.W.cellsFrom_some _ _ _ (.inl q)⟩
  refine codeAny_call_function hr.depth (KX _ _ lk) rfl S.co S.gen rfl (PySem.W.codeRec_of KX hcd) (hbi _ _ _ _ ?_)
  refine wpAny_newFunctionEnv_cells S.kind kinds fun env he s1 x => ?_
  subst he
  refine ⟨lim.keeps x.toInCall.keep, codeAny_func ?_⟩
  obtain ⟨t, ht, hq⟩ := hb A outer s H vs Q p (hr.deeper _) hsp
  have I : Inv (L2H.cxH CX0 P w K mg base N qual scope f cdv A outer s H E0 p) [] (start N vs) H s1 := L2H.inv_startH S pin e0 lenv r x
  refine wpAny_mono (ht.run [] s1 (start N vs) H _ I hq) (fun fl s' hs => ?_) fun e s' hs => hs
  cases fl with
  | ret u =>
    obtain ⟨v, σ', H', J, rv, q⟩ := hs
    exact ⟨v, H', J.os, J.bare, J.base, J.hok, rv, q⟩
  | next =>
    obtain ⟨σ', H', J, q⟩ := hs
    exact ⟨V.non, H', J.os, J.bare, J.base, J.hok, rfl, q⟩
  | brk =>
    obtain ⟨_, _, _, q⟩ := hs
    exact q.elim
  | cont =>
    obtain ⟨_, _, _, q⟩ := hs
    exact q.elim
theorem fun_okC {x qual : Str} {st : Stmt} {fd : FuncData} {N : List Str} (F : Fun K x qual st f fd) (S : FnScope N ps (defScope st)) (len : ∀ vs H Q E, sp vs H Q E → vs.length = ps.length)
    (hb : ∀ (cdv : Value) (A : Around) (outer : List Env) (s : Shared) (H : Hp) (vs : List V) (Q : VK) (p : Addr × Obj), L2H.RoomH k (A.deeper (envOfC qual (defScope st) s.heap.objs.size f cdv)) → sp vs H Q E0 →
      ∃ t, PSs (L2H.cxH CX0 P w K mg base N qual (defScope st) f cdv A outer s H E0 p) (defBody st) t ∧ t { nx := fun _ H' => Q .non H', rt := Q } (start N vs) H) : FnC P w K mg base (k + 1) f fd ps sp := by
  obtain ⟨oc, od, kV, doc, pm, an, cdv, ct, osl, rfl, lk, hcd⟩ := F.ex
  exact fnC_of lk hcd S len fun A outer s H vs Q p hr hsp => hb cdv A outer s H vs Q p hr hsp
end
/-- e.f, a property, within a suite -/
theorem pe_propC {X : Cx} {k : Nat} {C p g : Addr} {f : Str} {fd : FuncData} {ps : List Str} {sp : Sp} {e : Expr} {pos : Pos} {ta : TE} {pin : Addr × Obj} (he : PE X e ta) (c : Cls X.K C) (hp : PropOf X.K C f p g) (F : FnC X.prog X.w X.K X.mg X.base k g fd ps sp) (hr : L2H.RoomH (k + 1) X.A) (hm : pin ∈ X.pn) (hb : Binds X.K fd ps [])
    (hab : attributeBase e f X.env (eval e X.env) = eval e X.env) : PE X (.Attribute e f pos) (tProp C sp [] E0 ta) := by
  refine ⟨fun pins s σ H Q I h => ?_⟩
  refine attr_of hab (thn (he.run pins s σ H _ I h) fun u s1 hv => ?_)
  obtain ⟨x, H1, I1, rx, a, dx, fs, rfl, ea, q⟩ := hv
  obtain rfl : u = Value.ref a := rx
  obtain ⟨mA, O, _⟩ := ins_get I1.hok ea
  obtain ⟨od, J, _⟩ := O.look
  obtain ⟨rest, hrec⟩ := hp.rec_
  have I2 := I1.tok (s1.toks + 1)
  have hl : ([Value.ref a] ++ []).length = ps.length := F.lenC _ _ _ _ q
  have hc : (PySem.W.clsIn X.K C).isSome = true := by
    obtain ⟨cd, hcd, _⟩ := PySem.W.any_some c.hd
    rw [hcd]
    rfl
  refine PySem.W.get_bind I1.kIn J (PySem.W.plainGet_of (c.get f)).1 (PySem.W.findObj_data hc hp.at_ hp.get hp.tak) (PySem.W.plainGet_of (c.get f)).2 (wpAny_call (PySem.W.prop_get (s := { s1 with toks := s1.toks + 1 }) I1.kIn hrec ?_))
  have P1 := I2.pin pin (List.mem_append_left _ hm)
  have pok : L2H.PinOk X.stack H1 { s1 with toks := s1.toks + 1 } pin := ⟨P1.1, P1.2.1, fun z => (List.mem_cons.mp (I2.stkSub pin.1 z)).elim P1.2.2.1 P1.2.2.2.1, P1.2.2.2.2⟩
  have bind := hb { s1 with toks := s1.toks + 1 } [.ref a] I2.kIn hl
  rw [List.append_nil] at bind
  refine codeAny_mono (F.runC X.A.in1 X.stack { s1 with toks := s1.toks + 1 } H1 ⟨[.ref a], []⟩ [.ref a] [.ref a] Q pin (roomC_in1 hr) pok I2.env0.in1 bind (.cons rfl .nil) q) fun r s' hq => ?_
  match r, hq with
  | .error er, hq => exact hq.elim
  | .ok .next, hq => exact hq.elim
  | .ok .brk, hq => exact hq.elim
  | .ok .cont, hq => exact hq.elim
  | .ok (.ret u), hq =>
    obtain ⟨v, H', I3, rv, q3⟩ := I2.after hq
    show wpAny _ _ (handedOut u) _ _ _
    rw [PySem.W.handedOut_of (handed_of rv)]
    exact wpAny_pure ⟨v, H', I3, rv, q3⟩
end Mz
set_option Elab.async false
set_option linter.all false
set_option maxRecDepth 100000
set_option maxHeartbeats 4000000
/-! repr of lists, tuples that hold instances with an own __repr__, within an except suite -/
namespace Mz.Hot
open PySem PySem.Spec PyProof.Rows L2
abbrev Room := L2H.RoomH
theorem Room.units {k : Nat} {A : Around} (r : Room k A) : A.units + 64 < cLine := by have := r.un; omega
theorem Room.units0 {k : Nat} {A : Around} (r : Room k A) : A.units < cLine := by have := r.un; omega
theorem Room.mono {j k : Nat} {A : Around} (r : Room k A) (h : j ≤ k) : Room j A := L2H.RoomH.mono r h
theorem Room.in1 {k : Nat} {A : Around} (r : Room (k + 1) A) : Room k A.in1 := roomC_in1 r
theorem Room.list_loop {A : Around} {k : Nat} (r : Room (k + 1) A) (args : Args) : Room k (A.under (.builtin "list.__repr__.loop" args)) :=
  ⟨by have := r.dp; have := loop_depth (A := A) (args := args); omega, by have := r.un; rw [units_under_list_loop]; omega⟩

/-- v is shown as t, under the containers as -/
def ShV (X : Cx) (k : Nat) (as : List Addr) (Pre : Hp → Prop) (v : V) (t : Str) : Prop :=
  ∀ (base : Nat), base + t.length ≤ sizeLine → ∀ (A : Around) (g : List Code) (pins : List (Addr × Obj)) (σ : L2.St) (H : Hp) (s : Shared) (u : Value) (Q : Str → Shared → Prop), A.frames = some X.stack → A.guards = some g → (∀ b ∈ as, Clear g b) → Room k A →
    Inv X pins σ H s → Pre H → RelV v u → (∀ H' s', Inv X pins σ H' s' → Same H H' → Q t s') → wpAny (model X.prog X.w) A (pyReprUnder base u) Q X.xe s
section
variable {X : Cx} {k : Nat} {as : List Addr} {Pre : Hp → Prop}
theorem shv_is {v : V} {t : Str} (h : ∀ u, RelV v u → ReprIs X.prog X.w u t) : ShV X k as Pre v t :=
  fun base hb A g pins σ H s u Q _ _ _ _ I _ r q => (h u r) base hb A X.xe s Q fun tk => q H _ (I.tok _) (Same.refl H)
theorem shv_str {z : Str} (h : (reprText z).length ≤ sizeLine) : ShV X k as Pre (.str z) (reprText z) := shv_is fun u r => by
  obtain ⟨t, rfl⟩ := r
  exact ReprIs.str z t h
theorem shv_int {i : Int} (h : i.natAbs.log2 < 1920) : ShV X k as Pre (.int i) (Str.ofString (toString i)) := shv_is fun u r => by
  obtain ⟨t, rfl⟩ := r
  exact ReprIs.int t h
theorem shv_own {j : Nat} {f C p : Addr} {fd : FuncData} {sp : Sp} {t : Str} {pin : Addr × Obj} (hpin : pin ∈ X.pn) (F : FnC X.prog X.w X.K X.mg X.base k f fd ["self"] sp) (hb : Binds X.K fd ["self"] []) (hs : PySem.W.findIn X.K (.ref C) "__repr__" = some (some (.ref f))) (hf : PySem.W.isFn X.K (.ref f) = true)
    (hp : ∀ H, Pre H → ∃ dx fs, H p = some (.ins C dx fs) ∧ sp [.ref p] H (fun v H2 => v = .str t ∧ Same H H2) E0) : ShV X k as Pre (.ref p) t := by
  intro base hbs A g pins σ H s u Q hfr hg hcl hr I pre r q
  obtain rfl : u = Value.ref p := r
  obtain ⟨dx, fs, ha, hsp⟩ := hp H pre
  obtain ⟨mA, O, _⟩ := ins_get I.hok ha
  obtain ⟨od, J, _⟩ := O.look
  refine wpAny_pyReprUnder_ref (by omega) ?_
  unfold pyReprObjUnder pyReprObjBy
  refine wpAny_bind (wpAny_cRoomFor hr.units0 ?_)
  refine wpAny_bind (wpAny_bind (J.type.here ((PySem.W.looks_findIn I.kIn hs).here ?_)))
  refine wpAny_bind (ifBoundBy_K I.kIn J hs hf ?_)
  have P1 := I.pin pin (List.mem_append_left _ hpin)
  have pok : L2H.PinOk X.stack H s pin := ⟨P1.1, P1.2.1, fun z => (List.mem_cons.mp (I.stkSub pin.1 z)).elim P1.2.2.1 P1.2.2.2.1, P1.2.2.2.2⟩
  have hl : ([Value.ref p] : List Value).length = (["self"] : List Str).length := rfl
  have bind := hb s [.ref p] I.kIn hl
  rw [List.append_nil] at bind
  have run : wpAny (model X.prog X.w) A (call (.ref f) [.ref p]) (EP X pins σ (fun v H2 => v = .str t ∧ Same H H2)) X.xe s := by
    refine wpAny_call (codeAny_mono (F.runC A X.stack s H ⟨[.ref p], []⟩ [.ref p] [.ref p] _ pin hr pok (env_at I hfr) bind (.cons rfl .nil) hsp) fun r s2 hq => ?_)
    match r, hq with
    | .error e, hq => exact hq.elim
    | .ok (.ret u), hq => exact I.after hq
    | .ok .next, hq => exact hq.elim
    | .ok .brk, hq => exact hq.elim
    | .ok .cont, hq => exact hq.elim
  refine wpAny_mono run (fun v s2 hv => ?_) fun _ _ z => z
  obtain ⟨w, H2, I2, rv, rfl, sm⟩ := hv
  obtain ⟨tk, rfl⟩ := rv
  exact wpAny_bind (wpAny_isInstance (T := "str") (b := true) rfl isSubtype_str_str (wpAny_pure ⟨_, _, rfl, q _ _ I2 sm⟩))

end
/-- v is shown as t, where the containers as and what is fresh are not being shown -/
def ShW (X : Cx) (k : Nat) (as : List Addr) (Pre : Hp → Prop) (v : V) (t : Str) : Prop :=
  ∀ (base : Nat), base + t.length ≤ sizeLine → ∀ (A : Around) (g : List Code) (pins : List (Addr × Obj)) (σ : L2.St) (H : Hp) (s : Shared) (u : Value) (Q : Str → Shared → Prop), A.frames = some X.stack → A.guards = some g → (∀ b ∈ as, Clear g b) → Fr g H → Room k A →
    Inv X pins σ H s → Pre H → RelV v u → (∀ H' s', Inv X pins σ H' s' → Same H H' → Q t s') → wpAny (model X.prog X.w) A (pyReprUnder base u) Q X.xe s
section
variable {X : Cx} {k : Nat} {as : List Addr} {Pre : Hp → Prop}
theorem ShV.w {v : V} {t : Str} (h : ShV X k as Pre v t) : ShW X k as Pre v t := fun base hb A g pins σ H s u Q f1 f2 f3 _ => h base hb A g pins σ H s u Q f1 f2 f3
theorem ShW.more {as' : List Addr} {v : V} {t : Str} (h : ShW X k as Pre v t) (sub : ∀ b ∈ as, b ∈ as') : ShW X k as' Pre v t := fun base hb A g pins σ H s u Q f1 f2 f3 => h base hb A g pins σ H s u Q f1 f2 fun b m => f3 b (sub b m)
theorem ShW.lift {j : Nat} {v : V} {t : Str} (h : ShW X j as Pre v t) (le : j ≤ k) : ShW X k as Pre v t := fun base hb A g pins σ H s u Q f1 f2 f3 f4 f5 => h base hb A g pins σ H s u Q f1 f2 f3 f4 (f5.mono le)
theorem ShW.pre {Pre2 : Hp → Prop} {v : V} {t : Str} (h : ShW X k as Pre v t) (i : ∀ H, Pre2 H → Pre H) : ShW X k as Pre2 v t := fun base hb A g pins σ H s u Q f1 f2 f3 f4 f5 f6 f7 => h base hb A g pins σ H s u Q f1 f2 f3 f4 f5 f6 (i H f7)
theorem shw_non : ShW X k as Pre .non (PyData.shown .none) := ShV.w (shv_is fun u r => by
  obtain rfl : u = Value.none := r
  simpa only [PyData.shown] using ReprIs.none)
theorem shw_bl {b : Bool} : ShW X k as Pre (.bl b) (PyData.shown (.bool b)) := ShV.w (shv_is fun u r => by
  obtain rfl : u = Value.bool b := r
  simpa only [PyData.shown] using ReprIs.bool b)
theorem room_code {A : Around} {j : Nat} {id : String} {args : Args} (hcu : (A.under (.builtin id args)).units = A.units + 1) (hcd : (A.under (.builtin id args)).depth ≤ A.depth + 1) (r : Room (j + 1) A) : Room j (A.under (.builtin id args)) :=
  ⟨by have := r.dp; omega, by have := r.un; rw [hcu]; omega⟩
theorem fold_own {A : Around} {g : List Code} {pins : List (Addr × Obj)} {σ : L2.St} (hfr : A.frames = some X.stack) (hg : A.guards = some g) (hcl : ∀ b ∈ as, Clear g b) (hr : Room k A) (mono : ∀ H H', Same H H' → Pre H → Pre H') :
    ∀ (vs : List V) (us : List Value) (ts : List Str) (acc : Array Str) (n : Nat) (H : Hp) (s : Shared) (Q : (Array Str × Nat) → Shared → Prop), Vals vs us → Lk (fun v t => ShW X k as Pre v t) vs ts → n + piled ts ≤ sizeLine → Inv X pins σ H s → Pre H → Fr g H →
    (∀ H' s', Inv X pins σ H' s' → Same H H' → Q ⟨acc ++ ts.toArray, n + piled ts⟩ s') → wpAny (model X.prog X.w) A (forIn us (⟨acc, n⟩ : (Array Str × Nat)) tupBody) Q X.xe s := by
  intro vs
  induction vs with
  | nil =>
    intro us ts acc n H s Q rv hT _ I _ _ h
    cases hT
    cases rv
    rw [List.forIn_nil]
    refine wpAny_pure ?_
    have z := h H s I (Same.refl H)
    simpa [piled] using z
  | cons v vs ih =>
    intro us ts acc n H s Q rv hT hn I pre fr h
    cases hT with
    | @cons _ t _ ts2 hv hl =>
    cases rv with
    | @cons _ u _ us2 r1 r2 =>
    have ep : n + piled (t :: ts2) = n + (t.length + 2) + piled ts2 := by
      rw [piled_cons]
      omega
    rw [ep] at hn
    rw [List.forIn_cons]
    refine wpAny_bind (wpAny_bind (hv (n + 1) (by omega) A g pins σ H s u (fun t2 s2 => t2 = t ∧ ∃ H', Inv X pins σ H' s2 ∧ Same H H') hfr hg hcl fr hr I pre r1 (fun H' s' I' sm => ⟨rfl, H', I', sm⟩) |> fun z => wpAny_mono z (fun t2 s2 hh => ?_) fun _ _ e => e))
    obtain ⟨rfl, H', I', sm⟩ := hh
    refine wpAny_pure (ih us2 ts2 (acc.push t2) _ H' s2 Q r2 hl hn I' (mono _ _ sm pre) (fr.same sm) fun H2 s3 I2 sm2 => ?_)
    have z := h H2 s3 I2 (sm.trans sm2)
    rw [ep] at z
    simpa using z
/-- the body of tuple.__repr__ -/
theorem tup_own {A : Around} {g : List Code} {pins : List (Addr × Obj)} {σ : L2.St} {a : Addr} {vs : List V} {ts : List Str} {base : Nat} {id : String} {rest : List Value} {R : Result → Shared → Prop} {H : Hp} {s : Shared} (hcg : (Code.builtin id ⟨.ref a :: rest, []⟩).isGuard = true)
    (hcf : Code.isFrame (.builtin id ⟨.ref a :: rest, []⟩) = false) (hcu : (A.under (.builtin id ⟨.ref a :: rest, []⟩)).units = A.units + 1) (hcd : (A.under (.builtin id ⟨.ref a :: rest, []⟩)).depth ≤ A.depth + 1) (hfr : A.frames = some X.stack) (hg : A.guards = some g) (hcl : ∀ b ∈ a :: as, Clear g b) (hr : Room (k + 1) A) (hna : a ∉ as)
    (mono : ∀ H H', Same H H' → Pre H → Pre H') (hT : Lk (fun v t => ShW X k as Pre v t) vs ts) (hsz : base + (tupleText ts).length ≤ sizeLine) (hE : ∀ e s', X.xe e s' → R (.error e) s') (I : Inv X pins σ H s) (pre : Pre H) (fr : Fr g H) (hA : H a = some (.tup vs))
    (q : ∀ H' s' u, Inv X pins σ H' s' → Same H H' → R (.ok (.ret (.str (tupleText ts) u))) s') :
    wpOwn (model X.prog X.w) A (.builtin id ⟨.ref a :: rest, []⟩) (Builtin.tupleReprAt base ⟨[.ref a], []⟩) (fun fin s' => match fin with | .done f => R (.ok f) s' | .again c' => c'.quiet = true ∧ codeAny (model X.prog X.w) A c' R s') (fun e s' => R (.error e) s') s := by
  have cl : Clear g a := hcl a List.mem_cons_self
  obtain ⟨_, its, rv, o, ho, hc, n, hd⟩ := (show ObjOk X.prog X.w H s.heap a (.tup vs) from I.hok a _ hA)
  have pl := piled_le_tupleText ts
  have len : ts.length = its.length := by rw [← hT.length, rv.length]
  have way : (g.any fun c => tupGuardF (.ref a) (c, default)) = false := List.any_eq_false.mpr fun c hm => by
    rw [tupGuardF_of_clear cl c hm]
    exact Bool.false_ne_true
  rw [tuple_repr_tree, tupleReprUnderWay_eq]
  refine wpOwn_bind (wpOwn_stackTailAny hg (tupGuardF_off _) (tupGuardF_pos _) (by
    rw [way]
    refine wpOwn_of_wpAny ?_
    show wpAny _ _ (tupleReprRest base (.ref a)) _ _ s
    unfold tupleReprRest Builtin.Tuple.tupleItemsOf
    refine wpAny_bind (wpAny_bind (wpAny_seqItems ho hd (wpAny_pure ?_)))
    rw [← Array.forIn_toList]
    refine wpAny_bind (wpAny_mono (fold_own (frames_code hcf hfr) (guards_under_guard hcg hg) (fun b hb => (hcl b (.tail _ hb)).cons (a := a) fun e => hna (e ▸ hb)) (room_code hcu hcd hr) mono vs its ts #[] base H s (fun x s2 => x = ⟨#[] ++ ts.toArray, base + piled ts⟩ ∧ ∃ H', Inv X pins σ H' s2 ∧ Same H H') rv hT (by omega) I pre (fr.push hA) fun H' s' I' sm => ⟨rfl, H', I', sm⟩) (fun x s2 hx => ?_) fun e s2 z => hE e s2 z)
    obtain ⟨rfl, H', I', sm⟩ := hx
    refine wpAny_bind (wpAny_mkStr (wpAny_pure ?_) (by simpa [tupleText, len] using (show (tupleText ts).length ≤ sizeLine by omega)))
    have z := q H' { s2 with toks := s2.toks + 1 } s2.toks (I'.tok _) sm
    simpa [tupleText, len] using z))
/-- a tuple in a container -/
theorem shw_tup {a : Addr} {vs : List V} {ts : List Str} (hna : a ∉ as) (mono : ∀ H H', Same H H' → Pre H → Pre H') (hT : Lk (fun v t => ShW X k as Pre v t) vs ts) (hA : ∀ H, Pre H → H a = some (.tup vs)) : ShW X (k + 1) (a :: as) Pre (.ref a) (tupleText ts) := by
  intro base hb A g pins σ H s u Q hfr hg hcl fr hr I pre r q
  obtain rfl : u = Value.ref a := r
  obtain ⟨_, its, rv, o, ho, hc, n, hd⟩ := (show ObjOk X.prog X.w H s.heap a (.tup vs) from I.hok a _ (hA H pre))
  have hun := hr.units
  refine wpAny_pyReprUnder_ref (by omega) (wpAny_pyReprObjUnder_twin (twin := "tuple.__repr__.under") ⟨o, ho, hc⟩ PySem.F.slot_tuple_repr rfl (by omega) ?_)
  exact call_twin_own (PySem.F.quiet_tuple_repr_under _) PySem.F.entry_tuple_repr_under PySem.F.check_tuple_repr_under ⟨o, ho, hc⟩ PySem.F.slot_tuple_repr (PySem.F.args_tuple_repr_1 _)
    (tup_own (R := callEnd (fun v s' => (∃ x u, v = Value.str x u) ∧ ∃ x u, v = .str x u ∧ Q x s') X.xe) (isGuard_tuple_repr_under _) rfl (units_under_tuple_repr_under _ _) tupu_depth hfr hg hcl hr hna mono hT hb (fun _ _ z => z) I pre fr (hA H pre) fun H' s' u I' sm => ⟨⟨_, _, rfl⟩, _, _, rfl, q H' s' I' sm⟩)
/-- the loop of list.__repr__ -/
theorem loop_ownW {A : Around} {g : List Code} {pins : List (Addr × Obj)} {σ : L2.St} {a P : Addr} {vs : List V} {ts : List Str} {base : Nat} {R : Result → Shared → Prop} (hfr : A.frames = some X.stack) (hg : A.guards = some g) (hcl : ∀ b ∈ as, Clear g b) (hr : Room (k + 1) A) (hna : a ∉ as)
    (mono : ∀ H H', Same H H' → Pre H → Pre H') (hne : a ≠ P) (hlen : ts.length = vs.length) (hT : ∀ (i : Nat) (v : V), vs[i]? = some v → ∃ t, ts[i]? = some t ∧ ShW X k as Pre v t) (hsz : base + (listText ts).length ≤ sizeLine) (hE : ∀ e s', X.xe e s' → R (.error e) s') :
    ∀ (n i : Nat) (H : Hp) (s : Shared), vs.length - i = n → i ≤ vs.length → Inv X pins σ H s → (∀ H', (∀ p o, p ≠ P → H p = some o → H' p = some o) → Pre H') → H a = some (.lst vs) → H P = some (.lst ((ts.take i).map V.str)) → Fr g H →
    (∀ H' s' u, Inv X pins σ H' s' → (∀ p o, p ≠ P → H p = some o → H' p = some o) → R (.ok (.ret (.str (listText ts) u))) s') →
    codeAny (model X.prog X.w) A (.builtin "list.__repr__.loop" ⟨[.ref a, rawInt i, .ref P, rawInt ((base + piled (ts.take i) : Nat) : Int)], []⟩) R s := by
  have hL := textFrom_len ts 0 "["
  have hX : (listText ts).length = (textFrom 0 "[" ts).length + 1 := by
    show (textFrom 0 "[" ts ++ "]").length = _
    rw [strLen_append]; rfl
  have hsz1 : vs.length ≤ sizeLine := by
    have h1 := hL.1
    rw [if_neg (Nat.lt_irrefl 0)] at h1
    omega
  have hsz2 : ∀ t ∈ ts, t.length ≤ sizeLine := fun t ht => by
    have h2 := hL.2.1 t ht
    omega
  have hsz3 : (listText ts).length ≤ sizeLine := by omega
  have hp3 := piled_le_listText ts
  intro n
  induction n with
  | zero =>
    intro i H s hk hi I pre hA hP fr q
    obtain ⟨_, its, na, rv, l1, ha⟩ := I.lstM hA
    obtain ⟨_, its2, nc, rv2, l2, hP2⟩ := I.lstM hP
    obtain ⟨done, rfl, hdone⟩ := strs_done rv2
    have hin : i = vs.length := by omega
    refine codeAny_builtin PySem.F.entry_list_repr_loop ?_
    show wpAny _ _ (Builtin.«list.__repr__.loop» ⟨[.ref a, .int i 0, .ref P, .int ((base + piled (ts.take i) : Nat) : Int) 0], []⟩) _ _ s
    rw [repr_loop_tree]
    refine wpAny_bind (wpAny_listItems ha rfl ?_)
    have hnone : its.toArray[(i : Int).toNat]? = none := by simp [hin, l1]
    simp only [hnone]
    unfold reprEnd
    refine wpAny_bind (wpAny_listItems hP2 rfl ?_)
    rw [show (strValues done).toArray.toList = strValues done from rfl, repr_fold]
    refine wpAny_bind (wpAny_pure ?_)
    have hall : done.map (·.1) = ts := by rw [hdone, hin, ← hlen, List.take_length]
    rw [hall]
    refine wpAny_bind (wpAny_mkStr (wpAny_pure ?_) hsz3)
    exact q H _ _ (I.tok _) fun _ _ _ e => e
  | succ n ih =>
    intro i H s hk hi I pre hA hP fr q
    obtain ⟨_, its, na, rv, l1, ha⟩ := I.lstM hA
    have hlt : i < vs.length := by omega
    obtain ⟨t, ht, hrep⟩ := hT i vs[i] (List.getElem?_eq_getElem hlt)
    obtain ⟨u, hu, rel⟩ := rv.get (List.getElem?_eq_getElem hlt)
    have hp1 := piled_take_succ ht
    have hp2 := piled_take_le ts (i + 1)
    refine codeAny_builtin PySem.F.entry_list_repr_loop ?_
    show wpAny _ _ (Builtin.«list.__repr__.loop» ⟨[.ref a, .int i 0, .ref P, .int ((base + piled (ts.take i) : Nat) : Int) 0], []⟩) _ _ s
    rw [repr_loop_tree]
    refine wpAny_bind (wpAny_listItems ha rfl ?_)
    have hsome : its.toArray[(i : Int).toNat]? = some u := by simpa using hu
    simp only [hsome]
    rw [Int.toNat_natCast]
    have hpre : Pre H := pre H fun _ _ _ e => e
    refine wpAny_bind (wpAny_holding (wpAny_mono (hrep (base + piled (ts.take i) + 1) (by omega) _ _ pins σ H s u (fun t' s' => t' = t ∧ ∃ H', Inv X pins σ H' s' ∧ Same H H') (frames_list_loop hfr) (guards_under_guard (isGuard_list_loop _) hg) (fun b hb => (hcl b hb).cons (a := a) fun e => hna (e ▸ hb)) (fr.push hA) (hr.list_loop _) I hpre rel fun H' s' I' sm => ⟨rfl, H', I', sm⟩) (fun t' s' hh => ?_) fun e s' z => hE e s' z))
    obtain ⟨rfl, H', I', sm⟩ := hh
    refine wpAny_bind (wpAny_mkStr ?_ (hsz2 t' (List.mem_of_getElem? ht)))
    refine wpAny_bind ?_
    show wpAny _ _ (updateSeq P _) _ _ _
    have hP' := sm _ _ hP
    obtain ⟨_, its2, nc, rv2, l2, hP2⟩ := I'.lstM hP'
    have take_len : (ts.take i).length ≤ i := by rw [List.length_take]; omega
    have asz : its2.toArray.size ≤ sizeLine := by
      rw [List.size_toArray, ← l2, List.length_map]
      omega
    refine wpAny_updateSeq hP2 rfl (wpAny_pure ⟨PySem.F.quiet_list_repr_loop _, ?_⟩) asz
    have e1 : ((i : Int) + 1) = ((i + 1 : Nat) : Int) := by omega
    have e2 : base + piled (ts.take i) + (t'.length + 2) = base + piled (ts.take (i + 1)) := by omega
    rw [e1, e2]
    have e3 : (ts.take i).map V.str ++ [V.str t'] = (ts.take (i + 1)).map V.str := by
      rw [List.take_add_one, ht, List.map_append]
      rfl
    have I2 : Inv X pins σ (upd H' P (.lst ((ts.take (i + 1)).map V.str))) _ := I'.lset (its' := its2 ++ [.str t' s'.toks]) (f := fun xs => xs.push (.str t' s'.toks)) (t' := s'.toks + 1) hP' hP2 (by simp) (by rw [← e3]; exact rv2.append (.cons ⟨_, rfl⟩ .nil)) (by rw [List.length_map, List.length_take]; omega)
    have keepP : ∀ p o, p ≠ P → H p = some o → (upd H' P (.lst ((ts.take (i + 1)).map V.str))) p = some o := fun p o np e => by
      rw [upd_ne np]
      exact sm p o e
    refine ih (i + 1) _ _ (by omega) hlt I2 (fun H2 k2 => pre H2 fun p o np e => k2 p o np (keepP p o np e)) (keepP a _ hne hA) upd_same ((fr.same sm).upd) fun H2 s2 u2 I3 k3 => ?_
    exact q H2 s2 u2 I3 fun p o np e => k3 p o np (keepP p o np e)
/-- the head of list.__repr__ -/
theorem lst_ownW {A : Around} {g : List Code} {pins : List (Addr × Obj)} {σ : L2.St} {a : Addr} {v0 : V} {vr : List V} {ts : List Str} {base : Nat} {R : Result → Shared → Prop} {H : Hp} {s : Shared} (hfr : A.frames = some X.stack) (hg : A.guards = some g) (hcl : ∀ b ∈ a :: as, Clear g b) (hr : Room (k + 1) A) (hna : a ∉ as)
    (mono : ∀ H H', Same H H' → Pre H → Pre H') (hT : Lk (fun v t => ShW X k as Pre v t) (v0 :: vr) ts) (hsz : base + (listText ts).length ≤ sizeLine) (hE : ∀ e s', X.xe e s' → R (.error e) s') (I : Inv X pins σ H s) (pre : Pre H) (fr : Fr g H) (hA : H a = some (.lst (v0 :: vr)))
    (q : ∀ H' s' u, Inv X pins σ H' s' → Same H H' → R (.ok (.ret (.str (listText ts) u))) s') :
    wpAny (model X.prog X.w) A.in1 (Builtin.listReprAt base ⟨[.ref a], []⟩) (fun fin s' => match fin with | .done f => R (.ok f) s' | .again c' => c'.quiet = true ∧ codeAny (model X.prog X.w) A c' R s') (fun e s' => R (.error e) s') s := by
  have cl : Clear g a := hcl a List.mem_cons_self
  obtain ⟨z, its, n, rv, l1, ha⟩ := I.lstM hA
  match its, rv with
  | x :: l, rv =>
  refine wpAny_list_repr_head (A := A.in1) (g := g) (b := base) hg (fun v rest kw hm => listSameRef_of_ne (cl _ _ _ _ hm)) ha rfl ?_
  refine wpAny_bind (m := newList []) (wpAny_newObj_type ?_)
  refine wpAny_pure ⟨PySem.F.quiet_list_repr_loop _, ?_⟩
  have I1 := I.lnew (ys := []) (its := []) (t' := s.toks) .nil (Nat.zero_le _)
  have nP : H s.heap.objs.size = none := I.hok.fresh (Nat.le_refl _)
  have neP : a ≠ s.heap.objs.size := ne_of_none hA nP
  have same : ∀ {H' : Hp}, (∀ p o, p ≠ s.heap.objs.size → (L2.upd H s.heap.objs.size (.lst [])) p = some o → H' p = some o) → Same H H' := fun k2 p o e => k2 p o (ne_of_none e nP) (by rw [upd_ne (ne_of_none e nP)]; exact e)
  have e0 : base + piled (ts.take 0) = base := by
    rw [List.take_zero]
    rfl
  have run := loop_ownW (X := X) (k := k) (as := as) (Pre := Pre) (A := A) (g := g) (pins := pins) (σ := σ) (a := a) (P := s.heap.objs.size) (vs := v0 :: vr) (ts := ts) (base := base) (R := R) hfr hg (fun b hb => hcl b (.tail _ hb)) hr hna mono neP hT.length.symm (fun i v e => hT.get e) hsz hE _ 0 (L2.upd H s.heap.objs.size (.lst [])) _ rfl (Nat.zero_le _) I1
    (fun H' k2 => mono H H' (same k2) pre) (by rw [upd_ne neP]; exact hA) (by rw [upd_same, List.take_zero]; rfl) fr.upd fun H' s' u2 I2 k2 => q H' s' u2 I2 (same k2)
  rw [e0] at run
  exact run
/-- a list in a container -/
theorem shw_lst {a : Addr} {v0 : V} {vr : List V} {ts : List Str} (hna : a ∉ as) (mono : ∀ H H', Same H H' → Pre H → Pre H') (hT : Lk (fun v t => ShW X k as Pre v t) (v0 :: vr) ts) (hA : ∀ H, Pre H → H a = some (.lst (v0 :: vr))) : ShW X (k + 1) (a :: as) Pre (.ref a) (listText ts) := by
  intro base hb A g pins σ H s u Q hfr hg hcl fr hr I pre r q
  obtain rfl : u = Value.ref a := r
  obtain ⟨z, its, n, rv, l1, ha⟩ := I.lstM (hA H pre)
  have hun := hr.units
  refine wpAny_pyReprUnder_ref (by omega) (wpAny_pyReprObjUnder_twin (twin := "list.__repr__.under") ⟨_, ha, rfl⟩ PySem.F.slot_list_repr.toG rfl (by omega) ?_)
  exact call_twin_plain PySem.F.plain_list_repr_under PySem.F.entry_list_repr_under PySem.F.check_list_repr_under ⟨_, ha, rfl⟩ PySem.F.slot_list_repr.toG (PySem.F.args_list_repr_1 _)
    (lst_ownW (R := callEnd (fun v s' => (∃ x u, v = Value.str x u) ∧ ∃ x u, v = .str x u ∧ Q x s') X.xe) hfr hg hcl hr hna mono hT hb (fun _ _ z => z) I pre fr (hA H pre) fun H' s' u I' sm => ⟨⟨_, _, rfl⟩, _, _, rfl, q H' s' I' sm⟩)
/-- repr of a list whose items are shown so -/
def rReprW (X : Cx) (k : Nat) : List V → Hp → VK → Prop := fun xs H Q => ∃ (a : Addr) (as : List Addr) (v0 : V) (vr : List V) (ts : List Str) (Pre : Hp → Prop), xs = [.ref a] ∧ H a = some (.lst (v0 :: vr)) ∧ a ∉ as ∧ (∀ H H', Same H H' → Pre H → Pre H') ∧ Pre H ∧
  Lk (fun v t => ShW X k as Pre v t) (v0 :: vr) ts ∧ (listText ts).length ≤ sizeLine ∧ ∀ H', Same H H' → Q (.str (listText ts)) H'
theorem call_reprW (g0 : X.A.guards = some []) (hr : Room (k + 2) X.A) : CallR X (.builtin "repr") (rReprW X k) := by
  intro pins s σ H xs us Q I r h
  obtain ⟨a, as, v0, vr, ts, Pre, rfl, hA, hna, mono, pre, hT, hsz, q⟩ := h
  obtain ⟨u, rfl, rx⟩ := vals1 r
  obtain rfl : u = Value.ref a := rx
  obtain ⟨z, its, n, rv, l1, ha⟩ := I.lstM hA
  have hun := hr.units
  refine call_repr_slot (T := "list") (by omega) ⟨_, ha, rfl⟩ PySem.F.slot_list_repr.toG ?_
  exact wpAny_call (codeAny_call_builtin PySem.F.slot_list_repr.plain PySem.F.entry_list_repr (PySem.F.slot_list_repr.check _ _ _ _ _ _ _ _ ⟨_, ha, rfl⟩ (PySem.F.args_list_repr_1 _)
    (lst_ownW (A := X.A.in1) (base := 0) (R := callEnd _ X.xe) I.env0.frames g0 (fun b _ => Clear.nil b) hr.in1 hna mono hT (by omega) (fun _ _ z => z) I pre Fr.nil hA fun H' s' u I' sm => ⟨_, _, rfl, .str _, H', I', ⟨u, rfl⟩, q H' sm⟩)))
def rReprTW (X : Cx) (k : Nat) : List V → Hp → VK → Prop := fun xs H Q => ∃ (a : Addr) (as : List Addr) (vs : List V) (ts : List Str) (Pre : Hp → Prop), xs = [.ref a] ∧ H a = some (.tup vs) ∧ a ∉ as ∧ (∀ H H', Same H H' → Pre H → Pre H') ∧ Pre H ∧
  Lk (fun v t => ShW X k as Pre v t) vs ts ∧ (tupleText ts).length ≤ sizeLine ∧ ∀ H', Same H H' → Q (.str (tupleText ts)) H'
theorem call_reprTW (g0 : X.A.guards = some []) (hr : Room (k + 2) X.A) : CallR X (.builtin "repr") (rReprTW X k) := by
  intro pins s σ H xs us Q I r h
  obtain ⟨a, as, vs, ts, Pre, rfl, hA, hna, mono, pre, hT, hsz, q⟩ := h
  obtain ⟨u, rfl, rx⟩ := vals1 r
  obtain rfl : u = Value.ref a := rx
  obtain ⟨_, its, rv, o, ho, hc, n, hd⟩ := (show ObjOk X.prog X.w H s.heap a (.tup vs) from I.hok a _ hA)
  have hun := hr.units
  refine call_repr_slot (T := "tuple") (by omega) ⟨o, ho, hc⟩ PySem.F.slot_tuple_repr ?_
  exact wpAny_call (codeAny_call_builtin_own (Code.quiet_builtin _ (by decide +kernel)) PySem.F.entry_tuple_repr (PySem.F.slot_tuple_repr.check _ _ _ _ _ _ _ _ ⟨o, ho, hc⟩ (PySem.F.args_tuple_repr_1 _)
    (tup_own (A := X.A.in1) (base := 0) (R := callEnd _ X.xe) (isGuard_tuple_repr _) rfl (units_under_tuple_repr _ _) tup_depth I.env0.frames g0 (fun b _ => Clear.nil b) hr.in1 hna mono hT (by omega) (fun _ _ z => z) I pre Fr.nil hA fun H' s' u I' sm => ⟨_, _, rfl, .str _, H', I', ⟨u, rfl⟩, q H' sm⟩)))
theorem shw_nil {a : Addr} (hA : ∀ H, Pre H → H a = some (.lst [])) : ShW X k as Pre (.ref a) "[]" := by
  intro base hb A g pins σ H s u Q hfr hg hcl fr hr I pre r q
  obtain rfl : u = Value.ref a := r
  obtain ⟨z, its, n, rv, l1, ha⟩ := I.lstM (hA H pre)
  cases rv
  have hun := hr.units
  exact ReprK.listEmpty (as := []) (h₀ := s.heap) (d := 0) ha rfl rfl base hb A g X.xe s Q hg (fun b hb => nomatch hb) (by omega) (fun _ _ e => e) fun h' tk hk => q H _ (I.kept hk) (Same.refl H)
theorem shw_dict {a : Addr} {kvs : List (Key × V)} (hA : ∀ H, Pre H → H a = some (.dK kvs) ∧ ∀ kv ∈ kvs, KOk kv.1 ∧ VOk [] H kv.2) : ShW X k [a] Pre (.ref a) (dictText (kvs.map entT)) := by
  intro base hb A g pins σ H s u Q hfr hg hcl fr hr I pre r q
  obtain rfl : u = Value.ref a := r
  obtain ⟨ha, hall⟩ := hA H pre
  obtain ⟨_, hsys, vs, kv, o, es, ep, ho, hx, hd, _, hpair, _⟩ := dk_of I.hok ha
  have hun := hr.units
  exact ReprK.dict (as := []) (h₀ := s.heap) (d := 1) ho hx.1 hd hsys (by simp) (ents_shown I kvs vs es.toList kv hpair hall) base hb A g X.xe s Q hg hcl (by omega) (fun _ _ e => e) fun h' tk hk => q H _ (I.kept hk) (Same.refl H)
structure rReprZ (X : Cx) (k : Nat) (xs : List V) (H : Hp) (Q : VK) : Prop where
  h : rReprD X.K xs H Q ∨ rReprW X k xs H Q ∨ rReprTW X k xs H Q ∨ rReprDict xs H Q
theorem call_reprZ (g0 : X.A.guards = some []) (hr : Room (k + 2) X.A) : CallR X (.builtin "repr") (rReprZ X k) := by
  intro pins s σ H xs us Q I r h
  rcases h.h with h | h | h | h
  · exact call_reprD g0 hr.units pins s σ H xs us Q I r h
  · exact call_reprW g0 hr pins s σ H xs us Q I r h
  · exact call_reprTW g0 hr pins s σ H xs us Q I r h
  · exact call_reprDict g0 hr.units pins s σ H xs us Q I r h
end
end Mz.Hot
set_option Elab.async false
set_option linter.all false
set_option maxRecDepth 100000
set_option maxHeartbeats 4000000
namespace Mz
open PySem PySem.Spec PyProof.Rows L2
/-! what is shown, in a suite too -/
/-- the context is of this program -/
structure Cxt (X : Cx) (P : Program) (w : World) (K : PySem.W.Frag) (mg : Str → Option Value) (base : Heap) : Prop where
  p : X.prog = P
  w : X.w = w
  k : X.K = K
  m : X.mg = mg
  b : X.base = base
/-- v is shown as t, from H on -/
structure Shd (P : Program) (w : World) (K : PySem.W.Frag) (mg : Str → Option Value) (base : Heap) (H : Hp) (v : V) (t : Str) : Prop where
  c : ∀ X, Cxt X P w K mg base → ∀ G QQ, Same H G → (∀ G', Same G G' → QQ (.str t) G') → rReprZ X 3 [v] G QQ
  h : ∀ X pin, Cxt X P w K mg base → pin ∈ X.pn → ∀ G QQ, Same H G → (∀ G', Same G G' → QQ (.str t) G') → Hot.rReprZ X 3 [v] G QQ
section
variable {P : Program} {w : World} {K : PySem.W.Frag} {mg : Str → Option Value} {base : Heap} {C f : Addr} {fd : FuncData} {H : Hp}
theorem Shd.same {H' : Hp} {v : V} {t : Str} (s : Same H H') (h : Shd P w K mg base H v t) : Shd P w K mg base H' v t := ⟨fun X c G QQ k q => h.c X c G QQ (s.trans k) q, fun X pin c m G QQ k q => h.h X pin c m G QQ (s.trans k) q⟩
/-- repr of what is shown -/
def rShd (P : Program) (w : World) (K : PySem.W.Frag) (mg : Str → Option Value) (base : Heap) (xs : List V) (H : Hp) (Q : VK) : Prop := ∃ v t, xs = [v] ∧ Shd P w K mg base H v t ∧ ∀ H', Same H H' → Q (.str t) H'
theorem call_shd {X : Cx} (c : Cxt X P w K mg base) (g0 : X.A.guards = some []) (hr : Room 5 X.A) : CallR X (.builtin "repr") (rShd P w K mg base) := by
  intro pins s σ H xs us Q I r h
  obtain ⟨v, t, rfl, sh, q⟩ := h
  exact call_reprZ g0 hr pins s σ H [v] us Q I r (sh.c X c H Q (Same.refl H) q)
theorem call_shdH {X : Cx} {pin : Addr × Obj} (c : Cxt X P w K mg base) (m : pin ∈ X.pn) (g0 : X.A.guards = some []) (hr : Hot.Room 5 X.A) : CallR X (.builtin "repr") (rShd P w K mg base) := by
  intro pins s σ H xs us Q I r h
  obtain ⟨v, t, rfl, sh, q⟩ := h
  exact Hot.call_reprZ g0 hr pins s σ H [v] us Q I r (sh.h X pin c m H Q (Same.refl H) q)
theorem shd_data {v : V} {d : PyData} (hd : ∀ G, Same H G → Dp K G v d) (h1 : PyData.showable d = true) (h2 : PyData.hasDict d = false) (h3 : PyData.depth d < 60) (h4 : (PyData.shown d).length ≤ sizeLine) : Shd P w K mg base H v (PyData.shown d) := by
  refine ⟨fun X c G QQ s q => ?_, fun X pin c m G QQ s q => ?_⟩
  · refine ⟨.inl ⟨v, d, rfl, ?_, h1, h2, h3, h4, q G (Same.refl G)⟩⟩
    rw [c.k]
    exact hd G s
  · refine ⟨.inl ⟨v, d, rfl, ?_, h1, h2, h3, h4, q G (Same.refl G)⟩⟩
    rw [c.k]
    exact hd G s
theorem shd_dict {a : Addr} {kvs : List (Key × V)} (ha : H a = some (.dK kvs)) (hk : ∀ kv ∈ kvs, KOk kv.1 ∧ VOk [] (fun _ => none) kv.2) (hl : (dictText (kvs.map entT)).length ≤ sizeLine) : Shd P w K mg base H (.ref a) (dictText (kvs.map entT)) := by
  have ok : ∀ G : Hp, ∀ kv ∈ kvs, KOk kv.1 ∧ VOk [] G kv.2 := fun G kv m => ⟨(hk kv m).1, by
    rcases (hk kv m).2 with e | e | e | e | ⟨q, _, m, _⟩
    · exact .inl e
    · exact .inr (.inl e)
    · exact .inr (.inr (.inl e))
    · exact .inr (.inr (.inr (.inl e)))
    · exact nomatch m⟩
  exact ⟨fun X c G QQ s q => ⟨.inr (.inr (.inr ⟨a, kvs, rfl, s _ _ ha, ok G, hl, q G (Same.refl G)⟩))⟩, fun X pin c m G QQ s q => ⟨.inr (.inr (.inr ⟨a, kvs, rfl, s _ _ ha, ok G, hl, q G (Same.refl G)⟩))⟩⟩
theorem shd_empty {a : Addr} (ha : H a = some (.lst [])) : Shd P w K mg base H (.ref a) (PyData.shown (.list [])) :=
  shd_data (fun G s => .lst (SqL.of (s _ _ ha)) .nil) (by decide +kernel) (by decide +kernel) (by decide +kernel) (Nat.le_trans (by simp only [PyData.shown]; decide +kernel : _ ≤ 1000) (by decide))
end
theorem suite_quiet {A : Around} {x : Option Value} (h : A.guards = some []) : (A.mark x).guards = some [] := h
end Mz
set_option Elab.async false
set_option linter.all false
set_option maxRecDepth 100000
set_option maxHeartbeats 8000000
namespace Mz
open PySem PySem.Spec PyProof.Rows L2
/-! what is no program has no text -/
def spTold69 (P : Program) (w : World) (K : PySem.W.Frag) (mg : Str → Option Value) (base : Heap) (G : Addr) : Sp := fun vs H Q _ => ∃ (v : V) (t : Str), vs = [v] ∧ (∃ ty, TyX K H v ty ∧ PySem.W.kitOne K ty (.ref G) = some false) ∧ Shd P w K mg base H v t ∧ ∀ r H', Same H H' → H r = none → H' r = some (.lst [.str "program", .str t]) → Q (.ref r) H'
section
variable {P : Program} {w : World} {K : PySem.W.Frag} {mg : Str → Option Value} {base : Heap}
theorem scTold69 : FnScope ["_law_thing", "e"] ["_law_thing"] (defScope sLTold) := ⟨rfl, rfl, rfl, by decide +kernel, rfl, by decide +kernel, by decide +kernel⟩
theorem ok_told69 {f fT G cP : Addr} {fd fdT : FuncData} (F0 : Fun K "_law_told" "_law_told" sLTold f fd) (mR : mg "repr" = none) (GT : FnOk P w K mg base (L2.CX P w) 4 fT fdT ["program"] (spCkP K G cP)) (mT : mg "program_text" = some (.ref fT)) (kT : PySem.W.keepIn K (.ref fT) = true) (bT : Binds K fdT ["program"] [])
    (te : PySem.W.exmOne K (.ref cP) (.ref cP) = some true) (TXP : Xcl K mg "InvalidProgram" cP "value") : FnG P w K mg base CX0 6 f fd ["_law_thing"] (spTold69 P w K mg base G) := by
  refine fun_okG F0 scTold69 (fun vs H Q E h => ?_) (fun cdv A outer s H vs Q E hg0 hr h => ?_)
  · obtain ⟨v, t, rfl, _⟩ := h
    rfl
  · obtain ⟨v, t, rfl, ht, sh, q⟩ := h
    have nd := scTold69.nd
    have hg := quiet_deeper (env := envOfC "_law_told" (defScope sLTold) s.heap.objs.size f cdv) hg0
    have hr5 : Room 5 _ := hr
    have hr4 : Room 4 _ := hr.mono (by decide)
    refine ⟨_, (pss_one (ps_try_named rfl rfl nd (fun W pn xe tk _ => (pss_one (ps_ret (pe_lst (pa_cons pe_str (pa_cons (pe_callS GT hr4 (by rfl) mT kT bT (fun σ => passAt tk σ) (pa_cons (pv 0) pa_nil)) pa_nil))))))
        (.one (i := 1) rfl rfl ⟨rfl, by decide, .inl TXP.m⟩ (fun a oe cls d pn hz hf => (pss_one (ps_ret (pe_lst (pa_cons pe_str (pa_cons (pe_callB (call_shdH (P := P) (w := w) (K := K) (mg := mg) (base := base) (pin := (a, oe)) ⟨rfl, rfl, rfl, rfl, rfl⟩ List.mem_cons_self (suite_quiet hg) ⟨hr5.dp, hr5.un⟩) (by rfl) mR (by decide +kernel) (pa_cons (pe_xf TXP.xf TXP.no hz hf (pv 1)) pa_nil)) pa_nil)))))) (.any _)))), ?_⟩
    refine ⟨_, rfl, v, rfl, ht, fun d H' nd2 s1 hd => ?_⟩
    exact ⟨true, te, fun _ a na => ⟨_, rfl, rfl, rfl, d, _, _, rfl, hd, rfl, _, t, rfl, sh.same s1, fun H2 s2 => ⟨(by show 2 ≤ sizeLine; decide), fun r nr => q r _ (s1.trans (s2.trans (same_nw nr))) (s1.free (s2.free nr)) upd_same⟩⟩, fun y => Bool.noConfusion y⟩
end
end Mz
set_option Elab.async false
set_option linter.all false
set_option maxRecDepth 100000
set_option maxHeartbeats 4000000
/-! words, as the law draws them -/
namespace Mz
open PySem PySem.Spec PyProof.Rows L2
def Wd (z : Str) : Prop := nameS z = true ∧ markV (.str z) = true ∧ Sm 10 z
theorem mark_of {z : Str} (h : nameS z = true) (hn : ∀ y ∈ (["old", "zero", "end", "fails", "more", "done", "none"] : List Str), z ≠ y) : markV (.str z) = true := by
  show (nameS z && !inV (.str z) noMarks) = true
  rw [h, Bool.true_and]
  have : inV (.str z) noMarks = false := by
    unfold inV noMarks
    rw [List.any_eq_false]
    intro v hv e
    simp only [List.mem_cons, List.not_mem_nil, or_false] at hv
    rcases hv with rfl | rfl | rfl | rfl | rfl | rfl | rfl
    all_goals exact hn z (by have := of_decide_eq_true e; cases this; simp) rfl
  rw [this]
  rfl
theorem Bx.off {H : Hp} {b p : Addr} {n : Nat} {o : HO} (B : Bx H b n) (e : H p = some o) (h : ∀ x y z : Int, o ≠ .lst [.int x, .int y, .int z]) : p ≠ b := by
  obtain ⟨x, y, z, hb, _⟩ := B
  intro e2
  rw [e2, hb] at e
  cases e
  exact h _ _ _ rfl
theorem Kp.free {b q : Addr} {H G : Hp} (kp : Kp b H G) (nq : q ≠ b) (e : G q = none) : H q = none := by
  cases x : H q with
  | none => rfl
  | some o =>
    rw [kp q o nq x] at e
    cases e
theorem Bx.new {G : Hp} {b p : Addr} {m : Nat} (hb : Bx G b m) (hp : G p = none) : p ≠ b := by
  obtain ⟨_, _, _, e, _⟩ := hb
  exact (ne_of_none e hp).symm
theorem Bx.noRefs {H : Hp} {b D : Addr} {n : Nat} {ps : List Addr} (B : Bx H b n) (h : H D = some (.lst (ps.map V.ref))) : D ≠ b := B.off h fun x y z e => by
  have e : ps.map V.ref = [V.int x, V.int y, V.int z] := HO.lst.inj e
  cases ps with
  | nil => cases e
  | cons a r => cases e
theorem strs_off {H : Hp} {b a : Addr} {n : Nat} {l : List Str} (B : Bx H b n) (h : H a = some (.lst (l.map V.str))) : a ≠ b := B.off h fun x y z e => by
  have e : l.map V.str = [V.int x, V.int y, V.int z] := HO.lst.inj e
  cases l with
  | nil => cases e
  | cons a r => cases e
theorem cutV_to (xs : List V) (i : Nat) : cutV xs none (some (i : Int)) = xs.take i := by
  unfold cutV
  rw [HT.sIx_nat, HT.sIx_none, List.drop_zero, Nat.sub_zero, Nat.min_comm]
  rcases Nat.le_total i xs.length with h | h
  · rw [Nat.min_eq_right h]
  · rw [Nat.min_eq_left h, List.take_of_length_le (Nat.le_refl _), List.take_of_length_le h]
theorem app_nil {z : Str} : (z ++ "" : Str) = z := str_ext (by rw [app_list]; exact List.append_nil _)
theorem join_list : ∀ cs : List Nat, (Str.join "" (cs.map fun c => (⟨#[c]⟩ : Str))).cps.toList = cs
  | [] => rfl
  | [c] => rfl
  | c :: d :: r => by
    show ((⟨#[c]⟩ : Str) ++ "" ++ Str.join "" ((d :: r).map fun c => (⟨#[c]⟩ : Str))).cps.toList = _
    rw [app_list, app_list, join_list (d :: r), nil_list, List.append_nil]
    rfl
/-- a text of up to n letters -/
def Az (n : Nat) (z : Str) : Prop := z.length ≤ n ∧ ∀ c ∈ z.cps.toList, c ∈ abc.cps.toList
theorem Az.sm {n : Nat} {z : Str} (h : Az n z) : Sm n z := ⟨h.1, strOk_iff.mpr fun c hc => by
  have := h.2 c hc
  revert this
  rw [abc_range]
  intro x
  have := List.mem_range'_1.mp x
  omega⟩
theorem Az.app {n m : Nat} {y z : Str} (hy : Az n y) (hz : Az m z) : Az (n + m) (y ++ z) := by
  refine ⟨by rw [strLen_append]; exact Nat.add_le_add hy.1 hz.1, fun c hc => ?_⟩
  rw [cps_app] at hc
  rcases List.mem_append.mp hc with h | h
  · exact hy.2 c h
  · exact hz.2 c h
theorem Az.cut {n : Nat} {z : Str} (h : Az n z) (lo hi : Option Int) : Az n (cutS z lo hi) := by
  refine ⟨Nat.le_trans (cutS_length z lo hi) h.1, fun c hc => ?_⟩
  unfold cutS at hc
  exact h.2 c (List.mem_of_mem_drop (List.mem_of_mem_take (by simpa using hc)))
theorem Az.one {c : Nat} (h : c ∈ abc.cps.toList) : Az 1 ⟨#[c]⟩ := ⟨Nat.le_refl _, fun d hd => by
  have : d = c := by simpa using hd
  rw [this]
  exact h⟩
theorem Az.name {z : Str} (h : Az 6 z) (h1 : 1 ≤ z.length) : nameS z = true := by
  show ((decide (1 ≤ (z.length : Int)) && decide ((z.length : Int) ≤ 6)) && z.cps.toList.all fun c => decide (c ∈ abc.cps.toList)) = true
  have h6 := h.1
  rw [decide_eq_true (by omega), decide_eq_true (by omega)]
  show (z.cps.toList.all fun c => decide (c ∈ abc.cps.toList)) = true
  rw [List.all_eq_true]
  exact fun c hc => decide_eq_true (h.2 c hc)
def spWord (K : PySem.W.Frag) : Sp := fun vs H Q _ => ∃ (b : Addr) (n : Nat), vs = [.ref b] ∧ Bx H b n ∧ n ≤ 900000 ∧ ∀ (z : Str) (H' : Hp), Wd z → Bx H' b (n + 8) → Kp b H H' → Q (.str z) H'
section
variable {P : Program} {w : World} {K : PySem.W.Frag} {mg : Str → Option Value} {base : Heap}
theorem scWord : FnScope ["_law_box_here", "_law_letters", "_law_word_here", "_law_k"] ["_law_box_here"] (defScope sWord) := ⟨rfl, rfl, rfl, by decide +kernel, rfl, by decide +kernel, by decide +kernel⟩
theorem ok_word {f f1 : Addr} {fd fd1 : FuncData} (F : Fun K "_law_word" "_law_word" sWord f fd) (T : Tk P w K mg base f1 fd1) (B : Blt mg) : FnOk P w K mg base CX0 2 f fd ["_law_box_here"] (spWord K) := by
  refine F.ok scWord (fun vs H Q E h => ?_) (fun cdv A outer s H vs Q E hr h => ?_)
  · obtain ⟨b, n, rfl, _⟩ := h
    rfl
  · obtain ⟨b, n, rfl, hB, hn, q⟩ := h
    have nd := scWord.nd
    refine ⟨_, (pss_cons (ps_set (i := 1) nd rfl (Or.inr rfl) pe_str)
      (pss_cons (ps_set (i := 2) nd rfl (Or.inl rfl) (pe_join pe_str (pe_lc (own := [("_law_k", 3)]) (g := gName 3) (tt := tYes) rfl nd (pi_range1 rfl B.range (pa_cons (pe_op op_add pe_int (pe_call T.ok hr (by rfl) T.m T.k T.b .nil pass0 (pa_cons (pv 0) (pa_cons pe_int pa_nil)))) pa_nil)) (blkOk_by (N := ["_law_box_here", "_law_letters", "_law_word_here", "_law_k"]) (sc := defScope sWord) (by decide +kernel)) (fun _ _ _ _ _ => (pg_name (i := 3) nd rfl (Or.inl rfl))) (fun _ _ _ _ _ => pts_nil) (fun _ _ _ _ _ => (pe_ix ix_str (pv 1) (pe_call T.ok hr (by rfl) T.m T.k T.b .nil pass0 (pa_cons (pv 0) (pa_cons pe_int pa_nil))) (fun _ _ => rfl))))))
      (pss_one (ps_ret (pe_ifExp (pt_cmpR op_in_seq (pv 2) (pe_tup (pa_cons pe_str (pa_cons pe_str (pa_cons pe_str (pa_cons pe_str (pa_cons pe_str (pa_cons pe_str (pa_cons pe_str pa_nil)))))))) (by rfl)) (pe_op op_add_str pe_str (pe_slice sl_str (pv 2) (po_some pe_int) po_none)) (pv 2)))))), ?_⟩
    have off : ∀ {G : Hp} {p b : Addr} {m : Nat}, Bx G b m → G p = none → p ≠ b := fun hb hp => by
      obtain ⟨_, _, _, e, _⟩ := hb
      exact (ne_of_none e hp).symm
    have one : ∀ {H1 : Hp} {p : Addr} (o : HO), H1 p = none → ∃ H2, H2 = upd H1 p o ∧ Same H1 H2 ∧ H2 p = some o := fun o n => ⟨_, rfl, same_nw n, upd_same⟩
    refine ⟨⟨_, rfl⟩, _, rfl, b, n, 6, rfl, hB, by omega, by decide, by decide, fun r H3 r0 r1 B3 K3 => ?_⟩
    refine ⟨_, _, rfl, rfl, _, rfl, by omega, by omega, fun D hD => ?_⟩
    have nb : D ≠ b := off B3 hD
    refine lc_range (lo := 0) (n := (1 + r).toNat) (fun i H' => Bx H' b (n + 1 + i) ∧ Kp b H3 H' ∧ ∃ cs : List Nat, cs.length = i ∧ (∀ c ∈ cs, c ∈ abc.cps.toList) ∧ H' D = some (.lst ((cs.map fun c => (⟨#[c]⟩ : Str)).map V.str)))
      ⟨B3.upd hD, Kp.fresh hD, [], rfl, fun _ h => (nomatch h), upd_same⟩ ?_ ?_
    · rintro i H4 hi ⟨B4, K4, cs, ely, hcs, hl⟩
      refine ⟨rfl, ?_⟩
      unfold tYes
      refine iteT ⟨_, rfl, _, rfl, b, n + 1 + i, 26, rfl, B4, by omega, by decide, by decide, fun c H5 c0 c1 B5 K5 => ?_⟩
      obtain ⟨g, hg, hm⟩ := atI_in (l := abc.cps.toList) c0 c1
      have hl3 := K5 D _ nb hl
      refine ⟨abc, c, g, rfl, rfl, (by decide +kernel), hg, _, hl3, by rw [List.length_map, List.length_map, ely]; exact Nat.lt_of_lt_of_le (by omega) (show 9 ≤ sizeLine by decide), ?_⟩
      refine ⟨?_, ?_, cs ++ [g], by rw [List.length_append, ely]; rfl, ?_, by rw [List.map_append, List.map_append]; exact upd_same⟩
      · obtain ⟨x, y, z, e, h⟩ := B5
        exact ⟨x, y, z, by rw [upd_ne nb.symm]; exact e, h⟩
      · intro p o np e
        have pD : p ≠ D := ne_of_none e hD
        rw [upd_ne pD]
        exact K5 p o np (K4 p o np e)
      · intro y hy
        rcases List.mem_append.mp hy with h | h
        · exact hcs y h
        · rw [List.mem_singleton.mp h]
          exact hm
    · rintro H4 ⟨B4, K4, cs, ely, hcs, hl⟩
      have ones : ∀ y ∈ cs.map fun c => (⟨#[c]⟩ : Str), Sm 1 y := fun y hy => by
        obtain ⟨c, hc, rfl⟩ := List.mem_map.mp hy
        exact sm_sign (z := abc) (by decide +kernel) (hcs c hc)
      have ej : (Txt.join "" (cs.map fun c => (⟨#[c]⟩ : Str))).cps.toList = cs := by
        unfold Txt.join
        rw [StrLaws.glued_eq_join, join_list]
      refine ⟨"", D, _, rfl, rfl, .inl (SqL.of hl), ?_, ?_⟩
      · have e2 := sum_ones _ ones
        have e3 : (cs.map fun c => (⟨#[c]⟩ : Str)).length * ("" : Str).length = 0 := by
          rw [show ("" : Str).length = 0 by decide +kernel, Nat.mul_zero]
        rw [List.length_map] at e2
        omega
      generalize Txt.join "" (cs.map fun c => (⟨#[c]⟩ : Str)) = z at ej
      have az : Az 6 z := ⟨by rw [← len_cps, ej]; omega, fun c hc => hcs c (by rw [ej] at hc; exact hc)⟩
      have l1 : 1 ≤ z.length := by rw [← len_cps, ej]; omega
      have nz := az.name l1
      refine ⟨_, rfl, (by show 7 ≤ sizeLine; decide), fun pt npt => ?_⟩
      obtain ⟨H5, e, s5, t5⟩ := one (.tup noMarks) npt
      rw [show (upd H4 pt (.tup [V.str "old", V.str "zero", V.str "end", V.str "fails", V.str "more", V.str "done", V.str "none"])) = H5 from e.symm]
      clear e
      have Kf : Kp b H H5 := K3.trans (K4.trans (Kp.same s5))
      have Bf : Bx H5 b (n + 8) := (B4.same s5).more (by omega)
      refine ⟨pt, noMarks, rfl, .inr (SqT.of t5), rfl, rfl, _, rfl, ite2 (fun hin => ?_) (fun hin => ?_)⟩
      · have hz : z ∈ (["old", "zero", "end", "fails", "more", "done", "none"] : List Str) := by
          have hin : (noMarks.any fun y => eqV y (.str z)) = true := hin
          obtain ⟨y, hy, e⟩ := List.any_eq_true.mp hin
          have e : eqV y (.str z) = true := e
          simp only [noMarks, List.mem_cons, List.not_mem_nil, or_false] at hy
          rcases hy with rfl | rfl | rfl | rfl | rfl | rfl | rfl
          all_goals
            have e2 := (beq_iff_eq.mp (show (_ == z) = true from e))
            rw [← e2]
            decide +kernel
        have all : ∀ z ∈ (["old", "zero", "end", "fails", "more", "done", "none"] : List Str), Wd ("q" ++ cutS z (some 1) none) ∧ ("q" : Str).length + (cutS z (some 1) none).length ≤ sizeLine := by
          unfold Wd Sm
          decide +kernel
        obtain ⟨w1, w2⟩ := all z hz
        exact ⟨_, rfl, _, rfl, z, rfl, Nat.le_trans az.1 (by decide), _, _, rfl, rfl, w2, q _ H5 w1 Bf Kf⟩
      · refine ⟨_, rfl, q z H5 ⟨nz, ?_, az.sm.mono (by decide)⟩ Bf Kf⟩
        show (nameS z && !inV (.str z) noMarks) = true
        rw [nz, Bool.true_and]
        have : inV (.str z) noMarks = false := Bool.eq_false_iff.mpr hin
        rw [this]
        rfl
end
end Mz
set_option Elab.async false
set_option linter.all false
set_option maxRecDepth 100000
set_option maxHeartbeats 4000000
namespace Mz
open PySem PySem.Spec PyProof.Rows L2
/-! names, unlike -/
def Rt (z : Str) : Prop := nameS z = true ∧ Sm 10 z
theorem nodup_sub {α : Type} [DecidableEq α] : ∀ (l D : List α), l.Nodup → (∀ x ∈ l, x ∈ D) → l.length ≤ D.length
  | [], _, _, _ => Nat.zero_le _
  | x :: l, D, nd, h => by
    obtain ⟨n1, n2⟩ := List.nodup_cons.mp nd
    have hx := h x (List.mem_cons_self ..)
    have ih := nodup_sub l (D.erase x) n2 fun y hy => (List.mem_erase_of_ne (fun e => n1 (by rw [← e]; exact hy))).mpr (h y (List.mem_cons_of_mem _ hy))
    rw [List.length_erase_of_mem hx] at ih
    have := List.length_pos_of_mem hx
    rw [List.length_cons]
    omega
def qwxk : List Str := ["q", "w", "x", "k"]
theorem rt_qwxk : ∀ y ∈ qwxk, Rt y := by
  unfold qwxk Rt Sm
  decide +kernel
/-- what is free of a word and the four -/
def freeOf (z : Str) (found : List Str) : List Str := (z :: qwxk).filter fun y => !decide (y ∈ found)
theorem free_mem {z y : Str} {found : List Str} (hz : Rt z) (h : y ∈ freeOf z found) : Rt y ∧ y ∉ found := by
  obtain ⟨h1, h2⟩ := List.mem_filter.mp h
  refine ⟨?_, fun h3 => ?_⟩
  · rcases List.mem_cons.mp h1 with rfl | h1
    · exact hz
    · exact rt_qwxk y h1
  · rw [decide_eq_true h3] at h2
    cases h2
theorem free_ne {z : Str} {found : List Str} (h : found.length ≤ 3) : freeOf z found ≠ [] := fun e => by
  have := nodup_sub qwxk found (by unfold qwxk; decide +kernel) fun y hy => by
    by_cases m : y ∈ found
    · exact m
    · have : y ∈ freeOf z found := List.mem_filter.mpr ⟨List.mem_cons_of_mem _ hy, by rw [decide_eq_false m]; rfl⟩
      rw [e] at this
      cases this
  have : qwxk.length = 4 := rfl
  omega
def spNames : Sp := fun vs H Q _ => ∃ (b : Addr) (n m : Nat), vs = [.ref b, .int (m : Int)] ∧ Bx H b n ∧ n ≤ 800000 ∧ m ≤ 4 ∧ ∀ (p : Addr) (zs : List Str) (H' : Hp), zs.length = m → zs.Nodup → (∀ z ∈ zs, Rt z) → Bx H' b (n + 8 * m) → Kp b H H' → H p = none → H' p = some (.lst (zs.map V.str)) → Q (.ref p) H'
section
variable {P : Program} {w : World} {K : PySem.W.Frag} {mg : Str → Option Value} {base : Heap}
theorem scNames : FnScope ["_law_box_here", "_law_many", "_law_found", "_law_k", "_law_word_here", "_law_free", "_law_other"] ["_law_box_here", "_law_many"] (defScope sNames) := ⟨rfl, rfl, rfl, by decide +kernel, rfl, by decide +kernel, by decide +kernel⟩
theorem ok_names {f fWo : Addr} {fd fdWo : FuncData} (F : Fun K "_law_names" "_law_names" sNames f fd) (B : Blt mg) (GWo : D1 P w K mg base "_law_word" 2 ["_law_box_here"] (spWord K) fWo fdWo) : FnOk P w K mg base CX0 3 f fd ["_law_box_here", "_law_many"] spNames := by
  refine F.ok scNames (fun vs H Q E h => ?_) (fun cdv A outer s H vs Q E hr h => ?_)
  · obtain ⟨b, n, m, rfl, _⟩ := h
    rfl
  · obtain ⟨b, n, m, rfl, hB, hn, hm, q⟩ := h
    have nd := scNames.nd
    have hr2 : Room 2 _ := hr
    refine ⟨_, (pss_cons (ps_set (i := 2) nd rfl (Or.inr rfl) (pe_lst pa_nil))
      (pss_cons (ps_for PassesOwn.never rfl (pi_range1 rfl B.range (pa_cons (pv 1) pa_nil)) (pg_name (i := 3) nd rfl (Or.inl rfl)) (pss_cons (ps_set (i := 4) nd rfl (Or.inl rfl) (pe_call GWo.ok hr2 (by rfl) GWo.m GWo.k GWo.b .nil pass0 (pa_cons (pv 0) pa_nil)))
      (pss_cons (ps_setLc (i := 5) (own := [("_law_other", 6)]) (g := gName 6) rfl nd rfl rfl (sw_true rfl rfl rfl (by decide +kernel)) (pi_list (pe_lst (pa_cons (pv 4) (pa_cons pe_str (pa_cons pe_str (pa_cons pe_str (pa_cons pe_str pa_nil))))))) (blkOk_by (N := ["_law_box_here", "_law_many", "_law_found", "_law_k", "_law_word_here", "_law_free", "_law_other"]) (sc := defScope sNames) (by decide +kernel)) (fun _ _ _ _ _ => (pg_name (i := 6) nd rfl (Or.inl rfl))) (fun _ _ _ _ _ => pts_one (pt_cmpR (op_notInK K) (pv 6) (pv 2) (by rfl))) (fun _ _ _ _ _ => (pv 6)))
      (pss_one (ps_expr (pe_bm PySem.F.plainAttrs_list PySem.F.slot_list_append PySem.F.type_list_append mt_append (pv 2) (pa_cons (pe_ix ix_list (pv 5) pe_int (fun _ _ => rfl)) pa_nil)))))))
      (pss_one (ps_ret (pv 2))))), ?_⟩
    have sb : 1000 ≤ sizeLine := by decide
    refine ⟨(by show 0 ≤ sizeLine; omega), fun p np => ?_⟩
    have s1 : Same H (upd H p (.lst [])) := same_nw np
    have t1 : upd H p (.lst []) p = some (.lst []) := upd_same
    generalize upd H p (.lst []) = H1 at s1 t1
    have B1 := hB.same s1
    have pb : p ≠ b := hB.new np
    dsimp only
    refine ⟨_, rfl, (m : Int), rfl, by omega, by omega, for_range (lo := 0) (n := (m : Int).toNat) (fun i σ G => (∃ v3 v4 v5 v6 : Option V, σ = [some (.ref b), some (.int (m : Int)), some (.ref p), v3, v4, v5, v6]) ∧ Bx G b (n + 8 * i) ∧ (∀ q o, q ≠ b → q ≠ p → H1 q = some o → G q = some o) ∧
        ∃ zs : List Str, G p = some (.lst (zs.map V.str)) ∧ zs.length = i ∧ zs.Nodup ∧ ∀ z ∈ zs, Rt z)
      ⟨⟨_, _, _, _, rfl⟩, B1.more (by omega), fun q o _ _ e => e, [], t1, rfl, List.nodup_nil, fun _ h => nomatch h⟩ ?_ ?_⟩
    · rintro i σ G hi ⟨⟨v3, v4, v5, v6, rfl⟩, BG, keep, zs, hp, lz, nz, hz⟩
      have hi : i < m := by omega
      refine ⟨_, rfl, b, _, rfl, BG, by omega, fun z G2 wz B2 K2 => ?_⟩
      have hp2 := K2 _ _ pb hp
      have rz : Rt z := ⟨wz.1, wz.2.2⟩
      refine ⟨_, rfl, (by show 5 ≤ sizeLine; omega), fun tl ntl => ?_⟩
      have s3 : Same G2 (upd G2 tl (.lst ((z :: qwxk).map V.str))) := same_nw ntl
      have ttl : upd G2 tl (.lst ((z :: qwxk).map V.str)) tl = some (.lst ((z :: qwxk).map V.str)) := upd_same
      rw [show upd G2 tl (.lst [V.str z, V.str "q", V.str "w", V.str "x", V.str "k"]) = upd G2 tl (.lst ((z :: qwxk).map V.str)) from rfl]
      generalize upd G2 tl (.lst ((z :: qwxk).map V.str)) = G3 at s3 ttl
      have hp3 := s3 _ _ hp2
      refine ⟨tl, rfl, ⟨_, SqL.of ttl⟩, fun D nD => ?_⟩
      refine lc_it (walk_list (xs := (z :: qwxk).map V.str)) (fun i H' => (∀ p o, p ≠ D → G3 p = some o → H' p = some o) ∧ H' D = some (.lst ((((z :: qwxk).take i).filter fun y => !decide (y ∈ zs)).map V.str)))
        ⟨fun p o n e => by rw [upd_ne n]; exact e, upd_same⟩ (fun i H' _ h => SqL.of (h.1 _ _ (ne_of_none ttl nD) ttl)) ?_ ?_
      · rintro j y G4 G5 hj ⟨keep2, hD2⟩ ⟨rfl, hy⟩
        rw [List.getElem?_map] at hy
        obtain ⟨u, hu, rfl⟩ := Option.map_eq_some_iff.mp hy
        have tk : (z :: qwxk).take (j + 1) = (z :: qwxk).take j ++ [u] := by rw [List.take_succ, hu]; rfl
        refine ⟨rfl, _, rfl, _, rfl, p, _, rfl, .inl (SqL.of (keep2 _ _ (ne_of_none hp3 nD) hp3)), rfl, flat_strs, _, rfl, ?_⟩
        show if (!inV (.str u) (zs.map V.str)) = true then _ else _
        rw [inV_strs, tk]
        refine ite2 (fun hy => ?_) (fun hy => ?_)
        · refine ⟨_, rfl, _, hD2, ?_, fun p o n e => by rw [upd_ne n]; exact keep2 p o n e, ?_⟩
          · have l1 := List.length_filter_le (fun y => !decide (y ∈ zs)) ((z :: qwxk).take j)
            rw [List.length_take] at l1
            rw [List.length_map]
            have : (z :: qwxk).length = 5 := rfl
            omega
          · rw [upd_same, List.filter_append, List.map_append, show ([u] : List Str).filter (fun y => !decide (y ∈ zs)) = [u] by rw [List.filter_cons, if_pos hy]; rfl]
            rfl
        · refine ⟨keep2, ?_⟩
          rw [hD2, List.filter_append, show ([u] : List Str).filter (fun y => !decide (y ∈ zs)) = [] by rw [List.filter_cons, if_neg hy]; rfl, List.append_nil]
      rintro G4 ⟨keep2, hD2⟩
      have s4 : Same G3 G4 := fun p o e => keep2 p o (ne_of_none e nD) e
      rw [show (z :: qwxk).take ((z :: qwxk).map V.str).length = z :: qwxk from rfl] at hD2
      have hD2 : G4 D = some (.lst ((freeOf z zs).map V.str)) := hD2
      obtain ⟨f0, fr, ef⟩ := List.exists_cons_of_ne_nil (free_ne (z := z) (found := zs) (by omega))
      have hf := free_mem rz (y := f0) (found := zs) (by rw [ef]; exact List.mem_cons_self)
      rw [ef] at hD2
      have hp4 := s4 _ _ hp3
      have B4 := (B2.same s3).same s4
      refine ⟨_, rfl, .inl ⟨rfl, _, SqL.of hp4⟩, _, rfl, D, _, _, _, rfl, rfl, SqL.of hD2, atI_nat (xs := V.str f0 :: fr.map V.str) (j := 0) rfl, p, _, _, rfl, rfl, hp4, by rw [List.length_map]; omega, ?_⟩
      refine ⟨⟨_, _, _, _, rfl⟩, ?_, fun q o n1 n2 e => by rw [upd_ne n2]; exact s4 _ _ (s3 _ _ (K2 _ _ n1 (keep q o n1 n2 e))), zs ++ [f0], by rw [upd_same, List.map_append]; rfl, by rw [List.length_append, lz]; rfl, ?_, fun x hx => ?_⟩
      · obtain ⟨x, y, w', e, h1, h2, h3, h4, h5⟩ := B4
        exact ⟨x, y, w', by rw [upd_ne pb.symm]; exact e, h1, h2, h3, h4, by omega⟩
      · rw [List.nodup_append]
        exact ⟨nz, List.nodup_cons.mpr ⟨List.not_mem_nil, List.nodup_nil⟩, fun a ha c hc e => hf.2 (by rw [List.mem_singleton.mp hc] at e; rw [← e]; exact ha)⟩
      · rcases List.mem_append.mp hx with hx | hx
        · exact hz x hx
        · rw [List.mem_singleton.mp hx]
          exact hf.1
    · rintro σ G ⟨⟨v3, v4, v5, v6, rfl⟩, BG, keep, zs, hp, lz, nz, hz⟩
      have em : (m : Int).toNat = m := Int.toNat_natCast m
      rw [em] at lz BG
      exact ⟨_, rfl, q p zs G lz nz hz BG (fun q o n e => keep q o n (ne_of_none e np) (s1 _ _ e)) np hp⟩
end
end Mz
set_option Elab.async false
set_option linter.all false
set_option maxRecDepth 100000
set_option maxHeartbeats 4000000
namespace Mz
open PySem PySem.Spec PyProof.Rows L2
/-! rows that are built, and what becomes of them -/
def rF (n : Str) : List Str := ["first", n]
def rH : List Str := ["hand"]
def crewR (gs : List (List (List Str))) : List (List Str) := gs.flatMap fun g => rH :: g
def mkR (n0 : Str) (mids : List (List Str)) (gs : List (List (List Str))) : List (List Str) := rF n0 :: (mids ++ crewR gs)
/-! words of rows -/
theorem step_word {r : List Str} (h : stepS r = true) : wordS r = "step" := by
  cases r with
  | nil => cases h
  | cons z r => rw [wordS_cons, if_pos h]
theorem hand_word : wordS rH = "hand" := by decide +kernel
theorem noform_step {z : Str} {r : List Str} (h : formS z = none) : ¬ stepS (z :: r) = true := by
  show ¬ (match formS z with | none => false | some fs => decide (r.length = fs.length) && ((r.zip fs).map fun p => fitsS p.2 p.1).all id) = true
  rw [h]
  exact Bool.false_ne_true
theorem first_word {s : Str} (h : (partsS s).isSome = true) : wordS (rF s) = "first" := by
  unfold rF
  rw [wordS_cons, if_neg (noform_step (by decide +kernel)), if_neg (fun c => ?_), if_neg (fun c => c rfl), if_pos rfl]
  · exact if_pos h
  rcases c with e | ⟨e, _⟩
  · exact absurd (List.cons.inj e).1 (by decide +kernel)
  · exact absurd e (by decide +kernel)
theorem fact_word {r : List Str} (h : factS r = true) : wordS ("fact" :: r) = "fact" := by
  rw [wordS_cons, if_neg (noform_step (by decide +kernel)), if_pos (.inr ⟨rfl, h⟩)]
theorem page_word {s : Str} (h : s ∈ pagesS) : wordS ["page", s] = "page" := by
  rw [wordS_cons, if_neg (noform_step (by decide +kernel)), if_neg (fun c => ?_), if_neg (fun c => c rfl), if_neg (by decide +kernel), if_pos ⟨rfl, h⟩]
  rcases c with e | ⟨e, _⟩
  · exact absurd (List.cons.inj e).1 (by decide +kernel)
  · exact absurd e (by decide +kernel)
/-! steps of rows -/
theorem stp_eq {z : Str} {r fs : List Str} (h : formS z = some fs) : stpOf (z :: r) = (z, (r.zip fs).map fun p => itmS p.2 p.1) := by
  show (z, (r.zip ((formS z).getD [])).map fun p => itmS p.2 p.1) = _
  rw [h]
  rfl
theorem stepS_eq {z : Str} {r fs : List Str} (h : formS z = some fs) : stepS (z :: r) = (decide (r.length = fs.length) && ((r.zip fs).map fun (p : Str × Str) => fitsS p.2 p.1).all id) := by
  show (match formS z with | none => false | some fs => decide (r.length = fs.length) && ((r.zip fs).map fun (p : Str × Str) => fitsS p.2 p.1).all id) = _
  rw [h]
theorem fits_pl {s z : Str} {k : Int} (h : partsS s = some (z, k)) : fitsS "place" s = true ∧ itmS "place" s = .pl z k := by
  unfold fitsS itmS
  rw [if_pos rfl, if_pos rfl, h]
  exact ⟨rfl, rfl⟩
theorem fits_mk {s : Str} (h : markV (.str s) = true) : fitsS "mark" s = true ∧ itmS "mark" s = .wd s := by
  unfold fitsS itmS
  rw [if_neg (by decide +kernel), if_pos rfl, if_neg (by decide +kernel)]
  exact ⟨h, rfl⟩
theorem fits_nm {s : Str} (h : nameS s = true) : fitsS "name" s = true ∧ itmS "name" s = .wd s := by
  unfold fitsS itmS
  rw [if_neg (by decide +kernel), if_neg (by decide +kernel), if_neg (by decide +kernel)]
  exact ⟨h, rfl⟩
theorem row_one {w s z : Str} {k : Int} (hw : formS w = some (["place"] : List Str)) (h : partsS s = some (z, k)) : stepS [w, s] = true ∧ stpOf [w, s] = (w, [.pl z k]) := by
  obtain ⟨a, b⟩ := fits_pl h
  rw [stepS_eq hw, stp_eq hw]
  simp [a, b]
theorem row_name {w s : Str} (hw : formS w = some (["name"] : List Str)) (h : nameS s = true) : stepS [w, s] = true ∧ stpOf [w, s] = (w, [.wd s]) := by
  obtain ⟨a, b⟩ := fits_nm h
  rw [stepS_eq hw, stp_eq hw]
  simp [a, b]
theorem row_two {w s t z y : Str} {k j : Int} (hw : formS w = some (["place", "place"] : List Str)) (h : partsS s = some (z, k)) (g : partsS t = some (y, j)) : stepS [w, s, t] = true ∧ stpOf [w, s, t] = (w, [.pl z k, .pl y j]) := by
  obtain ⟨a, b⟩ := fits_pl h
  obtain ⟨c, d⟩ := fits_pl g
  rw [stepS_eq hw, stp_eq hw]
  simp [a, b, c, d]
theorem row_write {s t m z y : Str} {k j : Int} (h : partsS s = some (z, k)) (g : partsS t = some (y, j)) (hm : markV (.str m) = true) : stepS ["write", s, t, m] = true ∧ stpOf ["write", s, t, m] = (("write" : Str), [Itm.pl z k, Itm.pl y j, Itm.wd m]) := by
  obtain ⟨a, b⟩ := fits_pl h
  obtain ⟨c, d⟩ := fits_pl g
  obtain ⟨e, f⟩ := fits_mk hm
  have hw : formS "write" = some (["place", "place", "mark"] : List Str) := by decide +kernel
  rw [stepS_eq hw, stp_eq hw]
  simp [a, b, c, d, e, f]
/-! names -/
theorem rt_wok {z : Str} (h : Rt z) : Wok z := by
  refine ⟨h.2.mono (by decide), fun m => ?_, fun m => ?_⟩
  all_goals
    have := of_decide_eq_true (List.all_eq_true.mp (Bool.and_eq_true_iff.mp h.1).2 _ m)
    revert this
    decide +kernel
theorem rt_zero {z : Str} (h : Rt z) : partsS z = some (z, 0) := by
  have := parts_sfx (z := z) (k := 0) h.1 (by decide) (by decide)
  rw [show z ++ sfx 0 = z from str_ext (by rw [cps_app]; exact List.append_nil _)] at this
  exact this
theorem rt_sfx {z t : Str} {k : Int} (h : Rt z) (h0 : -3 ≤ k) (h1 : k ≤ 3) (e : sfx k = t) : partsS (z ++ t) = some (z, k) := by
  rw [← e]
  exact parts_sfx h.1 h0 h1
theorem wok_app {y z : Str} (h : Wok y) (hz : z.length ≤ 2 ∧ PyData.strOk z = true ∧ (32 : Nat) ∉ z.cps.toList ∧ (10 : Nat) ∉ z.cps.toList) (l : y.length ≤ 10) : Wok (y ++ z) := by
  refine ⟨⟨by rw [strLen_append]; omega, (Sm.app h.1 (⟨hz.1, hz.2.1⟩ : Sm 2 z)).2⟩, fun m => ?_, fun m => ?_⟩
  · rw [cps_app] at m
    rcases List.mem_append.mp m with m | m
    · exact h.2.1 m
    · exact hz.2.2.1 m
  · rw [cps_app] at m
    rcases List.mem_append.mp m with m | m
    · exact h.2.2 m
    · exact hz.2.2.2 m
theorem rt_wok_app {y z : Str} (h : Rt y) (hz : z.length ≤ 2 ∧ PyData.strOk z = true ∧ (32 : Nat) ∉ z.cps.toList ∧ (10 : Nat) ∉ z.cps.toList) : Wok (y ++ z) := wok_app (rt_wok h) hz h.2.1
theorem wok_lit {z : Str} (h : (z.length ≤ 20 ∧ PyData.strOk z = true) ∧ (32 : Nat) ∉ z.cps.toList ∧ (10 : Nat) ∉ z.cps.toList) : Wok z := h
/-! lines of a hand -/
def baseP (n0 : Str) : List (Str × Int) := [("", 0), ("", 1), ("", 2), (n0, 0), (n0, 1)]
/-- a line of a hand, with its places among some -/
def LnP (L : List (Str × Int)) (r : List Str) : Prop := RowOk r ∧ stepS r = true ∧ ((stpOf r).1 ≠ "lock" ∧ (stpOf r).1 ≠ "unlock") ∧ ∀ p ∈ plcs (stpOf r).2, p ∈ L
theorem LnP.mono {L M : List (Str × Int)} {r : List Str} (h : LnP L r) (s : ∀ p ∈ L, p ∈ M) : LnP M r := ⟨h.1, h.2.1, h.2.2.1, fun p hp => s p (h.2.2.2 p hp)⟩
theorem ok_row {r : List Str} (ne : r ≠ []) (l : r.length ≤ 6) (h : ∀ s ∈ r, Wok s) : RowOk r := ⟨ne, l, h⟩
theorem ok_two {a b : Str} (ha : Wok a) (hb : Wok b) : RowOk [a, b] := ok_row (by simp) (by simp) fun s hs => by
  simp only [List.mem_cons, List.not_mem_nil, or_false] at hs
  rcases hs with rfl | rfl <;> assumption
theorem ok_three {a b c : Str} (ha : Wok a) (hb : Wok b) (hc : Wok c) : RowOk [a, b, c] := ok_row (by simp) (by simp) fun s hs => by
  simp only [List.mem_cons, List.not_mem_nil, or_false] at hs
  rcases hs with rfl | rfl | rfl <;> assumption
theorem ok_four {a b c d : Str} (ha : Wok a) (hb : Wok b) (hc : Wok c) (hd : Wok d) : RowOk [a, b, c, d] := ok_row (by simp) (by simp) fun s hs => by
  simp only [List.mem_cons, List.not_mem_nil, or_false] at hs
  rcases hs with rfl | rfl | rfl | rfl <;> assumption
theorem ln_one {w s z : Str} {k : Int} (hw : formS w = some (["place"] : List Str)) (h : partsS s = some (z, k)) (ww : Wok w) (ws : Wok s) (nl : w ≠ "lock" ∧ w ≠ "unlock") : LnP [(z, k)] [w, s] := by
  obtain ⟨a, b⟩ := row_one hw h
  refine ⟨ok_two ww ws, a, ?_, ?_⟩
  · rw [b]
    exact nl
  · rw [b]
    exact fun p hp => hp
theorem ln_sync {s t z y : Str} {k j : Int} (h : partsS s = some (z, k)) (g : partsS t = some (y, j)) (ws : Wok s) (wt : Wok t) : LnP [(z, k), (y, j)] ["sync", s, t] := by
  obtain ⟨a, b⟩ := row_two (w := "sync") (by decide +kernel) h g
  refine ⟨ok_three (wok_lit (by decide +kernel)) ws wt, a, ?_, ?_⟩
  · rw [b]
    exact ⟨by show ¬ (("sync" : Str) = "lock"); decide +kernel, by show ¬ (("sync" : Str) = "unlock"); decide +kernel⟩
  · rw [b]
    exact fun p hp => hp
def fiveS (n0 : Str) : List (List Str) := [["cut", "1"], ["look", n0], ["test", n0 ++ "+1"], ["sync", "1", "2"], ["write", "0", n0, "q"]]
theorem ln_five {n0 : Str} (h : Rt n0) : ∀ r ∈ fiveS n0, LnP (baseP n0) r := by
  intro r hr
  have w1 : Wok "1" := wok_lit (by decide +kernel)
  have sub : ∀ {L : List (Str × Int)}, (∀ p ∈ L, p ∈ baseP n0) → LnP L r → LnP (baseP n0) r := fun s h => h.mono s
  simp only [fiveS, List.mem_cons, List.not_mem_nil, or_false] at hr
  rcases hr with rfl | rfl | rfl | rfl | rfl
  · exact (ln_one (z := "") (k := 1) (by decide +kernel) (by decide +kernel) (wok_lit (by decide +kernel)) w1 (by decide +kernel)).mono fun p hp => by
      rw [List.mem_singleton.mp hp]
      simp [baseP]
  · exact (ln_one (by decide +kernel) (rt_zero h) (wok_lit (by decide +kernel)) (rt_wok h) (by decide +kernel)).mono fun p hp => by
      rw [List.mem_singleton.mp hp]
      simp [baseP]
  · exact (ln_one (by decide +kernel) (rt_sfx h (k := 1) (by decide) (by decide) (by decide +kernel)) (wok_lit (by decide +kernel)) (rt_wok_app h (by decide +kernel)) (by decide +kernel)).mono fun p hp => by
      rw [List.mem_singleton.mp hp]
      simp [baseP]
  · exact (ln_sync (z := "") (k := 1) (y := "") (j := 2) (by decide +kernel) (by decide +kernel) w1 (wok_lit (by decide +kernel))).mono fun p hp => by
      simp only [List.mem_cons, List.not_mem_nil, or_false] at hp
      rcases hp with rfl | rfl <;> simp [baseP]
  · obtain ⟨a, b⟩ := row_write (s := "0") (t := n0) (m := "q") (z := "") (k := 0) (by decide +kernel) (rt_zero h) (by decide +kernel)
    refine ⟨ok_four (wok_lit (by decide +kernel)) (wok_lit (by decide +kernel)) (rt_wok h) (wok_lit (by decide +kernel)), a, ?_, ?_⟩
    · rw [b]
      exact ⟨by show ¬ (("write" : Str) = "lock"); decide +kernel, by show ¬ (("write" : Str) = "unlock"); decide +kernel⟩
    · rw [b]
      intro p hp
      have hp : p ∈ [(("" : Str), (0 : Int)), (n0, 0)] := hp
      simp only [List.mem_cons, List.not_mem_nil, or_false] at hp
      rcases hp with rfl | rfl <;> simp [baseP]
/-! standing -/
def StW : List Str → List Str → Prop
  | _, [] => True
  | a, w :: ws => canS w a = true ∧ StW (a ++ [w]) ws
theorem stw_iff : ∀ (ws a : List Str), StW a ws ↔ ∀ i, i < ws.length → canS (ws.getD i "") (a ++ ws.take i) = true
  | [], a => ⟨fun _ i h => absurd h (Nat.not_lt_zero i), fun _ => trivial⟩
  | w :: ws, a => by
    have ih := stw_iff ws (a ++ [w])
    constructor
    · rintro ⟨h1, h2⟩ i hi
      cases i with
      | zero =>
        rw [List.take_zero, List.append_nil]
        exact h1
      | succ i =>
        have := ih.mp h2 i (by rw [List.length_cons] at hi; omega)
        rw [List.append_assoc] at this
        exact this
    · intro h
      refine ⟨?_, ih.mpr fun i hi => ?_⟩
      · have := h 0 (by rw [List.length_cons]; omega)
        rw [List.take_zero, List.append_nil] at this
        exact this
      · have := h (i + 1) (by rw [List.length_cons]; omega)
        rw [List.append_assoc]
        exact this
theorem stw_app : ∀ (xs ys a : List Str), StW a (xs ++ ys) ↔ StW a xs ∧ StW (a ++ xs) ys
  | [], ys, a => by
    rw [List.nil_append, List.append_nil]
    exact ⟨fun h => ⟨trivial, h⟩, fun h => h.2⟩
  | x :: xs, ys, a => by
    have ih := stw_app xs ys (a ++ [x])
    rw [List.append_assoc] at ih
    show canS x a = true ∧ StW (a ++ [x]) (xs ++ ys) ↔ (canS x a = true ∧ StW (a ++ [x]) xs) ∧ StW (a ++ x :: xs) ys
    rw [ih, and_assoc]
    rfl
theorem allst_iff {rows : List (List Str)} : AllSt rows ↔ StW [] (wsS rows) := by
  rw [stw_iff]
  unfold AllSt standsAt wsS
  rw [List.length_map]
  rfl
theorem can_hand {a : List Str} (h : a ≠ []) : canS "hand" a = true := by
  unfold canS
  rw [if_neg (by simpa using h), if_neg (by decide +kernel), if_neg (by decide +kernel)]
  rfl
theorem can_step {a : List Str} (h : ("hand" : Str) ∈ a) : canS "step" a = true := by
  unfold canS
  rw [if_neg (by simpa using List.ne_nil_of_mem h), if_neg (by decide +kernel), if_neg (by decide +kernel), decide_eq_true h]
  rfl
theorem can_fact {a : List Str} (h : a ≠ []) (n : ("hand" : Str) ∉ a) : canS "fact" a = true := by
  unfold canS
  rw [if_neg (by simpa using h), if_neg (by decide +kernel), if_pos rfl, decide_eq_false n]
  rfl
theorem st_steps : ∀ (g : List (List Str)) (a : List Str), ("hand" : Str) ∈ a → (∀ r ∈ g, stepS r = true) → StW a (g.map wordS)
  | [], _, _, _ => trivial
  | r :: g, a, h, hs => by
    have e := step_word (hs r List.mem_cons_self)
    refine ⟨?_, st_steps g _ (List.mem_append_left _ h) fun x m => hs x (List.mem_cons_of_mem _ m)⟩
    rw [e]
    exact can_step h
theorem st_crew : ∀ (gs : List (List (List Str))) (a : List Str), a ≠ [] → (∀ g ∈ gs, ∀ r ∈ g, stepS r = true) → StW a ((crewR gs).map wordS)
  | [], _, _, _ => trivial
  | g :: gs, a, h, hs => by
    show StW a ((rH :: g ++ crewR gs).map wordS)
    rw [List.map_append, stw_app]
    refine ⟨⟨?_, st_steps g _ (List.mem_append_right _ (by rw [hand_word]; exact List.mem_cons_self)) (hs g List.mem_cons_self)⟩, st_crew gs _ (by simp [h]) fun x m => hs x (List.mem_cons_of_mem _ m)⟩
    rw [hand_word]
    exact can_hand h
theorem st_facts : ∀ (ms : List (List Str)) (a : List Str), a ≠ [] → ("hand" : Str) ∉ a → (∀ r ∈ ms, wordS r = "fact") → StW a (ms.map wordS)
  | [], _, _, _, _ => trivial
  | r :: ms, a, h, n, hs => by
    have e := hs r List.mem_cons_self
    refine ⟨by rw [e]; exact can_fact h n, st_facts ms _ (by simp) (fun m => ?_) fun x m => hs x (List.mem_cons_of_mem _ m)⟩
    rcases List.mem_append.mp m with m | m
    · exact n m
    · rw [e] at m
      exact absurd (List.mem_singleton.mp m) (by decide +kernel)
/-- lines ahead of the hands: facts, or a page size -/
def Mid (ms : List (List Str)) : Prop := (∀ r ∈ ms, wordS r = "fact") ∨ ∃ r, ms = [r] ∧ wordS r = "page"
theorem allst_mk {n0 : Str} {ms : List (List Str)} {gs : List (List (List Str))} (h0 : Rt n0) (hm : Mid ms) (hg : ∀ g ∈ gs, ∀ r ∈ g, stepS r = true) : AllSt (mkR n0 ms gs) := by
  rw [allst_iff]
  unfold wsS mkR
  have e0 : wordS (rF n0) = "first" := first_word (by rw [rt_zero h0]; rfl)
  rw [List.map_cons, List.map_append, e0]
  refine ⟨by decide +kernel, ?_⟩
  rw [stw_app]
  refine ⟨?_, st_crew gs _ (by simp) hg⟩
  rcases hm with h | ⟨r, rfl, h⟩
  · exact st_facts ms _ (by simp) (by decide +kernel) h
  · refine ⟨?_, trivial⟩
    rw [h]
    decide +kernel
/-! a line that can't stand -/
theorem stands_pre {a b c : List Str} {j : Nat} (h : j < a.length) : standsAt (a ++ b) j = standsAt (a ++ c) j := by
  unfold standsAt
  rw [List.take_append_of_le_length (by omega), List.take_append_of_le_length (by omega), List.getD_eq_getElem?_getD, List.getD_eq_getElem?_getD, List.getElem?_append_left h, List.getElem?_append_left h]
theorem bad_line {pre post : List (List Str)} {odd : List Str} (h : AllSt (pre ++ post)) (ne : pre ≠ []) (hw : wordS odd = "" ∨ wordS odd = "first") : RdS (pre ++ (odd :: post)) (.line pre.length) := by
  have e1 : wsS (pre ++ (odd :: post)) = wsS pre ++ (wordS odd :: wsS post) := by
    unfold wsS
    rw [List.map_append]
    rfl
  have e2 : wsS (pre ++ post) = wsS pre ++ wsS post := by
    unfold wsS
    rw [List.map_append]
  have lp : (wsS pre).length = pre.length := by
    unfold wsS
    rw [List.length_map]
  refine ⟨by rw [List.length_append, List.length_cons]; omega, fun j hj => ?_, ?_⟩
  · rw [e1, stands_pre (c := wsS post) (by omega), ← e2]
    exact h j (by rw [List.length_append]; omega)
  · rw [e1]
    unfold standsAt
    rw [List.getD_eq_getElem?_getD, ← lp, List.getElem?_append_right (Nat.le_refl _), Nat.sub_self, List.take_left]
    show canS (wordS odd) (wsS pre) = false
    have nn : wsS pre ≠ [] := fun e => ne (List.map_eq_nil_iff.mp e)
    unfold canS
    rw [if_neg (by simpa using nn)]
    rcases hw with e | e
    all_goals
      rw [e, if_neg (by decide +kernel), if_neg (by decide +kernel), decide_eq_false (by decide +kernel), decide_eq_false (by decide +kernel)]
      rfl
/-! hands, facts, first, page of what is built -/
theorem zip_map (rows : List (List Str)) : rows.zip (wsS rows) = rows.map fun r => (r, wordS r) := by
  unfold wsS
  induction rows with
  | nil => rfl
  | cons r rows ih => rw [List.map_cons, List.zip_cons_cons, ih, List.map_cons]
theorem fold_other : ∀ (ms : List (List Str)) (acc : List (List (List Str))), (∀ r ∈ ms, wordS r ≠ "hand" ∧ wordS r ≠ "step") → (ms.map fun r => (r, wordS r)).foldl stepG acc = acc
  | [], _, _ => rfl
  | r :: ms, acc, h => by
    obtain ⟨h1, h2⟩ := h r List.mem_cons_self
    rw [List.map_cons, List.foldl_cons, show stepG acc (r, wordS r) = acc by unfold stepG; rw [if_neg h1, if_neg h2]]
    exact fold_other ms acc fun x m => h x (List.mem_cons_of_mem _ m)
theorem fold_steps : ∀ (g : List (List Str)) (acc : List (List (List Str))) (h : List (List Str)), (∀ r ∈ g, stepS r = true) → (g.map fun r => (r, wordS r)).foldl stepG (acc ++ [h]) = acc ++ [h ++ g]
  | [], acc, h, _ => by rw [List.append_nil]; rfl
  | r :: g, acc, h, hs => by
    rw [List.map_cons, List.foldl_cons, step_word (hs r List.mem_cons_self)]
    rw [show stepG (acc ++ [h]) (r, ("step" : Str)) = acc ++ [h ++ [r]] by unfold stepG; rw [if_neg (by show ¬ (("step" : Str) = "hand"); decide +kernel), if_pos rfl, List.dropLast_concat, List.getLast?_concat]; rfl]
    rw [fold_steps g acc (h ++ [r]) fun x m => hs x (List.mem_cons_of_mem _ m), List.append_assoc]
    rfl
theorem fold_crew : ∀ (gs acc : List (List (List Str))), (∀ g ∈ gs, ∀ r ∈ g, stepS r = true) → ((crewR gs).map fun r => (r, wordS r)).foldl stepG acc = acc ++ gs
  | [], acc, _ => by rw [List.append_nil]; rfl
  | g :: gs, acc, h => by
    show ((rH :: g ++ crewR gs).map fun r => (r, wordS r)).foldl stepG acc = _
    rw [List.map_append, List.foldl_append, List.map_cons, List.foldl_cons, hand_word]
    rw [show stepG acc (rH, ("hand" : Str)) = acc ++ [[]] by unfold stepG; rw [if_pos rfl]]
    rw [fold_steps g acc [] (h g List.mem_cons_self), List.nil_append, fold_crew gs _ fun x m => h x (List.mem_cons_of_mem _ m), List.append_assoc]
    rfl
theorem mid_other {ms : List (List Str)} (hm : Mid ms) : ∀ r ∈ ms, wordS r ≠ "hand" ∧ wordS r ≠ "step" := by
  rcases hm with h | ⟨r, rfl, h⟩
  · intro r hr
    rw [h r hr]
    decide +kernel
  · intro x hx
    rw [List.mem_singleton.mp hx, h]
    decide +kernel
theorem hs_mk {n0 : Str} {ms : List (List Str)} {gs : List (List (List Str))} (h0 : Rt n0) (hm : Mid ms) (hg : ∀ g ∈ gs, ∀ r ∈ g, stepS r = true) : hsS (mkR n0 ms gs) = gs.map fun g => g.map stpOf := by
  have e0 : wordS (rF n0) = "first" := first_word (by rw [rt_zero h0]; rfl)
  unfold hsS handsG
  rw [zip_map, show mkR n0 ms gs = (rF n0 :: ms) ++ crewR gs from rfl, List.map_append, List.foldl_append, fold_other (rF n0 :: ms), fold_crew gs _ hg]
  · rfl
  · intro r hr
    rcases List.mem_cons.mp hr with rfl | hr
    · rw [e0]
      decide +kernel
    · exact mid_other hm r hr
theorem crew_word {gs : List (List (List Str))} (hg : ∀ g ∈ gs, ∀ r ∈ g, stepS r = true) : ∀ r ∈ crewR gs, wordS r = "hand" ∨ wordS r = "step" := by
  intro r hr
  obtain ⟨g, hgm, hr⟩ := List.mem_flatMap.mp hr
  rcases List.mem_cons.mp hr with rfl | hr
  · exact .inl hand_word
  · exact .inr (step_word (hg g hgm r hr))
theorem fc_mk {n0 : Str} {ms : List (List Str)} {gs : List (List (List Str))} (h0 : Rt n0) (hg : ∀ g ∈ gs, ∀ r ∈ g, stepS r = true) : fcS (mkR n0 ms gs) = (ms.filter fun r => decide (wordS r = "fact")).map fun r => fctOf r.tail := by
  have e0 : wordS (rF n0) = "first" := first_word (by rw [rt_zero h0]; rfl)
  unfold fcS mkR
  rw [List.filter_cons, e0, if_neg (by decide +kernel), List.filter_append]
  rw [show (crewR gs).filter (fun r => decide (wordS r = "fact")) = [] from List.filter_eq_nil_iff.mpr fun r hr => by
    rcases crew_word hg r hr with e | e <;> rw [e] <;> decide +kernel, List.append_nil]
theorem fp_mk {n0 : Str} {ms : List (List Str)} {gs : List (List (List Str))} (h0 : Rt n0) : fpS (mkR n0 ms gs) = some (n0, 0) := rt_zero h0
theorem pg_none {n0 : Str} {ms : List (List Str)} {gs : List (List (List Str))} (hm : ∀ r ∈ ms, wordS r = "fact") (hg : ∀ g ∈ gs, ∀ r ∈ g, stepS r = true) : PgR (mkR n0 ms gs) none := by
  refine .inl ⟨fun e => ?_, rfl⟩
  unfold wsS mkR at e
  rw [List.map_cons, List.getElem?_cons_succ] at e
  have m := List.mem_of_getElem? e
  obtain ⟨r, hr, e⟩ := List.mem_map.mp m
  rcases List.mem_append.mp hr with hr | hr
  · rw [hm r hr] at e
    exact absurd e (by decide +kernel)
  · rcases crew_word hg r hr with x | x <;> rw [x] at e <;> exact absurd e (by decide +kernel)
theorem pg_some {n0 : Str} {i : Nat} (hi : i < 31) {gs : List (List (List Str))} : PgR (mkR n0 [["page", Str.ofString (toString (1 + (i : Int)))]] gs) (some (1 + (i : Int))) := by
  refine .inr ⟨i, hi, rfl, ?_, rfl⟩
  unfold wsS mkR
  show some (wordS ["page", Str.ofString (toString (1 + (i : Int)))]) = _
  rw [page_word]
  unfold pagesS
  exact List.mem_map.mpr ⟨i, List.mem_range.mpr hi, rfl⟩
end Mz
set_option Elab.async false
set_option linter.all false
set_option maxRecDepth 100000
set_option maxHeartbeats 4000000
namespace Mz
open PySem PySem.Spec PyProof.Rows L2
def Free (ss : List StpD) : Prop := ∀ d ∈ ss, d.1 ≠ "lock" ∧ d.1 ≠ "unlock"
theorem locks_skip : ∀ {held : List Str} {ss rs : List StpD}, Free ss → locksFrom held (ss ++ rs) = locksFrom held rs
  | held, [], rs, _ => rfl
  | held, s :: ss, rs, h => by
    have h1 := h s List.mem_cons_self
    show (match lockOne held s with | none => false | some g => locksFrom g (ss ++ rs)) = _
    rw [lock_other h1.1 h1.2]
    exact locks_skip fun x hx => h x (List.mem_cons_of_mem _ hx)
theorem Free.take {ss : List StpD} (h : Free ss) (n : Nat) : Free (ss.take n) := fun d hd => h d (List.mem_of_mem_take hd)
theorem Free.drop {ss : List StpD} (h : Free ss) (n : Nat) : Free (ss.drop n) := fun d hd => h d (List.mem_of_mem_drop hd)
theorem lockOne_lock {held : List Str} {z : Str} (h : z ∉ held) : lockOne held ("lock", [.wd z]) = some (held ++ [z]) := by
  show (if ("lock" : Str) = "lock" then (if z ∈ held then none else some (held ++ [z])) else if ("lock" : Str) = "unlock" then (if z ∈ held then some (held.erase z) else none) else some held) = _
  rw [if_pos rfl, if_neg h]
theorem lockOne_unlock {held : List Str} {z : Str} (h : z ∈ held) : lockOne held ("unlock", [.wd z]) = some (held.erase z) := by
  show (if ("unlock" : Str) = "lock" then (if z ∈ held then none else some (held ++ [z])) else if ("unlock" : Str) = "unlock" then (if z ∈ held then some (held.erase z) else none) else some held) = _
  rw [if_neg (by decide +kernel), if_pos rfl, if_pos h]
abbrev lkS (z : Str) : StpD := ("lock", [Itm.wd z])
abbrev ukS (z : Str) : StpD := ("unlock", [Itm.wd z])
theorem lock_step {held g : List Str} {s : StpD} {r : List StpD} (h : lockOne held s = some g) : locksFrom held (s :: r) = locksFrom g r := by
  show (match lockOne held s with | none => false | some g => locksFrom g r) = _
  rw [h]
theorem lock_fail {held : List Str} {s : StpD} {r : List StpD} (h : lockOne held s = none) : locksFrom held (s :: r) = false := by
  show (match lockOne held s with | none => false | some g => locksFrom g r) = _
  rw [h]
theorem none_unlock {z : Str} : lockOne [] (ukS z) = none := by
  unfold lockOne
  dsimp only
  rw [if_neg (by decide +kernel), if_pos rfl, if_neg (by simp)]
theorem none_lock {z : Str} : lockOne [z] (lkS z) = none := by
  unfold lockOne
  dsimp only
  rw [if_pos rfl, if_pos List.mem_cons_self]
theorem one_lock {z : Str} : lockOne [] (lkS z) = some [z] := lockOne_lock (by simp)
theorem no_lock {z : Str} : lockOne [z] (ukS z) = some [] := by
  rw [show lockOne [z] (ukS z) = some ([z].erase z) from lockOne_unlock (by simp)]
  simp
theorem bad_unlock {z : Str} {A R : List StpD} (h : Free A) : locksFrom [] (A ++ (ukS z :: R)) = false := by
  rw [locks_skip h, lock_fail none_unlock]
theorem bad_lock {z : Str} {A B R : List StpD} (h : Free A) (hB : Free B) : locksFrom [] (A ++ (lkS z :: (B ++ (lkS z :: R)))) = false := by
  rw [locks_skip h, lock_step one_lock, locks_skip hB, lock_fail none_lock]
theorem free_locks {held : List Str} : ∀ {ss : List StpD}, Free ss → locksFrom held ss = true
  | [], _ => rfl
  | s :: ss, h => by
    have h1 := h s List.mem_cons_self
    rw [lock_step (lock_other h1.1 h1.2)]
    exact free_locks fun x hx => h x (List.mem_cons_of_mem _ hx)
theorem addNew_nodup {acc : List (Str × Int)} {p : Str × Int} (h : acc.Nodup) : (addNew acc p).Nodup := by
  unfold addNew
  split
  · exact h
  · rename_i hp
    rw [List.nodup_append]
    refine ⟨h, List.nodup_cons.mpr ⟨List.not_mem_nil, List.nodup_nil⟩, fun x hx y hy e => ?_⟩
    rw [List.mem_singleton.mp hy] at e
    rw [e] at hx
    exact hp hx
theorem fold_nodup : ∀ (ps acc : List (Str × Int)), acc.Nodup → (ps.foldl addNew acc).Nodup
  | [], _, h => h
  | p :: ps, acc, h => fold_nodup ps (addNew acc p) (addNew_nodup h)
theorem firsts_nodup (ps : List (Str × Int)) : (firsts ps).Nodup := fold_nodup ps [] List.nodup_nil
theorem firsts_few {ps L : List (Str × Int)} (h : ∀ p ∈ ps, p ∈ L) : (firsts ps).length ≤ L.length := nodup_sub _ _ (firsts_nodup ps) fun p hp => h p (firsts_sub hp)
theorem mem_steps {hs : List (List StpD)} {p : Str × Int} : p ∈ plcsAll (stepsOf hs) ↔ ∃ h ∈ hs, p ∈ plcsAll h := by
  unfold plcsAll stepsOf
  rw [List.mem_flatMap]
  constructor
  · rintro ⟨d, hd, hp⟩
    obtain ⟨h, hh, hd⟩ := List.mem_flatten.mp hd
    exact ⟨h, hh, List.mem_flatMap.mpr ⟨d, hd, hp⟩⟩
  · rintro ⟨h, hh, hp⟩
    obtain ⟨d, hd, hp⟩ := List.mem_flatMap.mp hp
    exact ⟨d, List.mem_flatten.mpr ⟨h, hh, hd⟩, hp⟩
theorem fold_has : ∀ (ps acc : List (Str × Int)) {p : Str × Int}, p ∈ acc ∨ p ∈ ps → p ∈ ps.foldl addNew acc
  | [], acc, p, h => h.elim id (fun x => nomatch x)
  | q :: ps, acc, p, h => fold_has ps (addNew acc q) (by
    unfold addNew
    rcases h with h | h
    · left
      split
      · exact h
      · exact List.mem_append_left _ h
    · rcases List.mem_cons.mp h with rfl | h
      · left
        split
        · rename_i hp
          exact hp
        · exact List.mem_append_right _ List.mem_cons_self
      · exact .inr h)
theorem firsts_mem {ps : List (Str × Int)} {p : Str × Int} : p ∈ firsts ps ↔ p ∈ ps := ⟨firsts_sub, fun h => fold_has ps [] (.inr h)⟩
theorem over_unk {z : Str} {k : Int} {hs : List (List StpD)} {rws : List Row} {pg : Option Int} {L : List (Str × Int)} {ns : List Str} (hL : ∀ p ∈ prPl z k hs ++ plsOf rws, p ∈ L) (l : L.length < 60) (nd : ns.Nodup) (hn : ∀ y ∈ ns, Rt y ∧ ∃ k', (y, k') ∈ prPl z k hs ++ plsOf rws) (c : capP pg < ns.length) : OverS z k hs rws pg := by
  refine ⟨Nat.lt_of_le_of_lt (firsts_few hL) l, .inr fun ys hU => Nat.lt_of_lt_of_le c (nodup_sub ns ys nd fun y hy => ?_)⟩
  obtain ⟨ry, k', hk⟩ := hn y hy
  exact (hU.2.2 y).mpr ⟨name_ne ry.1, k', firsts_mem.mpr hk⟩
theorem over_many {z : Str} {k : Int} {hs : List (List StpD)} {rws : List Row} {pg : Option Int} {L ns : List (Str × Int)} (hL : ∀ p ∈ prPl z k hs ++ plsOf rws, p ∈ L) (l : L.length < 60) (nd : ns.Nodup) (hn : ∀ p ∈ ns, p ∈ prPl z k hs ++ plsOf rws) (c : 14 < ns.length) : OverS z k hs rws pg :=
  ⟨Nat.lt_of_le_of_lt (firsts_few hL) l, .inl (Nat.lt_of_lt_of_le c (nodup_sub ns _ nd fun p hp => firsts_mem.mpr (hn p hp)))⟩
theorem plcs_apx {a b : List StpD} {p : Str × Int} : p ∈ plcsAll (a ++ b) ↔ p ∈ plcsAll a ∨ p ∈ plcsAll b := by
  unfold plcsAll
  rw [List.flatMap_append, List.mem_append]
theorem prPl_mem {z : Str} {k : Int} {hs : List (List StpD)} {p : Str × Int} : p ∈ prPl z k hs ↔ p = (z, k) ∨ p ∈ plcsAll (stepsOf hs) := by
  unfold prPl
  rw [firsts_mem, List.mem_cons]
abbrev cutR (n : Str) : List Str := ["cut", n]
abbrev rdR (n : Str) : List Str := ["read", n]
abbrev lkR (z : Str) : List Str := ["lock", z]
abbrev ukR (z : Str) : List Str := ["unlock", z]
/-! the law's rows -/
theorem plcs_ln {L : List (Str × Int)} {g : List (List Str)} (h : ∀ r ∈ g, LnP L r) : ∀ p ∈ plcsAll (g.map stpOf), p ∈ L := fun p hp => by
  obtain ⟨d, hd, hp⟩ := List.mem_flatMap.mp hp
  obtain ⟨r, hr, rfl⟩ := List.mem_map.mp hd
  exact (h r hr).2.2.2 p hp
theorem free_ln {L : List (Str × Int)} {g : List (List Str)} (h : ∀ r ∈ g, LnP L r) : Free (g.map stpOf) := fun d hd => by
  obtain ⟨r, hr, rfl⟩ := List.mem_map.mp hd
  exact (h r hr).2.2.1
theorem mid_nil : Mid [] := .inl fun _ h => nomatch h
/-- steps in groups, each a row -/
def GsOk (gs : List (List (List Str))) : Prop := (∀ g ∈ gs, ∀ r ∈ g, stepS r = true ∧ RowOk r) ∧ (crewR gs).length ≤ 20
theorem GsOk.st {gs : List (List (List Str))} (h : GsOk gs) : ∀ g ∈ gs, ∀ r ∈ g, stepS r = true := fun g hg r hr => (h.1 g hg r hr).1
theorem rh_ok : RowOk rH := ok_row (by unfold rH; simp) (by unfold rH; simp) fun s hs => by
  rw [List.mem_singleton.mp hs]
  exact wok_lit (by decide +kernel)
theorem rf_ok {n0 : Str} (h : Rt n0) : RowOk (rF n0) := ok_two (wok_lit (by decide +kernel)) (rt_wok h)
theorem GsOk.rows {gs : List (List (List Str))} (h : GsOk gs) : ∀ r ∈ crewR gs, RowOk r := by
  intro r hr
  obtain ⟨g, hgm, hr⟩ := List.mem_flatMap.mp hr
  rcases List.mem_cons.mp hr with rfl | hr
  · exact rh_ok
  · exact (h.1 g hgm r hr).2
theorem rows_mk {n0 : Str} {ms : List (List Str)} {gs : List (List (List Str))} (h0 : Rt n0) (hm : ∀ r ∈ ms, RowOk r) (lm : ms.length ≤ 10) (hg : GsOk gs) : RowsOk (mkR n0 ms gs) := by
  refine ⟨by unfold mkR; simp, ?_, fun r hr => ?_⟩
  · have := hg.2
    unfold mkR
    rw [List.length_cons, List.length_append]
    omega
  · rcases List.mem_cons.mp hr with rfl | hr
    · exact rf_ok h0
    · rcases List.mem_append.mp hr with hr | hr
      · exact hm r hr
      · exact hg.rows r hr
section
variable {n0 : Str} {gs : List (List (List Str))}
theorem fc_nil (h0 : Rt n0) (hg : GsOk gs) : fcS (mkR n0 [] gs) = [] := by
  rw [fc_mk h0 hg.st]
  rfl
theorem rd_hand (h0 : Rt n0) (hg : GsOk gs) (l1 : 1 ≤ gs.length) (l3 : gs.length ≤ 3) {ib : Nat} {g : List (List Str)} (hib : gs[ib]? = some g) (hgd : ∀ j g, j < ib → gs[j]? = some g → g.length ≤ 12 ∧ Free (g.map stpOf)) (hb : 12 < g.length ∨ (g.length ≤ 12 ∧ locksFrom [] (g.map stpOf) = false)) : RdS (mkR n0 [] gs) .hand := by
  refine ⟨allst_mk h0 mid_nil hg.st, ?_, ?_, ?_⟩
  · rw [fc_nil h0 hg]
    exact Nat.zero_le _
  · rw [fc_nil h0 hg]
    exact two_nil
  rw [hs_mk h0 mid_nil hg.st]
  rw [List.length_map]
  refine ⟨l1, l3, ib, g.map stpOf, by rw [List.getElem?_map, hib]; rfl, fun j h hj e => ?_, by rw [List.length_map]; exact hb⟩
  rw [List.getElem?_map] at e
  obtain ⟨g', hg', rfl⟩ := Option.map_eq_some_iff.mp e
  obtain ⟨a, b⟩ := hgd j g' hj hg'
  rw [List.length_map]
  exact ⟨a, free_locks b⟩
theorem rd_count (h0 : Rt n0) (hg : GsOk gs) (l : gs.length = 0 ∨ 3 < gs.length) : RdS (mkR n0 [] gs) .program := by
  refine ⟨allst_mk h0 mid_nil hg.st, ?_, ?_, .inl ?_⟩
  · rw [fc_nil h0 hg]
    exact Nat.zero_le _
  · rw [fc_nil h0 hg]
    exact two_nil
  rw [hs_mk h0 mid_nil hg.st, List.length_map]
  exact l
/-- one hand of some steps -/
theorem hsok_one {L : List (Str × Int)} {g : List (List Str)} (hl : ∀ r ∈ g, LnP L r) (l : g.length ≤ 12) : HsOk [g.map stpOf] := ⟨Nat.le_refl 1, (by show 1 ≤ 3; decide), fun h hh => by
  rw [List.mem_singleton.mp hh, List.length_map]
  exact ⟨l, free_locks (free_ln hl)⟩⟩
theorem all_one {L : List (Str × Int)} {g : List (List Str)} {k : Int} (hl : ∀ r ∈ g, LnP L r) (hz : (n0, k) ∈ L) : ∀ p ∈ prPl n0 k [g.map stpOf] ++ plsOf [], p ∈ L := fun p hp => by
  rcases List.mem_append.mp hp with hp | hp
  · rcases prPl_mem.mp hp with rfl | hp
    · exact hz
    · obtain ⟨h, hh, hp⟩ := mem_steps.mp hp
      rw [List.mem_singleton.mp hh] at hp
      exact plcs_ln hl p hp
  · cases hp
theorem in_one {L : List (Str × Int)} {g : List (List Str)} {pg : Option Int} (hl : ∀ r ∈ g, LnP L r) (hz : (n0, (0 : Int)) ∈ L) (l : L.length ≤ 14) (hn : ∀ p ∈ L, p.1 = "" ∨ p.1 = n0) : InS n0 0 [g.map stpOf] [] pg := by
  have sub := all_one (k := 0) hl hz
  refine ⟨Nat.le_trans (firsts_few sub) l, fun ys hU => ?_⟩
  have : ys.length ≤ ([n0] : List Str).length := nodup_sub ys [n0] hU.2.1 fun y hy => by
    obtain ⟨ne, k, hk⟩ := (hU.2.2 y).mp hy
    rcases hn _ (sub _ (firsts_sub hk)) with e | e
    · exact absurd e ne
    · rw [show y = n0 from e]
      exact List.mem_cons_self
  refine Nat.le_trans this ?_
  show 1 ≤ capP pg
  unfold capP
  split <;> decide
end
section
variable {n0 n1 n2 : Str} {lines : List (List Str)} {pg : Option Int} {ms : List (List Str)}
theorem base_in : (n0, (0 : Int)) ∈ baseP n0 := by simp [baseP]
theorem base_nm : ∀ p ∈ baseP n0, p.1 = "" ∨ p.1 = n0 := by
  intro p hp
  simp only [baseP, List.mem_cons, List.not_mem_nil, or_false] at hp
  rcases hp with rfl | rfl | rfl | rfl | rfl
  · exact .inl rfl
  · exact .inl rfl
  · exact .inl rfl
  · exact .inr rfl
  · exact .inr rfl
theorem gs_one {L : List (Str × Int)} {g : List (List Str)} (hl : ∀ r ∈ g, LnP L r) (l : g.length ≤ 19) : GsOk [g] := by
  refine ⟨fun h hh r hr => ?_, ?_⟩
  · rw [List.mem_singleton.mp hh] at hr
    exact ⟨(hl r hr).2.1, (hl r hr).1⟩
  · show (rH :: g ++ []).length ≤ 20
    rw [List.append_nil, List.length_cons]
    omega
/-- lines of one hand are read -/
theorem way_read (h0 : Rt n0) (hl : ∀ r ∈ lines, LnP (baseP n0) r) (l : lines.length ≤ 3) : GsOk [lines] ∧ RdS (mkR n0 [] [lines]) .read := by
  have hg := gs_one hl (by omega)
  refine ⟨hg, allst_mk h0 mid_nil hg.st, ?_, ?_, ?_⟩
  · rw [fc_nil h0 hg]
    exact Nat.zero_le _
  · rw [fc_nil h0 hg]
    exact two_nil
  rw [hs_mk h0 mid_nil hg.st, fc_nil h0 hg]
  exact ⟨hsok_one hl (by omega), n0, 0, none, fp_mk h0, pg_none (fun _ h => nomatch h) hg.st, in_one hl base_in (by show 5 ≤ 14; decide) base_nm⟩
theorem mid_page {i : Nat} (hi : i < 31) : Mid [["page", Str.ofString (toString (1 + (i : Int)))]] := .inr ⟨_, rfl, page_word (List.mem_map.mpr ⟨i, List.mem_range.mpr hi, rfl⟩)⟩
theorem fc_page {i : Nat} (hi : i < 31) {gs : List (List (List Str))} (h0 : Rt n0) (hg : GsOk gs) : fcS (mkR n0 [["page", Str.ofString (toString (1 + (i : Int)))]] gs) = [] := by
  rw [fc_mk h0 hg.st, List.filter_cons, page_word (List.mem_map.mpr ⟨i, List.mem_range.mpr hi, rfl⟩), if_neg (by decide +kernel)]
  rfl
theorem way_page {i : Nat} (hi : i < 31) (h0 : Rt n0) (hl : ∀ r ∈ lines, LnP (baseP n0) r) (l : lines.length ≤ 3) : RdS (mkR n0 [["page", Str.ofString (toString (1 + (i : Int)))]] [lines]) .read := by
  have hg := gs_one hl (by omega)
  refine ⟨allst_mk h0 (mid_page hi) hg.st, ?_, ?_, ?_⟩
  · rw [fc_page hi h0 hg]
    exact Nat.zero_le _
  · rw [fc_page hi h0 hg]
    exact two_nil
  rw [hs_mk h0 (mid_page hi) hg.st, fc_page hi h0 hg]
  exact ⟨hsok_one hl (by omega), n0, 0, _, fp_mk h0, pg_some hi, in_one hl base_in (by show 5 ≤ 14; decide) base_nm⟩
theorem ln_name {w n : Str} (hw : formS w = some (["place"] : List Str)) (ww : Wok w) (nl : w ≠ "lock" ∧ w ≠ "unlock") (h : Rt n) : LnP [(n, 0)] [w, n] := ln_one hw (rt_zero h) ww (rt_wok h) nl
theorem ln_cut {n : Str} (h : Rt n) : LnP [(n, 0)] (cutR n) := ln_name (by decide +kernel) (wok_lit (by decide +kernel)) (by decide +kernel) h
theorem ln_read {n : Str} (h : Rt n) : LnP [(n, 0)] (rdR n) := ln_name (by decide +kernel) (wok_lit (by decide +kernel)) (by decide +kernel) h
theorem plcs_cut {n : Str} (h : Rt n) : plcs (stpOf (cutR n)).2 = [(n, 0)] := by
  rw [(row_one (w := "cut") (by decide +kernel) (rt_zero h)).2]
  rfl
theorem plcs_read {n : Str} (h : Rt n) : plcs (stpOf (rdR n)).2 = [(n, 0)] := by
  rw [(row_one (w := "read") (by decide +kernel) (rt_zero h)).2]
  rfl
theorem plcs_has {g : List (List Str)} {r : List Str} {p : Str × Int} (hr : r ∈ g) (hp : p ∈ plcs (stpOf r).2) : p ∈ plcsAll (g.map stpOf) := List.mem_flatMap.mpr ⟨_, List.mem_map_of_mem hr, hp⟩
theorem has_one {g : List (List Str)} {r : List Str} {p : Str × Int} {k : Int} (hr : r ∈ g) (hp : p ∈ plcs (stpOf r).2) : p ∈ prPl n0 k [g.map stpOf] ++ plsOf [] := List.mem_append_left _ (prPl_mem.mpr (.inr (mem_steps.mpr ⟨_, List.mem_cons_self, plcs_has hr hp⟩)))
/-- a page size, and two unknowns -/
theorem way_two {i : Nat} (hi : i < 31) (h0 : Rt n0) (h1 : Rt n1) (ne : n0 ≠ n1) (hl : ∀ r ∈ lines, LnP (baseP n0) r) (l : lines.length ≤ 3) : GsOk [lines ++ [cutR n1]] ∧ RdS (mkR n0 [["page", Str.ofString (toString (1 + (i : Int)))]] [lines ++ [cutR n1]]) .program := by
  have hl2 : ∀ r ∈ lines ++ [cutR n1], LnP (baseP n0 ++ [(n1, 0)]) r := fun r hr => by
    rcases List.mem_append.mp hr with hr | hr
    · exact (hl r hr).mono fun p hp => List.mem_append_left _ hp
    · rw [List.mem_singleton.mp hr]
      exact (ln_cut h1).mono fun p hp => List.mem_append_right _ hp
  have ll : (lines ++ [cutR n1]).length ≤ 4 := by
    rw [List.length_append]
    show lines.length + 1 ≤ 4
    omega
  have hg := gs_one hl2 (by omega)
  refine ⟨hg, allst_mk h0 (mid_page hi) hg.st, ?_, ?_, .inr ?_⟩
  · rw [fc_page hi h0 hg]
    exact Nat.zero_le _
  · rw [fc_page hi h0 hg]
    exact two_nil
  rw [hs_mk h0 (mid_page hi) hg.st, fc_page hi h0 hg]
  refine ⟨hsok_one hl2 (by omega), n0, 0, _, fp_mk h0, pg_some hi, ?_⟩
  refine over_unk (L := baseP n0 ++ [(n1, 0)]) (ns := [n0, n1]) (all_one hl2 (List.mem_append_left _ base_in)) (by show 6 < 60; decide) (by simpa using ne) (fun y hy => ?_) (by show 1 < 2; decide)
  simp only [List.mem_cons, List.not_mem_nil, or_false] at hy
  rcases hy with rfl | rfl
  · exact ⟨h0, 0, List.mem_append_left _ (prPl_mem.mpr (.inl rfl))⟩
  · exact ⟨h1, 0, has_one (r := (cutR y)) (List.mem_append_right _ List.mem_cons_self) (by rw [plcs_cut h1]; exact List.mem_cons_self)⟩
/-- three unknowns -/
theorem way_three (h0 : Rt n0) (h1 : Rt n1) (h2 : Rt n2) (nd : [n0, n1, n2].Nodup) (hl : ∀ r ∈ lines, LnP (baseP n0) r) (l : lines.length ≤ 3) : GsOk [lines ++ [n0, n1, n2].map rdR] ∧ RdS (mkR n0 [] [lines ++ [n0, n1, n2].map rdR]) .program := by
  have hl2 : ∀ r ∈ lines ++ [n0, n1, n2].map rdR, LnP (baseP n0 ++ [(n0, 0), (n1, 0), (n2, 0)]) r := fun r hr => by
    rcases List.mem_append.mp hr with hr | hr
    · exact (hl r hr).mono fun p hp => List.mem_append_left _ hp
    · simp only [List.map_cons, List.map_nil, List.mem_cons, List.not_mem_nil, or_false] at hr
      rcases hr with rfl | rfl | rfl
      · exact (ln_read h0).mono fun p hp => List.mem_append_right _ (by rw [List.mem_singleton.mp hp]; simp)
      · exact (ln_read h1).mono fun p hp => List.mem_append_right _ (by rw [List.mem_singleton.mp hp]; simp)
      · exact (ln_read h2).mono fun p hp => List.mem_append_right _ (by rw [List.mem_singleton.mp hp]; simp)
  have ll : (lines ++ [n0, n1, n2].map rdR).length ≤ 6 := by
    rw [List.length_append]
    show lines.length + 3 ≤ 6
    omega
  have hg := gs_one hl2 (by omega)
  refine ⟨hg, allst_mk h0 mid_nil hg.st, ?_, ?_, .inr ?_⟩
  · rw [fc_nil h0 hg]
    exact Nat.zero_le _
  · rw [fc_nil h0 hg]
    exact two_nil
  rw [hs_mk h0 mid_nil hg.st, fc_nil h0 hg]
  refine ⟨hsok_one hl2 (by omega), n0, 0, none, fp_mk h0, pg_none (fun _ h => nomatch h) hg.st, ?_⟩
  refine over_unk (L := baseP n0 ++ [(n0, 0), (n1, 0), (n2, 0)]) (ns := [n0, n1, n2]) (all_one hl2 (List.mem_append_left _ base_in)) (by show 8 < 60; decide) nd (fun y hy => ?_) (by show 2 < 3; decide)
  have key : ∀ y, Rt y → y ∈ [n0, n1, n2] → ∃ k', (y, k') ∈ prPl n0 0 [(lines ++ [n0, n1, n2].map rdR).map stpOf] ++ plsOf [] := fun y hy m => ⟨0, has_one (r := (rdR y)) (List.mem_append_right _ (List.mem_map_of_mem (f := rdR) m)) (by rw [plcs_read hy]; exact List.mem_cons_self)⟩
  have ry : Rt y := by
    simp only [List.mem_cons, List.not_mem_nil, or_false] at hy
    rcases hy with rfl | rfl | rfl <;> assumption
  exact ⟨ry, key y ry hy⟩
/-! sixteen places -/
def sixS (a b : Str) : List Str := [a ++ "-3", a ++ "-2", a ++ "-1", a, a ++ "+1", a ++ "+2", a ++ "+3", "0", "1", "2", "3", b, b ++ "+1", b ++ "-1", b ++ "+2", b ++ "-2"]
def sixP (a b : Str) : List (Str × Int) := [(a, -3), (a, -2), (a, -1), (a, 0), (a, 1), (a, 2), (a, 3), ("", 0), ("", 1), ("", 2), ("", 3), (b, 0), (b, 1), (b, -1), (b, 2), (b, -2)]
theorem six_nd {x y : Str} (hx : Rt x) (hy : Rt y) (ne : x ≠ y) : (sixP x y).Nodup := by
  have ex := name_ne hx.1
  have ey := name_ne hy.1
  have ne2 : ¬ y = x := fun e => ne e.symm
  have ex2 : ¬ Str.ofString "" = x := fun e => ex e.symm
  have ey2 : ¬ Str.ofString "" = y := fun e => ey e.symm
  simp [sixP, ex, ey, ne, ne2, ex2, ey2]
theorem six_parts {x y : Str} (hx : Rt x) (hy : Rt y) : Lk (fun s p => partsS s = some p ∧ Wok s) (sixS x y) (sixP x y) := by
  have s : ∀ {z : Str} {k : Int} {t : Str}, Rt z → -3 ≤ k → k ≤ 3 → sfx k = t → (t.length ≤ 2 ∧ PyData.strOk t = true ∧ (32 : Nat) ∉ t.cps.toList ∧ (10 : Nat) ∉ t.cps.toList) → partsS (z ++ t) = some (z, k) ∧ Wok (z ++ t) := fun hz h0 h1 e ht => ⟨rt_sfx hz h0 h1 e, rt_wok_app hz ht⟩
  exact .cons (s hx (by decide) (by decide) (by decide +kernel) (by decide +kernel)) (.cons (s hx (by decide) (by decide) (by decide +kernel) (by decide +kernel)) (.cons (s hx (by decide) (by decide) (by decide +kernel) (by decide +kernel)) (.cons ⟨rt_zero hx, rt_wok hx⟩
    (.cons (s hx (by decide) (by decide) (by decide +kernel) (by decide +kernel)) (.cons (s hx (by decide) (by decide) (by decide +kernel) (by decide +kernel)) (.cons (s hx (by decide) (by decide) (by decide +kernel) (by decide +kernel))
    (.cons ⟨by decide +kernel, wok_lit (by decide +kernel)⟩ (.cons ⟨by decide +kernel, wok_lit (by decide +kernel)⟩ (.cons ⟨by decide +kernel, wok_lit (by decide +kernel)⟩ (.cons ⟨by decide +kernel, wok_lit (by decide +kernel)⟩
    (.cons ⟨rt_zero hy, rt_wok hy⟩ (.cons (s hy (by decide) (by decide) (by decide +kernel) (by decide +kernel)) (.cons (s hy (by decide) (by decide) (by decide +kernel) (by decide +kernel)) (.cons (s hy (by decide) (by decide) (by decide +kernel) (by decide +kernel)) (.cons (s hy (by decide) (by decide) (by decide +kernel) (by decide +kernel)) .nil)))))))))))))))
def syncR (a b : Str) (k : Nat) : List Str := ["sync", (sixS a b).getD k "", (sixS a b).getD (k + 8) ""]
def syncP (a b : Str) (k : Nat) : List (Str × Int) := [(sixP a b).getD k ("", 0), (sixP a b).getD (k + 8) ("", 0)]
theorem six_at {x y : Str} (hx : Rt x) (hy : Rt y) {k : Nat} (hk : k < 16) : partsS ((sixS x y).getD k "") = some ((sixP x y).getD k ("", 0)) ∧ Wok ((sixS x y).getD k "") := by
  have l : (sixS x y).length = 16 := rfl
  have e : (sixS x y)[k]? = some ((sixS x y)[k]'(by omega)) := List.getElem?_eq_getElem _
  obtain ⟨p, hp, h⟩ := (six_parts hx hy).get e
  rw [List.getD_eq_getElem?_getD, List.getD_eq_getElem?_getD, e, hp]
  exact h
theorem ln_syncK {x y : Str} (hx : Rt x) (hy : Rt y) {k : Nat} (hk : k < 8) : stepS (syncR x y k) = true ∧ RowOk (syncR x y k) ∧ (stpOf (syncR x y k)).1 = "sync" ∧ plcs (stpOf (syncR x y k)).2 = syncP x y k := by
  obtain ⟨a, b⟩ := six_at hx hy (k := k) (by omega)
  obtain ⟨c, d⟩ := six_at hx hy (k := k + 8) (by omega)
  obtain ⟨e, f⟩ := row_two (w := "sync") (by decide +kernel) a c
  refine ⟨e, ok_three (wok_lit (by decide +kernel)) b d, ?_, ?_⟩
  · unfold syncR
    rw [f]
  · unfold syncR
    rw [f]
    rfl
theorem sync_mem {x y : Str} {k : Nat} (hk : k < 8) : ∀ p ∈ syncP x y k, p ∈ sixP x y := by
  intro p hp
  have l : (sixP x y).length = 16 := rfl
  simp only [syncP, List.mem_cons, List.not_mem_nil, or_false] at hp
  rcases hp with rfl | rfl
  · rw [List.getD_eq_getElem?_getD, List.getElem?_eq_getElem (by omega)]
    exact List.getElem_mem _
  · rw [List.getD_eq_getElem?_getD, List.getElem?_eq_getElem (by omega)]
    exact List.getElem_mem _
def syncs (a b : Str) : List (List Str) := (List.range 8).map (syncR a b)
theorem way_many (h0 : Rt n0) (h1 : Rt n1) (ne : n0 ≠ n1) : GsOk [syncs n0 n1] ∧ RdS (mkR n0 [] [syncs n0 n1]) .program := by
  have hl : ∀ r ∈ syncs n0 n1, LnP (sixP n0 n1) r := fun r hr => by
    obtain ⟨k, hk, rfl⟩ := List.mem_map.mp hr
    obtain ⟨a, b, c, d⟩ := ln_syncK h0 h1 (List.mem_range.mp hk)
    refine ⟨b, a, ?_, fun p hp => ?_⟩
    · rw [c]
      decide +kernel
    · rw [d] at hp
      exact sync_mem (List.mem_range.mp hk) p hp
  have ll : (syncs n0 n1).length = 8 := rfl
  have hg := gs_one hl (by omega)
  refine ⟨hg, allst_mk h0 mid_nil hg.st, ?_, ?_, .inr ?_⟩
  · rw [fc_nil h0 hg]
    exact Nat.zero_le _
  · rw [fc_nil h0 hg]
    exact two_nil
  rw [hs_mk h0 mid_nil hg.st, fc_nil h0 hg]
  refine ⟨hsok_one hl (by omega), n0, 0, none, fp_mk h0, pg_none (fun _ h => nomatch h) hg.st, ?_⟩
  refine over_many (L := sixP n0 n1) (ns := sixP n0 n1) (all_one hl (by simp [sixP])) (by show 16 < 60; decide) (six_nd h0 h1 ne) (fun p hp => ?_) (by show 14 < 16; decide)
  obtain ⟨j, hj, e⟩ := List.getElem_of_mem hp
  have ep : (sixP n0 n1).getD j ("", 0) = p := by
    rw [List.getD_eq_getElem?_getD, List.getElem?_eq_getElem hj, e]
    rfl
  have hj : j < 16 := hj
  rcases Nat.lt_or_ge j 8 with lt | ge
  · obtain ⟨_, _, _, d⟩ := ln_syncK h0 h1 lt
    refine has_one (r := syncR n0 n1 j) (List.mem_map_of_mem (List.mem_range.mpr lt)) ?_
    rw [d, ← ep]
    exact List.mem_cons_self
  · obtain ⟨_, _, _, d⟩ := ln_syncK h0 h1 (k := j - 8) (by omega)
    refine has_one (r := syncR n0 n1 (j - 8)) (List.mem_map_of_mem (List.mem_range.mpr (by omega))) ?_
    rw [d, ← ep]
    unfold syncP
    rw [show j - 8 + 8 = j by omega]
    exact List.mem_cons_of_mem _ List.mem_cons_self
/-! locks -/
theorem lock_row {z : Str} (h : Rt z) : stepS (lkR z) = true ∧ RowOk (lkR z) ∧ stpOf (lkR z) = lkS z := by
  obtain ⟨a, b⟩ := row_name (w := "lock") (by decide +kernel) h.1
  exact ⟨a, ok_two (wok_lit (by decide +kernel)) (rt_wok h), b⟩
theorem unlock_row {z : Str} (h : Rt z) : stepS (ukR z) = true ∧ RowOk (ukR z) ∧ stpOf (ukR z) = ukS z := by
  obtain ⟨a, b⟩ := row_name (w := "unlock") (by decide +kernel) h.1
  exact ⟨a, ok_two (wok_lit (by decide +kernel)) (rt_wok h), b⟩
theorem gs_of {g : List (List Str)} (h : ∀ r ∈ g, stepS r = true ∧ RowOk r) (l : g.length ≤ 19) : GsOk [g] := by
  refine ⟨fun x hx r hr => ?_, ?_⟩
  · rw [List.mem_singleton.mp hx] at hr
    exact h r hr
  · show (rH :: g ++ []).length ≤ 20
    rw [List.append_nil, List.length_cons]
    omega
theorem way_lock {z : Str} (h0 : Rt n0) (hz : Rt z) (hl : ∀ r ∈ lines, LnP (baseP n0) r) (l : lines.length ≤ 3) (i : Nat) : GsOk [lines.take i ++ [lkR z] ++ lines.drop i ++ [lkR z]] ∧ RdS (mkR n0 [] [lines.take i ++ [lkR z] ++ lines.drop i ++ [lkR z]]) .hand := by
  obtain ⟨a, b, c⟩ := lock_row hz
  have lt := List.length_take (i := i) (l := lines)
  have ld := List.length_drop (i := i) (l := lines)
  have ll : (lines.take i ++ [lkR z] ++ lines.drop i ++ [lkR z]).length ≤ 5 := by
    rw [List.length_append, List.length_append, List.length_append]
    show (lines.take i).length + 1 + (lines.drop i).length + 1 ≤ 5
    omega
  have hg : GsOk [lines.take i ++ [lkR z] ++ lines.drop i ++ [lkR z]] := by
    refine gs_of (fun r hr => ?_) (by omega)
    rcases List.mem_append.mp hr with hr | hr
    · rcases List.mem_append.mp hr with hr | hr
      · rcases List.mem_append.mp hr with hr | hr
        · have := hl r (List.mem_of_mem_take hr)
          exact ⟨this.2.1, this.1⟩
        · rw [List.mem_singleton.mp hr]
          exact ⟨a, b⟩
      · have := hl r (List.mem_of_mem_drop hr)
        exact ⟨this.2.1, this.1⟩
    · rw [List.mem_singleton.mp hr]
      exact ⟨a, b⟩
  refine ⟨hg, rd_hand h0 hg (Nat.le_refl 1) (by show 1 ≤ 3; decide) (ib := 0) rfl (fun j g hj => absurd hj (Nat.not_lt_zero j)) (.inr ⟨by omega, ?_⟩)⟩
  rw [List.map_append, List.map_append, List.map_append, List.map_singleton, c, List.append_assoc, List.append_assoc]
  exact bad_lock (free_ln fun r hr => hl r (List.mem_of_mem_take hr)) (free_ln fun r hr => hl r (List.mem_of_mem_drop hr)) (R := [])
theorem way_unlock {z : Str} (h0 : Rt n0) (hz : Rt z) (hl : ∀ r ∈ lines, LnP (baseP n0) r) (l : lines.length ≤ 3) (i : Nat) : GsOk [lines.take i ++ [ukR z] ++ lines.drop i] ∧ RdS (mkR n0 [] [lines.take i ++ [ukR z] ++ lines.drop i]) .hand := by
  obtain ⟨a, b, c⟩ := unlock_row hz
  have lt := List.length_take (i := i) (l := lines)
  have ld := List.length_drop (i := i) (l := lines)
  have ll : (lines.take i ++ [ukR z] ++ lines.drop i).length ≤ 5 := by
    rw [List.length_append, List.length_append]
    show (lines.take i).length + 1 + (lines.drop i).length ≤ 5
    omega
  have hg : GsOk [lines.take i ++ [ukR z] ++ lines.drop i] := by
    refine gs_of (fun r hr => ?_) (by omega)
    rcases List.mem_append.mp hr with hr | hr
    · rcases List.mem_append.mp hr with hr | hr
      · have := hl r (List.mem_of_mem_take hr)
        exact ⟨this.2.1, this.1⟩
      · rw [List.mem_singleton.mp hr]
        exact ⟨a, b⟩
    · have := hl r (List.mem_of_mem_drop hr)
      exact ⟨this.2.1, this.1⟩
  refine ⟨hg, rd_hand h0 hg (Nat.le_refl 1) (by show 1 ≤ 3; decide) (ib := 0) rfl (fun j g hj => absurd hj (Nat.not_lt_zero j)) (.inr ⟨by omega, ?_⟩)⟩
  rw [List.map_append, List.map_append, List.map_singleton, c, List.append_assoc]
  exact bad_unlock (free_ln fun r hr => hl r (List.mem_of_mem_take hr))
/-- thirteen steps -/
theorem way_long (h0 : Rt n0) (hl : ∀ r ∈ lines, LnP (baseP n0) r) (l : lines.length ≤ 3) : GsOk [[rdR "0"], lines ++ List.replicate (13 - lines.length) (cutR n0)] ∧ RdS (mkR n0 [] [[rdR "0"], lines ++ List.replicate (13 - lines.length) (cutR n0)]) .hand := by
  have lr : LnP [("", 0)] (rdR "0") := ln_one (by decide +kernel) (by decide +kernel) (wok_lit (by decide +kernel)) (wok_lit (by decide +kernel)) (by decide +kernel)
  have ll : (lines ++ List.replicate (13 - lines.length) (cutR n0)).length = 13 := by
    rw [List.length_append, List.length_replicate]
    omega
  have hg : GsOk [[rdR "0"], lines ++ List.replicate (13 - lines.length) (cutR n0)] := by
    refine ⟨fun g hgm r hr => ?_, ?_⟩
    · simp only [List.mem_cons, List.not_mem_nil, or_false] at hgm
      rcases hgm with rfl | rfl
      · rw [List.mem_singleton.mp hr]
        exact ⟨lr.2.1, lr.1⟩
      · rcases List.mem_append.mp hr with hr | hr
        · exact ⟨(hl r hr).2.1, (hl r hr).1⟩
        · rw [(List.mem_replicate.mp hr).2]
          exact ⟨(ln_cut h0).2.1, (ln_cut h0).1⟩
    · show (rH :: [rdR "0"] ++ (rH :: (lines ++ List.replicate (13 - lines.length) (cutR n0)) ++ [])).length ≤ 20
      rw [List.length_append, List.append_nil, List.length_cons, List.length_cons, List.length_cons, ll]
      decide
  refine ⟨hg, rd_hand h0 hg (by show 1 ≤ 2; decide) (by show 2 ≤ 3; decide) (ib := 1) rfl (fun j g hj e => ?_) (.inl (by omega))⟩
  have ej : j = 0 := by omega
  subst ej
  cases e
  exact ⟨by show 1 ≤ 12; decide, fun d hd => by
    rw [List.mem_singleton.mp hd]
    exact lr.2.2.1⟩
theorem way_none (h0 : Rt n0) : GsOk [] ∧ RdS (mkR n0 [] []) .program := by
  have hg : GsOk [] := ⟨fun _ h => (nomatch h), Nat.zero_le _⟩
  exact ⟨hg, rd_count h0 hg (.inl rfl)⟩
theorem way_four (h0 : Rt n0) (hl : ∀ r ∈ lines, LnP (baseP n0) r) (l : lines.length ≤ 3) : GsOk [lines, [], [], []] ∧ RdS (mkR n0 [] [lines, [], [], []]) .program := by
  have hg : GsOk [lines, [], [], []] := by
    refine ⟨fun g hgm r hr => ?_, ?_⟩
    · simp only [List.mem_cons, List.not_mem_nil, or_false] at hgm
      rcases hgm with rfl | rfl | rfl | rfl
      · exact ⟨(hl r hr).2.1, (hl r hr).1⟩
      · cases hr
      · cases hr
      · cases hr
    · show (rH :: lines ++ [rH, rH, rH]).length ≤ 20
      rw [List.length_append, List.length_cons]
      show lines.length + 1 + 3 ≤ 20
      omega
  exact ⟨hg, rd_count h0 hg (.inr (by show 3 < 4; decide))⟩
/-! facts of three unknowns -/
def factsR (a b c : Str) : List (List Str) := [["fact", "at_most", a, b], ["fact", "page", c]]
theorem fact_two {a b : Str} (ha : Rt a) (hb : Rt b) : factS ["at_most", a, b] = true ∧ fctOf ["at_most", a, b] = (("at_most" : Str), [(a, (0 : Int)), (b, 0)]) ∧ RowOk ["fact", "at_most", a, b] := by
  have e : plS "at_most" = some 2 := by decide +kernel
  refine ⟨?_, ?_, ok_four (wok_lit (by decide +kernel)) (wok_lit (by decide +kernel)) (rt_wok ha) (rt_wok hb)⟩
  · show (match plS "at_most" with | none => false | some n => decide (([a, b] : List Str).length = n.toNat) && (([a, b] : List Str).map fun s => (partsS s).isSome).all id) = true
    rw [e]
    simp [rt_zero ha, rt_zero hb]
  · show (("at_most" : Str), ([a, b] : List Str).map fun s => (partsS s).getD ("", 0)) = _
    simp [rt_zero ha, rt_zero hb]
theorem fact_one {c : Str} (hc : Rt c) : factS ["page", c] = true ∧ fctOf ["page", c] = (("page" : Str), [(c, (0 : Int))]) ∧ RowOk ["fact", "page", c] := by
  have e : plS "page" = some 1 := by decide +kernel
  refine ⟨?_, ?_, ok_three (wok_lit (by decide +kernel)) (wok_lit (by decide +kernel)) (rt_wok hc)⟩
  · show (match plS "page" with | none => false | some n => decide (([c] : List Str).length = n.toNat) && (([c] : List Str).map fun s => (partsS s).isSome).all id) = true
    rw [e]
    simp [rt_zero hc]
  · show (("page" : Str), ([c] : List Str).map fun s => (partsS s).getD ("", 0)) = _
    simp [rt_zero hc]
theorem facts_ok {a b c : Str} (ha : Rt a) (hb : Rt b) (hc : Rt c) : ∀ r ∈ factsR a b c, wordS r = "fact" ∧ RowOk r := by
  obtain ⟨a1, _, a3⟩ := fact_two ha hb
  obtain ⟨b1, _, b3⟩ := fact_one hc
  intro r hr
  simp only [factsR, List.mem_cons, List.not_mem_nil, or_false] at hr
  rcases hr with rfl | rfl
  · exact ⟨fact_word a1, a3⟩
  · exact ⟨fact_word b1, b3⟩
theorem way_facts {gs : List (List (List Str))} (h0 : Rt n0) (h1 : Rt n1) (h2 : Rt n2) (nd : [n0, n1, n2].Nodup) (hg : GsOk gs) : RdS (mkR n0 (factsR n0 n1 n2) gs) .facts := by
  obtain ⟨a1, a2, a3⟩ := fact_two h0 h1
  obtain ⟨b1, b2, b3⟩ := fact_one h2
  have hm : ∀ r ∈ factsR n0 n1 n2, wordS r = "fact" := fun r hr => (facts_ok h0 h1 h2 r hr).1
  have ef : fcS (mkR n0 (factsR n0 n1 n2) gs) = [(("at_most" : Str), [(n0, (0 : Int)), (n1, 0)]), (("page" : Str), [(n2, (0 : Int))])] := by
    rw [fc_mk h0 hg.st, List.filter_eq_self.mpr fun r hr => decide_eq_true (hm r hr)]
    show [fctOf ["at_most", n0, n1], fctOf ["page", n2]] = _
    rw [a2, b2]
  refine ⟨allst_mk h0 (.inl hm) hg.st, ?_, ?_⟩
  · rw [ef]
    show 2 ≤ 20
    decide
  · rw [ef]
    intro ys hU h
    have : ([n0, n1, n2] : List Str).length ≤ ys.length := nodup_sub _ ys nd fun y hy => by
      refine (hU.2.2 y).mpr ⟨?_, 0, ?_⟩
      · have ry : Rt y := by
          simp only [List.mem_cons, List.not_mem_nil, or_false] at hy
          rcases hy with rfl | rfl | rfl <;> assumption
        exact name_ne ry.1
      · simp only [List.mem_cons, List.not_mem_nil, or_false] at hy
        rcases hy with rfl | rfl | rfl <;> simp [plsOf]
    have this : 3 ≤ ys.length := this
    omega
end
end Mz
set_option Elab.async false
set_option linter.all false
set_option maxRecDepth 100000
set_option maxHeartbeats 4000000
namespace Mz
open PySem PySem.Spec PyProof.Rows L2
section
variable {P : Program} {w : World} {K : PySem.W.Frag} {mg : Str → Option Value} {base : Heap}
theorem scXinitPr : FnScope ["self", "value"] ["self", "value"] (defScope (inClass sInvProg 0)) := ⟨rfl, rfl, rfl, by decide +kernel, rfl, by decide +kernel, by decide +kernel⟩
theorem ok_xinitPr {f C cM : Addr} {fd : FuncData} (F : Fun K "__init__" "InvalidProgram.__init__" (inClass sInvProg 0) f fd) (T : Xcl K mg "InvalidProgram" C "value") (mM : mg "MapError" = some (.ref cM)) (rd : ClX.CRead K cM (.type "type"))
    (fc : PySem.W.findCls K (.ref cM) (.type "type") "__init__" = some (.val (.builtin "ValueError.__init__"))) : FnOk P w K mg base CX0 1 f fd ["self", "value"] (spX1 K C "value") := by
  refine F.ok scXinitPr (fun vs H Q E h => ?_) (fun cdv A outer s H vs Q E hr h => ?_)
  · obtain ⟨a, v, rfl, _⟩ := h
    rfl
  · obtain ⟨a, v, rfl, ha, q⟩ := h
    refine ⟨_, pss_cons (ps_expr (pe_meinit (by rfl) mM rd fc (pa_cons (pv 0) (pa_cons pe_str pa_nil)))) (pss_one (ps_ost (pv 0) (pv 1))), ?_⟩
    refine ⟨_, rfl, a, C, _, rfl, (by show 1 ≤ 1000; decide), T.ox, ha, ?_⟩
    exact ⟨_, rfl, _, rfl, a, C, rfl, T.ox, T.no, .inl ⟨ha, fun dx n1 n2 => q dx n1 n2⟩⟩
theorem scXinitHd : FnScope ["self", "value"] ["self", "value"] (defScope (inClass sInvHand 0)) := ⟨rfl, rfl, rfl, by decide +kernel, rfl, by decide +kernel, by decide +kernel⟩
theorem ok_xinitHd {f C cM : Addr} {fd : FuncData} (F : Fun K "__init__" "InvalidHand.__init__" (inClass sInvHand 0) f fd) (T : Xcl K mg "InvalidHand" C "value") (mM : mg "MapError" = some (.ref cM)) (rd : ClX.CRead K cM (.type "type"))
    (fc : PySem.W.findCls K (.ref cM) (.type "type") "__init__" = some (.val (.builtin "ValueError.__init__"))) : FnOk P w K mg base CX0 1 f fd ["self", "value"] (spX1 K C "value") := by
  refine F.ok scXinitHd (fun vs H Q E h => ?_) (fun cdv A outer s H vs Q E hr h => ?_)
  · obtain ⟨a, v, rfl, _⟩ := h
    rfl
  · obtain ⟨a, v, rfl, ha, q⟩ := h
    refine ⟨_, pss_cons (ps_expr (pe_meinit (by rfl) mM rd fc (pa_cons (pv 0) (pa_cons pe_str pa_nil)))) (pss_one (ps_ost (pv 0) (pv 1))), ?_⟩
    refine ⟨_, rfl, a, C, _, rfl, (by show 1 ≤ 1000; decide), T.ox, ha, ?_⟩
    exact ⟨_, rfl, _, rfl, a, C, rfl, T.ox, T.no, .inl ⟨ha, fun dx n1 n2 => q dx n1 n2⟩⟩
theorem scXinitSt : FnScope ["self", "value"] ["self", "value"] (defScope (inClass sInvStep 0)) := ⟨rfl, rfl, rfl, by decide +kernel, rfl, by decide +kernel, by decide +kernel⟩
theorem ok_xinitSt {f C cM : Addr} {fd : FuncData} (F : Fun K "__init__" "InvalidStep.__init__" (inClass sInvStep 0) f fd) (T : Xcl K mg "InvalidStep" C "value") (mM : mg "MapError" = some (.ref cM)) (rd : ClX.CRead K cM (.type "type"))
    (fc : PySem.W.findCls K (.ref cM) (.type "type") "__init__" = some (.val (.builtin "ValueError.__init__"))) : FnOk P w K mg base CX0 1 f fd ["self", "value"] (spX1 K C "value") := by
  refine F.ok scXinitSt (fun vs H Q E h => ?_) (fun cdv A outer s H vs Q E hr h => ?_)
  · obtain ⟨a, v, rfl, _⟩ := h
    rfl
  · obtain ⟨a, v, rfl, ha, q⟩ := h
    refine ⟨_, pss_cons (ps_expr (pe_meinit (by rfl) mM rd fc (pa_cons (pv 0) (pa_cons pe_str pa_nil)))) (pss_one (ps_ost (pv 0) (pv 1))), ?_⟩
    refine ⟨_, rfl, a, C, _, rfl, (by show 1 ≤ 1000; decide), T.ox, ha, ?_⟩
    exact ⟨_, rfl, _, rfl, a, C, rfl, T.ox, T.no, .inl ⟨ha, fun dx n1 n2 => q dx n1 n2⟩⟩
theorem scXinitLi : FnScope ["self", "index"] ["self", "index"] (defScope (inClass sInvLine 0)) := ⟨rfl, rfl, rfl, by decide +kernel, rfl, by decide +kernel, by decide +kernel⟩
theorem ok_xinitLi {f C cM : Addr} {fd : FuncData} (F : Fun K "__init__" "InvalidLine.__init__" (inClass sInvLine 0) f fd) (T : Xcl K mg "InvalidLine" C "index") (mM : mg "MapError" = some (.ref cM)) (rd : ClX.CRead K cM (.type "type"))
    (fc : PySem.W.findCls K (.ref cM) (.type "type") "__init__" = some (.val (.builtin "ValueError.__init__"))) : FnOk P w K mg base CX0 1 f fd ["self", "index"] (spX1 K C "index") := by
  refine F.ok scXinitLi (fun vs H Q E h => ?_) (fun cdv A outer s H vs Q E hr h => ?_)
  · obtain ⟨a, v, rfl, _⟩ := h
    rfl
  · obtain ⟨a, v, rfl, ha, q⟩ := h
    refine ⟨_, pss_cons (ps_expr (pe_meinit (by rfl) mM rd fc (pa_cons (pv 0) (pa_cons pe_str pa_nil)))) (pss_one (ps_ost (pv 0) (pv 1))), ?_⟩
    refine ⟨_, rfl, a, C, _, rfl, (by show 1 ≤ 1000; decide), T.ox, ha, ?_⟩
    exact ⟨_, rfl, _, rfl, a, C, rfl, T.ox, T.no, .inl ⟨ha, fun dx n1 n2 => q dx n1 n2⟩⟩
end
end Mz
set_option Elab.async false
set_option linter.all false
set_option maxRecDepth 100000
set_option maxHeartbeats 4000000
/-! a class made by a positional promise of its __init__ where the promise may raise: the wishes may speak of the slots -/
namespace Mz
open PySem PySem.Spec PyProof.Rows L2
section
variable {X : Cx} {CX : CXT} {k : Nat} {f C : Addr} {sp : Sp} {E : L2.St → XK} {x : Str} {e : Expr} {es : List Expr} {t : TA} {p pos : Pos}
theorem pe_makeRE (M : Mk X.K C f) (F : FnR X.prog X.w X.K X.mg X.base CX k f sp) (hr : Room (k + 1) X.A) (hg : Gl X x) (hm : X.mg x = some (.ref C)) (hx : ∀ σ, PassesAt CX X σ (E σ)) (ha : PA X (e :: es) t) (hdb : (x == ("__debug__" : Str)) = false := by decide)
    (he : starEach (e :: es) X.env = (false, eval e X.env) :: starEach es X.env := by rfl) (hpl : (backTo pos (starEach es X.env)).any (·.1) = false := by rfl) : PE X (.Call (.Name x p) (e :: es) [] pos) (fun σ H Q => StX.tMakeR C sp (E σ) t σ H Q) := by
  constructor
  intro pins s σ H Q I h
  refine wpAny_Call_Name_kw (ld_glob I hg hm (PySem.W.callWith_K (h₀ := X.base) I.ok.mod.kin M.kp (thn (ha.run pos pins s σ H _ I h) fun us s1 hv => ?_) he hpl) hdb)
  obtain ⟨vs, H1, I1, r, q⟩ := hv
  refine ⟨I1.kIn, ?_⟩
  have made := q (s1.heap.objs.size + 1) s1.heap.objs.size (I1.hok.fresh (Nat.le_succ _)) (I1.hok.fresh (Nat.le_refl _)) (Nat.ne_of_lt (Nat.lt_succ_self _))
  have J := Inv.made (C := C) I1
  have r2 : Vals (V.ref (s1.heap.objs.size + 1) :: vs) (Value.ref (s1.heap.objs.size + 1) :: us) := .cons rfl r
  refine wpAny_call (make_map (f := f) I1.kIn M.makes M.init (beq_iff_eq.mp M.fn) (codeAny_mono (F _ X.stack _ _ (Value.ref (s1.heap.objs.size + 1) :: us) _ _ (E σ) (hr.make C us []) (J.env0.make C us []) r2 made) fun res s2 hres => ?_))
  match res, hres with
  | .error er, hres => exact hx σ pins _ _ er s2 J hres
  | .ok (.ret u), hres =>
    obtain ⟨v, H2, J2, rv, ev, q2⟩ := J.after hres
    subst ev
    exact ⟨rv, V.ref (s1.heap.objs.size + 1), H2, J2, rfl, q2⟩
  | .ok .next, hres => exact hres.elim
  | .ok .brk, hres => exact hres.elim
  | .ok .cont, hres => exact hres.elim
end
end Mz
set_option Elab.async false
set_option linter.all false
set_option maxRecDepth 100000
set_option maxHeartbeats 4000000
/-! C(*xs) where the promise of C's __init__ may raise -/
namespace Mz
open PySem PySem.Spec PyProof.Rows L2
section
variable {X : Cx} {CX : CXT} {k : Nat} {f C : Addr} {sp : Sp} {E : L2.St → XK} {x : Str} {e : Expr} {te : TE} {p sp_ pos : Pos}
theorem pe_makeRSE (M : Mk X.K C f) (F : FnR X.prog X.w X.K X.mg X.base CX k f sp) (hr : Room (k + 1) X.A) (hg : Gl X x) (hm : X.mg x = some (.ref C)) (hx : ∀ σ, PassesAt CX X σ (E σ)) (he : PE X e te) (hdb : (x == ("__debug__" : Str)) = false := by decide)
    (hst : starEach [.Starred e sp_] X.env = [(true, eval e X.env)] := by rfl) :
    PE X (.Call (.Name x p) [.Starred e sp_] [] pos) (fun σ H Q => te σ H fun y H1 => ∃ a xs, y = V.ref a ∧ (SqT X.K H1 a xs ∨ SqL X.K H1 a xs) ∧ StX.tMakeR C sp (E σ) (fun _ H2 R => R xs H2) σ H1 Q) := by
  refine ⟨fun pins s σ H Q I h => wpAny_Call_Name_kw (ld_glob I hg hm ?_ hdb)⟩
  refine PySem.W.callWith_S (h₀ := X.base) I.ok.mod.kin M.kp (thn (he.run pins s σ H _ I h) fun v s1 ⟨y, H1, I1, ry, a, xs, ey, hxs, q⟩ => ?_) hst
  subst ey
  obtain rfl : v = Value.ref a := ry
  refine StX.star_any I1 hxs fun us s2 I2 rv => ⟨I2.kIn, ?_⟩
  have made := q (s2.heap.objs.size + 1) s2.heap.objs.size (I2.hok.fresh (Nat.le_succ _)) (I2.hok.fresh (Nat.le_refl _)) (Nat.ne_of_lt (Nat.lt_succ_self _))
  have J := Inv.made (C := C) I2
  have r2 : Vals (V.ref (s2.heap.objs.size + 1) :: xs) (Value.ref (s2.heap.objs.size + 1) :: us) := .cons rfl rv
  refine wpAny_call (make_map (f := f) I2.kIn M.makes M.init (beq_iff_eq.mp M.fn) (codeAny_mono (F _ X.stack _ _ (Value.ref (s2.heap.objs.size + 1) :: us) _ _ (E σ) (hr.make C us []) (J.env0.make C us []) r2 made) fun res s3 hres => ?_))
  match res, hres with
  | .error er, hres => exact hx σ pins _ _ er s3 J hres
  | .ok (.ret u), hres =>
    obtain ⟨v, H2, J2, rv, ev, q2⟩ := J.after hres
    subst ev
    exact ⟨rv, V.ref (s2.heap.objs.size + 1), H2, J2, rfl, q2⟩
  | .ok .next, hres => exact hres.elim
  | .ok .brk, hres => exact hres.elim
  | .ok .cont, hres => exact hres.elim
end
end Mz
set_option Elab.async false
set_option linter.all false
set_option maxRecDepth 100000
set_option maxHeartbeats 4000000
namespace Mz
open PySem PySem.Spec PyProof.Rows L2
theorem call_tupleK {X : Cx} (K : PySem.W.Frag) (hK : X.K = K := by rfl) : CallR X (.type "tuple") (fun xs H Q => ∃ p ys, xs = [.ref p] ∧ ((SqL K H p ys ∧ ∀ l, H l = none → Q (.ref l) (upd H l (.tup ys))) ∨ (SqT K H p ys ∧ Q (.ref p) H))) := by
  subst hK
  exact call_tuple_of
/-- an exception with an index -/
structure XrI (P : Program) (w : World) (K : PySem.W.Frag) (mg : Str → Option Value) (base : Heap) (x : Str) (c f : Addr) (fd : FuncData) : Prop where
  T : Xcl K mg x c "index"
  G : FnOk P w K mg base CX0 1 f fd ["self", "index"] (spX1 K c "index")
  i : PySem.W.findIn K (.ref c) "__init__" = some (some (.ref f))
  t : PySem.W.typeIn K (.ref f) = some (.type "function")
  b : Binds K fd ["self", "index"] []
theorem mko_xI {K : PySem.W.Frag} {cE : Addr} {i : Nat} {u : V} {σ : L2.St} {H1 : Hp} {E : XK} (hi : σ[i]? = some (some u)) (q : ∀ d H', H1 d = none → Same H1 H' → H' d = some (.xd [("index", u)]) → E (.ref cE) (some d) H') : tMkO cE (spX1 K cE "index") [] (tCons (tVar i) tNil) σ H1 E := by
  refine ⟨_, hi, (by show 1 ≤ 1000; decide), fun a na => ⟨a, u, rfl, upd_same, fun dx n1 n2 => ⟨rfl, dx, [("index", u)], upd_same, ?_, ?_, ?_⟩⟩⟩
  · rw [upd_ne n2, upd_same]
  · rw [upd_ne n2] at n1
    exact n1
  · have n3 : H1 dx = none := by
      rw [upd_ne n2] at n1
      exact n1
    refine q dx _ n3 (fun b o hb => ?_) upd_same
    have x1 : b ≠ dx := ne_of_none hb n3
    have x2 : b ≠ a := ne_of_none hb na
    rw [upd_ne x1, del_ne x2, upd_ne x2, upd_ne x1, upd_ne x2]
    exact hb
/-- what a text comes to -/
def RoQ (cL cF cH cP : Addr) (H : Hp) (Q : VK) (E : XK) : Ro → Prop
  | .line i => ∀ d H', H d = none → Same H H' → H' d = some (.xd [("index", .int ((i : Nat) : Int))]) → E (.ref cL) (some d) H'
  | .facts => ∀ d t xs H', H d = none → Same H H' → H' d = some (.xd [("value", .ref t)]) → H' t = some (.tup xs) → E (.ref cF) (some d) H'
  | .hand => ∀ d t xs H', H d = none → Same H H' → H' d = some (.xd [("value", .ref t)]) → H' t = some (.lst xs) → E (.ref cH) (some d) H'
  | .program => ∀ d t xs H', H d = none → Same H H' → H' d = some (.xd [("value", .ref t)]) → H' t = some (.lst xs) → E (.ref cP) (some d) H'
  | .read => ∀ p H', Same H H' → Q (.ref p) H'
def spRead (cL cF cH cP : Addr) : Sp := fun vs H Q E => ∃ (rows : List (List Str)) (o : Ro), vs = [.str (txtS rows)] ∧ RowsOk rows ∧ RdS rows o ∧ RoQ cL cF cH cP H Q E o
section
variable {P : Program} {w : World} {K : PySem.W.Frag} {mg : Str → Option Value} {base : Heap}
theorem scRd : FnScope ["text", "rows", "words", "index", "row", "word", "told", "facts", "page", "line"] ["text"] (defScope sReadProgram) := ⟨rfl, rfl, rfl, by decide +kernel, rfl, by decide +kernel, by decide +kernel⟩
theorem ok_read {f fW fC fH fL fIF fIP F C G cR cF cP cH cS cX cI cL : Addr} {fd fdW fdC fdH fdL fdIP : FuncData} {gT : List Value → List Value → List Value} (F0 : Fun K "read_program" "read_program" sReadProgram f fd) (B : Blt mg) (D : Blp mg) (mTup : mg "tuple" = none) (mEn : mg "enumerate" = none) (mZ : mg "zip" = none)
    (GW : D1 P w K mg base "_word_of" 9 ["row"] spWordOf fW fdW) (GC : D1 P w K mg base "_can_stand" 2 ["word", "ahead"] spCan fC fdC) (GH : D1 P w K mg base "_hands_of" 1 ["rows", "words"] spHands fH fdH)
    (XL : XrI P w K mg base "InvalidLine" cL fL fdL) (TF : Fcl K mg F) (MF : Mk K F fIF) (GIF : FnR P w K mg base (L2.CX P w) 8 fIF (spMakeF K C F cR cF)) (TP : Pcl K mg G) (MG : Mk K G fIP) (GIP : FnOk P w K mg base (L2.CX P w) 10 fIP fdIP ["self", "hands", "first", "facts", "page"] (spInitP K G F C cP cH cS cX cF cI))
    (kT : KBn K fdIP ["self", "hands", "first", "facts", "page"] 2 ["first", "facts", "page"] gT (fun vs zs => vs ++ zs)) (N : Npl K C) :
    FnOk P w K mg base (L2.CX P w) 12 f fd ["text"] (spRead cL cF cH cP) := by
  refine F0.okX scRd (fun vs H Q E h => ?_) (fun cdv A outer s H vs Q E hr h => ?_)
  · obtain ⟨rows, o, rfl, _⟩ := h
    rfl
  · obtain ⟨rows, o, rfl, ok, hrd, q⟩ := h
    have nd := scRd.nd
    have hr11 : Room 11 _ := hr
    have hr1 : Room 1 _ := hr.mono (by decide)
    have hr2 : Room 2 _ := hr.mono (by decide)
    have hr8 : Room 8 _ := hr.mono (by decide)
    have hr9 : Room 9 _ := hr.mono (by decide)
    refine ⟨_, (pss_cons (ps_if (pt_not (pt_val (pe_callB call_isi (by rfl) D.isi (by decide +kernel) (pa_cons (pv 0) (pa_cons (pe_bltn (v := .ty "str") (by rfl) D.str (by decide +kernel) rfl) pa_nil))))) pss_never pss_nil)
      (pss_cons (ps_setLc (i := 1) (own := [("line", 9)]) (g := gName 9) (tt := tYes) rfl nd rfl rfl (sw_true rfl rfl rfl (by decide +kernel)) (pi_list (pe_splitAny (pv 0) pe_str)) (blkOk_by (N := ["text", "rows", "words", "index", "row", "word", "told", "facts", "page", "line"]) (sc := defScope sReadProgram) (by decide +kernel)) (fun _ _ _ _ _ => (pg_name (i := 9) nd rfl (Or.inl rfl))) (fun _ _ _ _ _ => pts_nil) (fun _ _ _ _ _ => (pe_callTy (call_tupleK K) (by rfl) mTup (by decide +kernel) (pa_cons (pe_splitAny (pv 9) pe_str) pa_nil))))
      (pss_cons (ps_set (i := 2) nd rfl (Or.inl rfl) (pe_lst pa_nil))
      (pss_cons (ps_for (passes_of rfl) rfl (pi_enum (by rfl) mEn (pa_cons (pv 1) pa_nil)) (pg_tup (by rfl) (pgs_cons (pg_name (i := 3) nd rfl (Or.inl rfl)) (pgs_cons (pg_name (i := 4) nd rfl (Or.inl rfl)) pgs_nil))) (pss_cons (ps_set (i := 5) nd rfl (Or.inl rfl) (pe_call GW.ok hr9 (by rfl) GW.m GW.k GW.b .nil pass0 (pa_cons (pv 4) pa_nil)))
      (pss_cons (ps_if (pt_not (pt_val (pe_call GC.ok hr2 (by rfl) GC.m GC.k GC.b .nil pass0 (pa_cons (pv 5) (pa_cons (pv 2) pa_nil))))) (pss_one (ps_raise rfl (takes_of rfl rfl rfl rfl) (pmk_oex XL.T.ox XL.i XL.t XL.G hr2 XL.b .nil pass0 (by rfl) XL.T.m (pa_cons (pv 3) pa_nil)))) pss_nil)
      (pss_one (ps_expr (pe_bm PySem.F.plainAttrs_list PySem.F.slot_list_append PySem.F.type_list_append mt_append (pv 2) (pa_cons (pv 5) pa_nil)))))))
      (pss_cons (ps_setLc (i := 6) (own := [("row", 4), ("word", 5)]) (g := gTup K 2 (gCons (gName 4) (gCons (gName 5) (gNil)))) rfl nd rfl rfl (sw_true rfl rfl rfl (by decide +kernel)) (pi_zip (by rfl) mZ (pa_cons (pv 1) (pa_cons (pv 2) pa_nil))) (blkOk_by (N := ["text", "rows", "words", "index", "row", "word", "told", "facts", "page", "line"]) (sc := defScope sReadProgram) (by decide +kernel)) (fun _ _ _ _ _ => pg_tup (by rfl) (pgs_cons (pg_name (i := 4) nd rfl (Or.inl rfl)) (pgs_cons (pg_name (i := 5) nd rfl (Or.inl rfl)) (pgs_nil)))) (fun _ _ _ _ _ => pts_one (pt_cmpR op_eq (pv 5) pe_str (nomark _))) (fun _ _ _ _ _ => (pe_slice (sl_tupK K) (pv 4) (po_some pe_int) po_none)))
      (pss_cons (ps_set (i := 7) nd rfl (Or.inl rfl) (pe_makeRSE MF GIF hr9 (by rfl) TF.mgF (fun σ => passAt (takes_of rfl rfl rfl rfl) σ) (pv 6)))
      (pss_cons (ps_set (i := 8) nd rfl (Or.inl rfl) (pe_ifExp (pt_cmpR (op_eqB (rcB_list monB_flat eqB_flat) hr1) (pe_slice sl_list (pv 2) (po_some pe_int) (po_some pe_int)) (pe_lst (pa_cons pe_str pa_nil)) (nomark _)) (pe_callTy call_int_str (by rfl) B.int (by decide +kernel) (pa_cons (pe_ix ix_tup (pe_ix ix_list (pv 1) pe_int (fun _ _ => rfl)) pe_int (fun _ _ => rfl)) pa_nil)) pe_non))
      (pss_one (ps_ret (pe_makeKS MG GIP hr11 (by rfl) TP.mgG kT (fun σ => passAt (takes_of rfl rfl rfl rfl) σ) (pa_cons (pe_call GH.ok hr1 (by rfl) GH.m GH.k GH.b .nil pass0 (pa_cons (pv 1) (pa_cons (pv 2) pa_nil))) pa_nil) (pk_cons (pe_ix ix_tup (pe_ix ix_list (pv 1) pe_int (fun _ _ => rfl)) pe_int (fun _ _ => rfl)) (pk_cons (pv 7) (pk_cons (pv 8) pk_nil))))))))))))), ?_⟩
    have sb : 1000000 ≤ sizeLine := by decide
    refine ⟨_, rfl, _, _, _, _, true, rfl, .ty _, .base (.str _), kit_ty (by decide +kernel), true, rfl, iteF ?_⟩
    have tl := txt_len ok
    -- the rows
    refine ⟨_, rfl, ⟨_, rfl⟩, .inl ⟨_, _, rfl, rfl, (by decide +kernel), by omega, fun lp np => ?_⟩⟩
    rw [txt_split ok]
    have s1 : Same H (upd H lp (.lst ((rows.map lineS).map V.str))) := same_nw np
    have t1 : upd H lp (.lst ((rows.map lineS).map V.str)) lp = some (.lst ((rows.map lineS).map V.str)) := upd_same
    generalize upd H lp (.lst ((rows.map lineS).map V.str)) = H1 at s1 t1
    refine ⟨lp, rfl, ⟨_, SqL.of t1⟩, fun D nD => ?_⟩
    have lrow := ok.len
    refine lc_list (xs := (rows.map lineS).map V.str) (fun i G => (∀ q o, q ≠ D → H1 q = some o → G q = some o) ∧ ∃ rs : List Addr, G D = some (.lst (rs.map V.ref)) ∧ Lk (TpS G) rs (rows.take i))
      ⟨fun q o n e => by rw [upd_ne n]; exact e, [], upd_same, by rw [List.take_zero]; exact .nil⟩ (fun i G _ h => SqL.of (h.1 _ _ (ne_of_none t1 nD) t1)) ?_ ?_
    · rintro i x G hx ⟨keep, rs, hD, hL⟩
      rw [List.map_map, List.getElem?_map] at hx
      obtain ⟨r, hr, rfl⟩ := Option.map_eq_some_iff.mp hx
      have ro := ok.row r (List.mem_of_getElem? hr)
      have lr := line_len ro
      have ll := hL.length
      rw [List.length_take] at ll
      refine ⟨rfl, yesT ?_⟩
      refine ⟨_, rfl, ⟨_, rfl⟩, .inl ⟨_, _, rfl, rfl, (by decide +kernel), by omega, fun p2 np2 => ?_⟩⟩
      rw [line_split ro]
      have s2 : Same G (upd G p2 (.lst (r.map V.str))) := same_nw np2
      have t2 : upd G p2 (.lst (r.map V.str)) p2 = some (.lst (r.map V.str)) := upd_same
      generalize upd G p2 (.lst (r.map V.str)) = G2 at s2 t2
      refine ⟨p2, _, rfl, .inl ⟨SqL.of t2, fun l nl => ?_⟩⟩
      have s3 : Same G2 (upd G2 l (.tup (r.map V.str))) := same_nw nl
      have t3 : upd G2 l (.tup (r.map V.str)) l = some (.tup (r.map V.str)) := upd_same
      generalize upd G2 l (.tup (r.map V.str)) = G3 at s3 t3
      have hD3 := s3 _ _ (s2 _ _ hD)
      have up : ∀ {a : Addr} {u : List Str} (o : HO), TpS G3 a u → TpS (upd G3 D o) a u := fun {a u} o e => by
        unfold TpS at *
        rw [upd_ne (fun x => by rw [x, hD3] at e; cases e)]
        exact e
      refine ⟨_, hD3, by rw [List.length_map]; omega, fun q o n e => by rw [upd_ne n]; exact s3 _ _ (s2 _ _ (keep q o n e)), rs ++ [l], by rw [upd_same, List.map_append]; rfl, ?_⟩
      rw [List.take_succ, hr]
      exact (hL.imp fun a u (e : TpS G a u) => up _ (s3 _ _ (s2 _ _ e))).append (.one (up _ t3))
    rintro H2 ⟨keep, rs, hD, hL⟩
    rw [List.length_map, List.length_map, List.take_length] at hL
    have s2 : Same H H2 := s1.trans fun q o e => keep q o (ne_of_none e nD) e
    clear keep s1 t1 np nD
    have lrs := hL.length
    -- the words
    refine ⟨(by show 0 ≤ sizeLine; omega), fun W nW => ?_⟩
    have s3 : Same H2 (upd H2 W (.lst (([] : List Str).map V.str))) := same_nw nW
    have t3 : upd H2 W (.lst (([] : List Str).map V.str)) W = some (.lst (([] : List Str).map V.str)) := upd_same
    rw [show upd H2 W (.lst []) = upd H2 W (.lst (([] : List Str).map V.str)) from rfl]
    generalize upd H2 W (.lst (([] : List Str).map V.str)) = H3 at s3 t3
    have nW0 := s2.free nW
    have s03 := s2.trans s3
    have hD3 := s3 _ _ hD
    have hL3 : Lk (TpS H3) rs rows := hL.imp fun a u (e : TpS H2 a u) => s3 _ _ e
    have WD : D ≠ W := ne_of_none hD nW
    clear s3 hL hD nW s2
    obtain ⟨jb, hj, hbad, hgood⟩ : ∃ jb, (∀ j, j < jb → standsAt (wsS rows) j = true) ∧ (jb < rows.length → standsAt (wsS rows) jb = false ∧ o = .line jb) ∧ (¬ jb < rows.length → AllSt rows ∧ ∀ i, o ≠ .line i) := by
      cases o with
      | line i => exact ⟨i, hrd.2.1, fun _ => ⟨hrd.2.2, rfl⟩, fun h => absurd hrd.1 h⟩
      | facts => exact ⟨rows.length, fun j hj => hrd.1 j hj, fun h => absurd h (Nat.lt_irrefl _), fun _ => ⟨hrd.1, fun i e => by cases e⟩⟩
      | hand => exact ⟨rows.length, fun j hj => hrd.1 j hj, fun h => absurd h (Nat.lt_irrefl _), fun _ => ⟨hrd.1, fun i e => by cases e⟩⟩
      | program => exact ⟨rows.length, fun j hj => hrd.1 j hj, fun h => absurd h (Nat.lt_irrefl _), fun _ => ⟨hrd.1, fun i e => by cases e⟩⟩
      | read => exact ⟨rows.length, fun j hj => hrd.1 j hj, fun h => absurd h (Nat.lt_irrefl _), fun _ => ⟨hrd.1, fun i e => by cases e⟩⟩
    have lws : (wsS rows).length = rows.length := by
      unfold wsS
      rw [List.length_map]
    refine ⟨_, rfl, D, _, rfl, SqL.of hD3, ?_⟩
    refine for_it (walk_enum (xs := rs.map V.ref)) (fun i σ G => (∃ v3 v4 v5 : Option V, σ = [some (.str (txtS rows)), some (.ref D), some (.ref W), v3, v4, v5, none, none, none, none]) ∧ (∀ q o, q ≠ W → H3 q = some o → G q = some o) ∧ G W = some (.lst (((wsS rows).take i).map V.str)) ∧ i ≤ jb)
      ⟨⟨_, _, _, rfl⟩, fun q o _ e => e, by rw [List.take_zero]; exact t3, Nat.zero_le _⟩ (fun i σ G _ h => SqL.of (h.2.1 _ _ WD hD3)) ?_ ?_
    · rintro i x σ G G' hi ⟨⟨v3, v4, v5, rfl⟩, keep, hW, hij⟩ ⟨T, x1, y1, rfl, nT, rfl, e1, e2⟩
      have e1 : some (V.int (i : Nat)) = some x1 := e1
      have e2 : (rs.map V.ref)[i]? = some y1 := e2
      cases e1
      rw [List.getElem?_map] at e2
      obtain ⟨ra, hra, rfl⟩ := Option.map_eq_some_iff.mp e2
      obtain ⟨r, hr, hT⟩ := hL3.get hra
      have ro := ok.row r (List.mem_of_getElem? hr)
      have sT : Same G (upd G T (.tup [.int (i : Nat), .ref ra])) := same_nw nT
      have tT : upd G T (.tup [.int (i : Nat), .ref ra]) T = some (.tup [.int (i : Nat), .ref ra]) := upd_same
      show gTup _ 2 _ _ _ (upd G T (.tup [.int (i : Nat), .ref ra])) _
      generalize upd G T (.tup [.int (i : Nat), .ref ra]) = G1 at sT tT ⊢
      generalize hDE : ({ nx := _, rt := _, bk := _, ct := _ } : Ends) = DE
      have enx : ∀ σ' H', ((∃ v3 v4 v5 : Option V, σ' = [some (.str (txtS rows)), some (.ref D), some (.ref W), v3, v4, v5, none, none, none, none]) ∧ (∀ q o, q ≠ W → H3 q = some o → H' q = some o) ∧ H' W = some (.lst (((wsS rows).take (i + 1)).map V.str)) ∧ i + 1 ≤ jb) → DE.nx σ' H' := fun σ' H' h => by
        rw [← hDE]
        exact h
      clear hDE
      refine ⟨T, _, rfl, SqT.of tT, rfl, _, _, rfl, _, _, rfl, rfl, ?_⟩
      have keep1 : ∀ q o, q ≠ W → H3 q = some o → G1 q = some o := fun q o n e => sT _ _ (keep q o n e)
      have hW1 := sT _ _ hW
      have raW : ra ≠ W := fun e => by
        unfold TpS at hT
        rw [e, t3] at hT
        cases hT
      have hr1' := keep1 _ _ raW hT
      obtain ⟨z, r', er⟩ := List.exists_cons_of_ne_nil ro.1
      have sm : ∀ s ∈ z :: r', Sm 1000 s := fun s hs => by
        rw [← er] at hs
        exact (ro.2.2 s hs).1.mono (by decide)
      have lr6 := ro.2.1
      rw [er] at hr1' lr6
      refine ⟨_, rfl, ra, z, r', rfl, hr1', sm, by omega, fun G2 s2 => ?_⟩
      rw [← er]
      have ew : (wsS rows)[i]? = some (wordS r) := by
        unfold wsS
        rw [List.getElem?_map, hr]
        rfl
      have est : canS (wordS r) ((wsS rows).take i) = standsAt (wsS rows) i := by
        unfold standsAt
        rw [List.getD_eq_getElem?_getD, ew]
        rfl
      refine ⟨_, rfl, _, rfl, _, W, _, rfl, s2 _ _ hW1, fun G3 s3 => ⟨_, rfl, ?_⟩⟩
      rw [est]
      have hW3 := s3 _ _ (s2 _ _ hW1)
      have keep3 : ∀ q o, q ≠ W → H3 q = some o → G3 q = some o := fun q o n e => s3 _ _ (s2 _ _ (keep1 q o n e))
      have k03 : Same H G3 := fun q o e => keep3 q o (fun z => by rw [z, nW0] at e; cases e) (s03 _ _ e)
      have li : i < rows.length := (List.getElem?_eq_some_iff.mp hr).1
      rcases Nat.lt_or_ge i jb with lt | ge
      · rw [hj i lt]
        refine iteF ⟨_, rfl, .inl ⟨rfl, _, SqL.of hW3⟩, _, rfl, W, _, _, rfl, rfl, hW3, by rw [List.length_map, List.length_take]; omega, ?_⟩
        refine enx _ _ ⟨⟨_, _, _, rfl⟩, fun q o n e => by rw [upd_ne n]; exact keep3 q o n e, ?_, lt⟩
        rw [upd_same, List.take_succ, ew, List.map_append]
        rfl
      · have ej : i = jb := by omega
        obtain ⟨hf, ho⟩ := hbad (by omega)
        rw [ho] at q
        rw [ej, hf]
        exact iteT (mko_xI rfl fun d H' nd2 s4 hd => q d H' (k03.free nd2) (k03.trans s4) hd)
    rintro σ Gh ⟨⟨v3, v4, v5, rfl⟩, keep, hW, hij⟩
    rw [List.length_map, lrs] at hij
    obtain ⟨hst, hno⟩ := hgood (by omega)
    rw [List.length_map, lrs, ← lws, List.take_length] at hW
    have hDG := keep _ _ WD hD3
    have hLG : Lk (TpS Gh) rs rows := hL3.imp fun a u (e : TpS H3 a u) => keep _ _ (fun x => by
      unfold TpS at e
      rw [x, t3] at e
      cases e) e
    have s0G : Same H Gh := fun q o e => keep q o (fun z => by rw [z, nW0] at e; cases e) (s03 _ _ e)
    clear keep hbad hgood hij hj t3 hD3 hL3 s03
    -- the rows that are facts
    dsimp only
    refine ⟨_, rfl, _, rfl, D, W, _, _, rfl, SqL.of hDG, SqL.of hW, fun D2 nD2 => ?_⟩
    have n1 : D ≠ D2 := ne_of_none hDG nD2
    have n2 : W ≠ D2 := ne_of_none hW nD2
    refine lc_it (walk_zip (n := rows.length) (by rw [List.length_map, List.length_map, lws, lrs, Nat.min_self])) (fun i Gh' => (∀ q o, q ≠ D2 → Gh q = some o → Gh' q = some o) ∧ ∃ fs : List Addr, Gh' D2 = some (.lst (fs.map V.ref)) ∧ fs.length ≤ i ∧ Lk (TpS Gh') fs (((rows.take i).filter fun r => decide (wordS r = "fact")).map List.tail))
      ⟨fun q o n e => by rw [upd_ne n]; exact e, [], upd_same, Nat.zero_le _, by rw [List.take_zero]; exact .nil⟩ (fun i Gh' _ h => ⟨SqL.of (h.1 _ _ n1 hDG), SqL.of (h.1 _ _ n2 hW)⟩) ?_ ?_
    · rintro i x G1 G2 hi ⟨keep, fs, hD2, hfl, hF⟩ ⟨T, x1, y1, rfl, nT, rfl, e1, e2⟩
      have er : rs[i]? = some rs[i] := List.getElem?_eq_getElem (by omega)
      obtain ⟨r, hr, hT⟩ := hLG.get er
      have ro := ok.row r (List.mem_of_getElem? hr)
      have ew : (wsS rows)[i]? = some (wordS r) := by
        unfold wsS
        rw [List.getElem?_map, hr]
        rfl
      have e1 : (rs.map V.ref)[i]? = some x1 := e1
      have e2 : ((wsS rows).map V.str)[i]? = some y1 := e2
      rw [List.getElem?_map, er] at e1
      rw [List.getElem?_map, ew] at e2
      cases e1
      cases e2
      generalize rs[i] = ra at *
      have sT : Same G1 (upd G1 T (.tup [.ref ra, .str (wordS r)])) := same_nw nT
      have tT : upd G1 T (.tup [.ref ra, .str (wordS r)]) T = some (.tup [.ref ra, .str (wordS r)]) := upd_same
      generalize upd G1 T (.tup [.ref ra, .str (wordS r)]) = G2 at sT tT
      have tk : rows.take (i + 1) = rows.take i ++ [r] := by
        rw [List.take_succ, hr]
        rfl
      have keep2 : ∀ q o, q ≠ D2 → Gh q = some o → G2 q = some o := fun q o n e => sT _ _ (keep q o n e)
      have hT2 : TpS G2 ra r := keep2 _ _ (fun x => by
        unfold TpS at hT
        rw [x, nD2] at hT
        cases hT) hT
      refine ⟨T, _, rfl, SqT.of tT, rfl, _, _, rfl, _, _, rfl, rfl, ?_⟩
      refine ⟨rfl, _, rfl, rfl, _, rfl, ?_⟩
      rw [dstr, tk, List.filter_append, List.map_append]
      refine ite2 (fun c => ?_) (fun c => ?_)
      · obtain ⟨z, r', er'⟩ := List.exists_cons_of_ne_nil ro.1
        unfold TpS at hT2
        rw [er'] at hT2
        refine ⟨_, rfl, _, rfl, ra, _, rfl, SqT.of hT2, cut1n, fun p3 np3 => ?_⟩
        rw [List.map_cons, cut1]
        have s3 : Same G2 (upd G2 p3 (.tup (r'.map V.str))) := same_nw np3
        have t3 : TpS (upd G2 p3 (.tup (r'.map V.str))) p3 r.tail := by
          rw [er']
          exact upd_same
        generalize upd G2 p3 (.tup (r'.map V.str)) = G3 at s3 t3
        have hD3 := s3 _ _ (sT _ _ hD2)
        have up : ∀ {a : Addr} {u : List Str} (o : HO), TpS G3 a u → TpS (upd G3 D2 o) a u := fun {a u} o e => by
          unfold TpS at *
          rw [upd_ne (fun x => by rw [x, hD3] at e; cases e)]
          exact e
        refine ⟨_, hD3, by rw [List.length_map]; omega, fun q o n e => by rw [upd_ne n]; exact s3 _ _ (keep2 q o n e), fs ++ [p3], by rw [upd_same, List.map_append]; rfl, by rw [List.length_append]; show _ + 1 ≤ _; omega, ?_⟩
        rw [show ([r] : List (List Str)).filter (fun r => decide (wordS r = "fact")) = [r] by rw [List.filter_cons, if_pos c]; rfl]
        exact (hF.imp fun a u e => up _ (s3 _ _ (sT _ _ e))).append (.one (up _ t3))
      · rw [show ([r] : List (List Str)).filter (fun r => decide (wordS r = "fact")) = [] by rw [List.filter_cons, if_neg c]; rfl, List.map_nil, List.append_nil]
        exact ⟨keep2, fs, sT _ _ hD2, by omega, hF.imp fun a u e => sT _ _ e⟩
    rintro G5 ⟨keep, fs, hD2, hfl, hF⟩
    rw [List.take_length] at hF
    have sG5 : Same Gh G5 := fun q o e => keep q o (ne_of_none e nD2) e
    have s05 := s0G.trans sG5
    have hR : Lk (RwG K C G5) fs (fcS rows) := lk_fcts N hF fun r hr => by
      obtain ⟨a, b⟩ := List.mem_filter.mp hr
      exact ⟨of_decide_eq_true b, ok.row r a⟩
    have hDG := sG5 _ _ hDG
    have hW := sG5 _ _ hW
    have hLG : Lk (TpS G5) rs rows := hLG.imp fun a u e => TpS.same sG5 e
    clear keep hF nD2 n1 n2 s0G sG5
    -- the facts
    have hfo : (o = .facts) ∨ (o ≠ .facts ∧ (fcS rows).length ≤ 20 ∧ Two (fcS rows)) := by
      cases o with
      | line i => exact absurd rfl (hno i)
      | facts => exact .inl rfl
      | hand => exact .inr ⟨fun e => (by cases e), hrd.2.1, hrd.2.2.1⟩
      | program => exact .inr ⟨fun e => (by cases e), hrd.2.1, hrd.2.2.1⟩
      | read => exact .inr ⟨fun e => (by cases e), hrd.2.1, hrd.2.2.1⟩
    rcases hfo with rfl | ⟨hnf, l20, two⟩
    · exact ⟨_, rfl, D2, _, rfl, .inr (SqL.of hD2), fun x dx nx ndx ne => mk_factsX nx ndx hR hrd.2.1 hrd.2.2 fun d t xs H' nd2 s2 hd ht => q d t xs H' (s05.free nd2) (s05.trans s2) hd ht⟩
    refine ⟨_, rfl, D2, _, rfl, .inr (SqL.of hD2), mk_factsN hR l20 two fun fa G6 s6 n6 hfa => ?_⟩
    have s06 := s05.trans s6
    have hf6 := hfa.fac
    have hDG := s6 _ _ hDG
    have hW := s6 _ _ hW
    have hLG : Lk (TpS G6) rs rows := hLG.imp fun a u e => TpS.same s6 e
    clear hR hD2 s05 s6 n6 hfa nd hfl fs
    -- the page size
    dsimp only [gName, List.set]
    refine seq_val (fun v H' => ∃ pg, Same G6 H' ∧ PgV v pg ∧ PgR rows pg ∧ ∀ i, pg = some i → 1 ≤ i ∧ i ≤ 31) ?_ ?_
    · rintro gv G7 ⟨pg, s7, hgv, hpr, hpb⟩
      obtain ⟨s0, rest0, erows, hs0⟩ := first_row ok.ne hst
      have er0 : rows[0]? = some [("first" : Str), s0] := by rw [erows]; rfl
      have sm0 : Sm 1000 s0 := ((ok.row _ (List.mem_of_getElem? er0)).2.2 s0 (List.mem_cons_of_mem _ List.mem_cons_self)).1.mono (by decide)
      have lr1 : 1 ≤ rows.length := by rw [erows, List.length_cons]; omega
      have hL7 : Lk (TpS G7) rs rows := hLG.imp fun a u e => TpS.same s7 e
      have era : rs[0]? = some (rs[0]'(by omega)) := List.getElem?_eq_getElem (by omega)
      obtain ⟨r, hr, hT⟩ := hL7.get era
      rw [er0] at hr
      have hr := Option.some.inj hr
      unfold TpS at hT
      rw [← hr] at hT
      have s07 := s06.trans s7
      refine ⟨_, rfl, _, rfl, D, W, rs, wsS rows, rfl, s7 _ _ hDG, s7 _ _ hW, lrs.trans lws.symm, by omega, fun i e => step_ahead hst e, fun p ls G8 s8 np hp hls hnd => ?_⟩
      have hd := lk_hds N ok hL7 s8 hls
      refine ⟨_, rfl, D, _, _, _, rfl, rfl, SqL.of (s8 _ _ (s7 _ _ hDG)), (atI_nat (xs := rs.map V.ref) (j := 0) (by rw [List.getElem?_map, era]; rfl)), _, _, _, _, rfl, rfl, SqT.of (s8 _ _ hT), (atI_nat (j := 1) rfl), _, rfl, _, rfl, rfl, rfl, fun x dx nx ndx nn => ?_⟩
      have same0 : Same G8 (upd (upd G8 dx (.own x)) x (.ins G dx [])) := fun b o e => by
        rw [upd_ne (ne_of_none e nx), upd_ne (ne_of_none e ndx)]
        exact e
      have s08 := s07.trans s8
      have lls := hd.length
      have hfa8 := (hf6.same s7).same s8
      have fpe : ∀ {z k}, fpS rows = some (z, k) → partsS s0 = some (z, k) := fun e => by
        unfold fpS at e
        rw [erows] at e
        exact e
      have raise : ∀ {c : Addr} {t : Addr} {xs : List V}, G8 t = some (.lst xs) → (∀ d t xs H', H d = none → Same H H' → H' d = some (.xd [("value", .ref t)]) → H' t = some (.lst xs) → E (.ref c) (some d) H') → Rs G8 E c (.ref t) := fun {c t xs} ht q d H' nd2 s9 hd2 => q d t xs H' (s08.free nd2) (s08.trans s9) hd2 (s9 _ _ ht)
      cases o with
      | line i => exact absurd rfl (hno i)
      | facts => exact absurd rfl hnf
      | hand =>
        obtain ⟨_, _, _, h1, h3, ib, h, hib, hgj, hbd⟩ := hrd
        obtain ⟨hib1, hib2⟩ := List.getElem?_eq_some_iff.mp hib
        have el : ls[ib]? = some (ls[ib]'(by omega)) := List.getElem?_eq_getElem (by omega)
        obtain ⟨h', e', as, hl, hla⟩ := hd.get el
        rw [hib] at e'
        cases e'
        have lla := hla.length
        have hl2 : ∃ xs, G8 (ls[ib]'(by omega)) = some (.lst xs) := by
          obtain ⟨g, _, _, _, x⟩ := hls.get el
          exact ⟨_, x⟩
        obtain ⟨xs2, hl2⟩ := hl2
        refine Raises.init (c := cH) (u := .ref (ls[ib]'(by omega))) (.inr ⟨p, _, rfl, .inl hp, by rw [List.length_map]; omega, by rw [List.length_map]; omega, .inl ⟨ib, .ref (ls[ib]'(by omega)), by rw [List.getElem?_map, el]; rfl, fun j hj => ?_, .inl ⟨rfl, rfl, .inr ⟨_, _, rfl, hl, ?_⟩⟩⟩⟩) (raise hl2 q) nx same0 upd_same
        · have ej : ls[j]? = some (ls[j]'(by omega)) := List.getElem?_eq_getElem (by omega)
          obtain ⟨g, eg, hg⟩ := hd.get ej
          obtain ⟨a1, a2⟩ := hgj j g hj eg
          exact ⟨_, g, by rw [List.getElem?_map, ej]; rfl, hg, a1, a2⟩
        · rcases hbd with hbd | ⟨b1, b2⟩
          · exact .inl (by rw [List.length_map]; omega)
          · exact .inr ⟨as, h, rfl, hla, b1, b2⟩
      | program =>
        obtain ⟨_, _, _, hb⟩ := hrd
        rcases hb with hb | ⟨⟨h1, h3, hgood⟩, z, k, pg', fz, hpg, l60, hov⟩
        · exact Raises.init (c := cP) (u := .ref p) (.inl ⟨.inr ⟨p, _, rfl, .inl hp, by rw [List.length_map]; omega⟩, rfl, rfl⟩) (raise hp q) nx same0 upd_same
        · cases hpr.eq hpg
          have e0 := fpe fz
          exact Raises.init (c := cP) (u := .ref p) (.inr ⟨p, _, rfl, .inl hp, by rw [List.length_map]; omega, by rw [List.length_map]; omega, .inr ⟨ls, hsS rows, rfl, hd, hgood, .inr ⟨z, k, .inr ⟨nopl_str N sm0, e0⟩, parts_good sm0 e0, .inr ⟨fcS rows, .inr ⟨fa, rfl, hfa8⟩, .inr ⟨pg, hgv, hpb, l60, hov, rfl, rfl⟩⟩⟩⟩⟩) (raise hp q) nx same0 upd_same
      | read =>
        obtain ⟨_, _, _, ⟨h1, h3, hgood⟩, z, k, pg', fz, hpg, l14, lu⟩ := hrd
        cases hpr.eq hpg
        have e0 := fpe fz
        exact Makes.init ⟨p, ls, hsS rows, z, k, fcS rows, pg, rfl, .inl hp, hd, h1, h3, hgood, .inr ⟨nopl_str N sm0, e0⟩, parts_good sm0 e0, .inr ⟨fa, rfl, hfa8⟩, hgv, hpb, l14, lu⟩ (fun H' s' => ⟨rfl, q x H' (s08.trans s')⟩) nx same0 upd_same
    intro fin
    refine ⟨_, rfl, _, rfl, _, rfl, W, _, rfl, SqL.of hW, fun p1 np1 => ?_⟩
    rw [show cutV ((wsS rows).map V.str) (some 1) (some 2) = _ from cutV_mid _ 1 2, ← List.map_drop, ← List.map_take]
    have s7 : Same G6 (upd G6 p1 (.lst ((((wsS rows).drop 1).take (2 - 1)).map V.str))) := same_nw np1
    have t7 : upd G6 p1 (.lst ((((wsS rows).drop 1).take (2 - 1)).map V.str)) p1 = some (.lst ((((wsS rows).drop 1).take 1).map V.str)) := upd_same
    generalize upd G6 p1 (.lst ((((wsS rows).drop 1).take (2 - 1)).map V.str)) = G7 at s7 t7
    refine ⟨(by show 1 ≤ sizeLine; omega), fun p2 np2 => ?_⟩
    have s8 : Same G7 (upd G7 p2 (.lst ((["page"] : List Str).map V.str))) := same_nw np2
    have t8 : upd G7 p2 (.lst ((["page"] : List Str).map V.str)) p2 = some (.lst ((["page"] : List Str).map V.str)) := upd_same
    rw [show upd G7 p2 (.lst [.str "page"]) = upd G7 p2 (.lst ((["page"] : List Str).map V.str)) from rfl]
    generalize upd G7 p2 (.lst ((["page"] : List Str).map V.str)) = G8 at s8 t8
    refine ⟨_, lst_strs (s8 _ _ t7) t8, fun G9 e9 => ⟨_, rfl, ?_⟩⟩
    have s9 : Same G6 G9 := s7.trans (s8.trans fun p o x => e9 p o x)
    refine ite2 (fun c => ?_) (fun c => ?_)
    · have c1 := one_is.mp (of_decide_eq_true c)
      have l1 : 1 < rows.length := by
        have := (List.getElem?_eq_some_iff.mp c1).1
        omega
      have er : rows[1]? = some rows[1] := List.getElem?_eq_getElem l1
      have ew : wordS rows[1] = "page" := by
        unfold wsS at c1
        rw [List.getElem?_map, er] at c1
        exact Option.some.inj c1
      obtain ⟨i, hi, e1⟩ := word_page ew
      rw [e1] at er
      have era : rs[1]? = some (rs[1]'(by omega)) := List.getElem?_eq_getElem (by omega)
      obtain ⟨r, hr, hT⟩ := hLG.get era
      rw [er] at hr
      have hr := Option.some.inj hr
      unfold TpS at hT
      rw [← hr] at hT
      obtain ⟨pi, pl⟩ := page_int i hi
      refine ⟨_, rfl, D, _, _, _, rfl, rfl, SqL.of (s9 _ _ hDG), (atI_nat (xs := rs.map V.ref) (j := 1) (by rw [List.getElem?_map, era]; rfl)), _, _, _, _, rfl, rfl, SqT.of (s9 _ _ hT), (atI_nat (j := 1) rfl), _, _, rfl, pi, pl, ?_⟩
      exact fin _ _ ⟨_, s9, .inr ⟨_, rfl, rfl⟩, .inr ⟨i, hi, er, c1, rfl⟩, fun j e => by cases e; omega⟩
    · exact fin _ _ ⟨none, s9, .inl ⟨rfl, rfl⟩, .inl ⟨fun e => c (decide_eq_true (one_is.mpr e)), rfl⟩, fun j e => by cases e⟩
end
end Mz
set_option Elab.async false
set_option linter.all false
set_option maxRecDepth 100000
set_option maxHeartbeats 8000000
namespace Mz
open PySem PySem.Spec PyProof.Rows L2
/-- what is told of a reading -/
def outS : Ro → List V
  | .line i => [.str "line", .int ((i : Nat) : Int)]
  | .facts => [.str "facts", .bl true]
  | .hand => [.str "hand", .bl true]
  | .program => [.str "program", .bl true]
  | .read => [.str "read", .bl true]
structure ArmsR (K : PySem.W.Frag) (cL cF cH cP : Addr) : Prop where
  ll : PySem.W.exmOne K (.ref cL) (.ref cL) = some true
  fl : PySem.W.exmOne K (.ref cF) (.ref cL) = some false
  ff : PySem.W.exmOne K (.ref cF) (.ref cF) = some true
  hl : PySem.W.exmOne K (.ref cH) (.ref cL) = some false
  hf : PySem.W.exmOne K (.ref cH) (.ref cF) = some false
  hh : PySem.W.exmOne K (.ref cH) (.ref cH) = some true
  pl : PySem.W.exmOne K (.ref cP) (.ref cL) = some false
  pf : PySem.W.exmOne K (.ref cP) (.ref cF) = some false
  ph : PySem.W.exmOne K (.ref cP) (.ref cH) = some false
  pp : PySem.W.exmOne K (.ref cP) (.ref cP) = some true
def spLRead : Sp := fun vs H Q _ => ∃ (rows : List (List Str)) (o : Ro), vs = [.str (txtS rows)] ∧ RowsOk rows ∧ RdS rows o ∧ ∀ r H', Same H H' → H r = none → H' r = some (.lst (outS o)) → Q (.ref r) H'
section
variable {P : Program} {w : World} {K : PySem.W.Frag} {mg : Str → Option Value} {base : Heap}
theorem scLRead : FnScope ["_law_text", "e"] ["_law_text"] (defScope sRead) := ⟨rfl, rfl, rfl, by decide +kernel, rfl, by decide +kernel, by decide +kernel⟩
theorem ok_lread {f fR cL cF cH cP : Addr} {fd fdR : FuncData} (F0 : Fun K "_law_read" "_law_read" sRead f fd) (D : Blp mg) (mTup : mg "tuple" = none) (mL : mg "list" = none) (GR : FnOk P w K mg base (L2.CX P w) 12 fR fdR ["text"] (spRead cL cF cH cP)) (mR : mg "read_program" = some (.ref fR)) (kR : PySem.W.keepIn K (.ref fR) = true) (bR : Binds K fdR ["text"] [])
    (AR : ArmsR K cL cF cH cP) (TXL : Xcl K mg "InvalidLine" cL "index") (TXF : Xcl K mg "InvalidFacts" cF "value") (TXH : Xcl K mg "InvalidHand" cH "value") (TXP : Xcl K mg "InvalidProgram" cP "value") : FnOk P w K mg base CX0 13 f fd ["_law_text"] spLRead := by
  refine F0.ok scLRead (fun vs H Q E h => ?_) (fun cdv A outer s H vs Q E hr h => ?_)
  · obtain ⟨rows, o, rfl, _⟩ := h
    rfl
  · obtain ⟨rows, o, rfl, ok, hrd, q⟩ := h
    have nd := scLRead.nd
    have hr12 : Room 12 _ := hr
    refine ⟨_, (pss_one (ps_try_named rfl rfl nd (fun W pn xe tk _ => (pss_one (ps_ret (pe_lst (pa_cons pe_str (pa_cons (pe_cmpR op_notN (pe_callS GR hr12 (by rfl) mR kR bR (fun σ => passAt tk σ) (pa_cons (pv 0) pa_nil)) pe_non (by rfl)) pa_nil))))))
        (.one (i := 1) rfl rfl ⟨rfl, by decide, .inl TXL.m⟩ (fun a oe cls d pn hz hf => (pss_one (ps_ret (pe_lst (pa_cons pe_str (pa_cons (pe_xf TXL.xf TXL.no hz hf (pv 1)) pa_nil))))))
        (.one (i := 1) rfl rfl ⟨rfl, by decide, .inl TXF.m⟩ (fun a oe cls d pn hz hf => (pss_one (ps_ret (pe_lst (pa_cons pe_str (pa_cons (pe_callB (call_isiK K) (by rfl) D.isi (by decide +kernel) (pa_cons (pe_xf TXF.xf TXF.no hz hf (pv 1)) (pa_cons (pe_bltn (v := .ty "tuple") (by rfl) mTup (by decide +kernel) rfl) pa_nil))) pa_nil))))))
        (.one (i := 1) rfl rfl ⟨rfl, by decide, .inl TXH.m⟩ (fun a oe cls d pn hz hf => (pss_one (ps_ret (pe_lst (pa_cons pe_str (pa_cons (pe_callB (call_isiK K) (by rfl) D.isi (by decide +kernel) (pa_cons (pe_xf TXH.xf TXH.no hz hf (pv 1)) (pa_cons (pe_bltn (v := .ty "list") (by rfl) mL (by decide +kernel) rfl) pa_nil))) pa_nil))))))
        (.one (i := 1) rfl rfl ⟨rfl, by decide, .inl TXP.m⟩ (fun a oe cls d pn hz hf => (pss_one (ps_ret (pe_lst (pa_cons pe_str (pa_cons (pe_callB (call_isiK K) (by rfl) D.isi (by decide +kernel) (pa_cons (pe_xf TXP.xf TXP.no hz hf (pv 1)) (pa_cons (pe_bltn (v := .ty "list") (by rfl) mL (by decide +kernel) rfl) pa_nil))) pa_nil))))))
        (.any _))))))), ?_⟩
    have s2 : (2 : Nat) ≤ sizeLine := by decide
    refine ⟨_, rfl, rows, o, rfl, ok, hrd, ?_⟩
    cases o with
    | line i => exact fun d H' nd2 s1 hd => ⟨true, AR.ll, fun _ a na => ⟨_, rfl, rfl, rfl, d, _, _, rfl, hd, rfl, s2, fun r nr => q r _ (s1.trans (same_nw nr)) (s1.free nr) upd_same⟩, fun y => Bool.noConfusion y⟩
    | facts => exact fun d t xs H' nd2 s1 hd ht => ⟨false, AR.fl, fun y => Bool.noConfusion y, fun _ => ⟨true, AR.ff, fun _ a na => ⟨_, rfl, rfl, rfl, d, _, _, rfl, hd, rfl, _, _, _, _, true, rfl, .ty _, .base (.tup ht), kit_ty (by decide +kernel), s2, fun r nr => q r _ (s1.trans (same_nw nr)) (s1.free nr) upd_same⟩, fun y => Bool.noConfusion y⟩⟩
    | hand => exact fun d t xs H' nd2 s1 hd ht => ⟨false, AR.hl, fun y => Bool.noConfusion y, fun _ => ⟨false, AR.hf, fun y => Bool.noConfusion y, fun _ => ⟨true, AR.hh, fun _ a na => ⟨_, rfl, rfl, rfl, d, _, _, rfl, hd, rfl, _, _, _, _, true, rfl, .ty _, .base (.lst ht), kit_ty (by decide +kernel), s2, fun r nr => q r _ (s1.trans (same_nw nr)) (s1.free nr) upd_same⟩, fun y => Bool.noConfusion y⟩⟩⟩
    | program => exact fun d t xs H' nd2 s1 hd ht => ⟨false, AR.pl, fun y => Bool.noConfusion y, fun _ => ⟨false, AR.pf, fun y => Bool.noConfusion y, fun _ => ⟨false, AR.ph, fun y => Bool.noConfusion y, fun _ => ⟨true, AR.pp, fun _ a na => ⟨_, rfl, rfl, rfl, d, _, _, rfl, hd, rfl, _, _, _, _, true, rfl, .ty _, .base (.lst ht), kit_ty (by decide +kernel), s2, fun r nr => q r _ (s1.trans (same_nw nr)) (s1.free nr) upd_same⟩, fun y => Bool.noConfusion y⟩⟩⟩⟩
    | read => exact fun p H' s1 => ⟨rfl, s2, fun r nr => q r _ (s1.trans (same_nw nr)) (s1.free nr) upd_same⟩
end
end Mz
set_option Elab.async false
set_option linter.all false
set_option maxRecDepth 100000
set_option maxHeartbeats 4000000
namespace Mz
open PySem PySem.Spec PyProof.Rows L2
/-! lists of texts that are built by +, slices and displays -/
/-- a new list of these texts; all else stays -/
structure LS (te : TE) (σ : L2.St) (H : Hp) (l : List Str) : Prop where
  run : ∀ Q : VK, (∀ p H', (∀ q o, H q = some o → H' q = some o) → H p = none → H' p = some (.lst (l.map V.str)) → Q (.ref p) H') → te σ H Q
/-- a list of these texts, new or old -/
structure LO (te : TE) (σ : L2.St) (H : Hp) (l : List Str) : Prop where
  run : ∀ Q : VK, (∀ p H', (∀ q o, H q = some o → H' q = some o) → H' p = some (.lst (l.map V.str)) → Q (.ref p) H') → te σ H Q
/-- a text, whatever the heap -/
structure PS (te : TE) (σ : L2.St) (s : Str) : Prop where
  run : ∀ (H : Hp) (Q : VK), Q (.str s) H → te σ H Q
structure PSs (ta : TA) (σ : L2.St) (l : List Str) : Prop where
  run : ∀ (H : Hp) (Q : List V → Hp → Prop), Q (l.map V.str) H → ta σ H Q
/-- a text, in this heap -/
structure PH (te : TE) (σ : L2.St) (H : Hp) (s : Str) : Prop where
  run : ∀ Q : VK, Q (.str s) H → te σ H Q
structure PHs (ta : TA) (σ : L2.St) (H : Hp) (l : List Str) : Prop where
  run : ∀ Q : List V → Hp → Prop, Q (l.map V.str) H → ta σ H Q
section
variable {te tf : TE} {ta : TA} {σ : L2.St} {H : Hp} {l m : List Str} {s t : Str} {i : Nat}
theorem LS.lo (h : LS te σ H l) : LO te σ H l := ⟨fun Q q => h.run Q fun p H' a _ c => q p H' a c⟩
theorem ps_c : PS (tC (.str s)) σ s := ⟨fun H Q q => q⟩
theorem ps_v (h : σ[i]? = some (some (.str s))) : PS (tVar i) σ s := ⟨fun H Q q => ⟨_, h, q⟩⟩
theorem ps_add (h : PS te σ s) (g : PS tf σ t) (b : s.length + t.length ≤ 10000) : PS (tOp (fun x y H Q => ∃ i j, x = V.str i ∧ y = V.str j ∧ i.length + j.length ≤ sizeLine ∧ Q (V.str (i ++ j)) H) te tf) σ (s ++ t) := ⟨fun H Q q => h.run _ _ (g.run _ _ ⟨s, t, rfl, rfl, Nat.le_trans b (by decide), q⟩)⟩
theorem ps_addN (h : PS te σ s) (g : PS tf σ t) (hs : s.length ≤ 1000) (ht : t.length ≤ 1000) : PS (tOp (fun x y H Q => ∃ i j, x = V.str i ∧ y = V.str j ∧ i.length + j.length ≤ sizeLine ∧ Q (V.str (i ++ j)) H) te tf) σ (s ++ t) := ps_add h g (by omega)
theorem pss0 : PSs tNil σ [] := ⟨fun H Q q => q⟩
theorem pss1 (h : PS te σ s) (g : PSs ta σ l) : PSs (tCons te ta) σ (s :: l) := ⟨fun H Q q => h.run _ _ (g.run _ _ q)⟩
theorem ls_lst (h : PSs ta σ l) (b : l.length ≤ 1000) : LS (tLst ta) σ H l := ⟨fun Q q => h.run _ _ ⟨by rw [List.length_map]; exact Nat.le_trans b (by decide), fun p np => q p _ (fun x o e => by rw [upd_ne (ne_of_none e np)]; exact e) np upd_same⟩⟩
theorem lo_var {a : Addr} (h : σ[i]? = some (some (.ref a))) (ha : H a = some (.lst (l.map V.str))) : LO (tVar i) σ H l := ⟨fun Q q => ⟨_, h, q a H (fun _ _ e => e) ha⟩⟩
theorem ls_cat (h : LO te σ H l) (g : ∀ H', (∀ q o, H q = some o → H' q = some o) → LO tf σ H' m) (b : l.length + m.length ≤ 1000) : LS (tOp rCat te tf) σ H (l ++ m) := ⟨fun Q q => h.run _ fun p H1 k1 e1 => (g H1 k1).run _ fun p2 H2 k2 e2 =>
  ⟨p, p2, _, _, rfl, rfl, k2 _ _ e1, e2, by rw [List.length_map, List.length_map]; exact Nat.le_trans b (by decide), fun p3 n3 => q p3 _ (fun x o e => by
    have e := k2 _ _ (k1 _ _ e)
    rw [upd_ne (ne_of_none e n3)]
    exact e) (by
    cases x : H p3 with
    | none => rfl
    | some o =>
      rw [k2 _ _ (k1 _ _ x)] at n3
      cases n3) (by rw [upd_same, List.map_append])⟩⟩
theorem cutV_from (xs : List V) (i : Nat) : cutV xs (some (i : Int)) none = xs.drop i := by
  unfold cutV
  rw [HT.sIx_nat, HT.sIx_none]
  rcases Nat.le_total i xs.length with h | h
  · rw [Nat.min_eq_left h, List.take_of_length_le (by rw [List.length_drop]; omega)]
  · rw [Nat.min_eq_right h, List.drop_of_length_le (Nat.le_refl _), List.drop_of_length_le h]
    simp
theorem cutV_upto (xs : List V) (i : Nat) : cutV xs none (some (i : Int)) = xs.take i := by
  unfold cutV
  rw [HT.sIx_nat, HT.sIx_none, List.drop_zero, Nat.sub_zero, Nat.min_comm]
  rcases Nat.le_total i xs.length with h | h
  · rw [Nat.min_eq_right h]
  · rw [Nat.min_eq_left h, List.take_of_length_le (Nat.le_refl _), List.take_of_length_le h]
theorem new_ok {p : Addr} {o : HO} (np : H p = none) : ∀ q u, H q = some u → upd H p o q = some u := fun x u e => by
  rw [upd_ne (ne_of_none e np)]
  exact e
theorem ls_upto {K : PySem.W.Frag} {j n : Nat} {a : Addr} (h : σ[i]? = some (some (.ref a))) (hj : σ[j]? = some (some (.int (n : Int)))) (ha : H a = some (.lst (l.map V.str))) : LS (tSl (rSlL K) (tVar i) tNoPart (tPart (tVar j))) σ H (l.take n) :=
  ⟨fun Q q => ⟨_, h, _, hj, _, rfl, a, _, rfl, SqL.of ha, fun p np => by
    rw [cutV_upto]
    exact q p _ (new_ok np) np (by rw [upd_same, List.map_take])⟩⟩
theorem ls_from {K : PySem.W.Frag} {j n : Nat} {a : Addr} (h : σ[i]? = some (some (.ref a))) (hj : σ[j]? = some (some (.int (n : Int)))) (ha : H a = some (.lst (l.map V.str))) : LS (tSl (rSlL K) (tVar i) (tPart (tVar j)) tNoPart) σ H (l.drop n) :=
  ⟨fun Q q => ⟨_, h, _, hj, _, rfl, a, _, rfl, SqL.of ha, fun p np => by
    rw [cutV_from]
    exact q p _ (new_ok np) np (by rw [upd_same, List.map_drop])⟩⟩
/-- the rule of join, as pe_join has it -/
def rJoin (K : PySem.W.Frag) : V → List V → Hp → VK → Prop := fun x xs H Q => ∃ a p, ∃ ys : List Str, x = .str a ∧ xs = [.ref p] ∧ (SqL K H p (ys.map V.str) ∨ SqT K H p (ys.map V.str)) ∧ (ys.map (·.length)).sum + ys.length * a.length ≤ 16777216 ∧ Q (.str (Txt.join a ys)) H
theorem join_ls {K : PySem.W.Frag} {Q : VK} (h : LO te σ H l) (b : (l.map (·.length)).sum + l.length * s.length ≤ 16777216) (q : ∀ H', (∀ q o, H q = some o → H' q = some o) → Q (.str (Txt.join s l)) H') : tM1 (rJoin K) (tC (.str s)) te σ H Q :=
  ⟨⟨_, rfl⟩, h.run _ fun p H1 k1 e1 => ⟨s, p, l, rfl, rfl, .inl (SqL.of e1), b, q H1 k1⟩⟩
/-- [list, text] is what a def gives -/
theorem ret_two {te : TE} {D : Ends} {u : Str} (h : LS te σ H l) (e : l = m) (q : ∀ p H', (∀ q o, H q = some o → H' q = some o) → H p = none → H' p = some (.lst (m.map V.str)) → ∀ p2, H' p2 = none → D.rt (.ref p2) (upd H' p2 (.lst [.ref p, .str u]))) : tRet (tLst (tCons te (tCons (tC (.str u)) tNil))) D σ H :=
  h.run _ fun p H' k n t => ⟨(by show 2 ≤ sizeLine; decide), q p H' k n (by rw [← e]; exact t)⟩
theorem ls_one {te : TE} (h : ∀ Q : VK, Q (.str s) H → te σ H Q) : LS (tLst (tCons te tNil)) σ H [s] := ⟨fun Q q => h _ ⟨(by show 1 ≤ sizeLine; decide), fun p np => q p _ (new_ok np) np upd_same⟩⟩
theorem flat_rep {v : V} : ∀ k : Nat, (List.replicate k [v]).flatten = List.replicate k v
  | 0 => rfl
  | k + 1 => by
    rw [List.replicate_succ, List.flatten_cons, flat_rep k]
    rfl
theorem ls_rep {te tk : TE} {k : Nat} (h : LS te σ H [s]) (g : ∀ H', (∀ q o, H q = some o → H' q = some o) → ∀ Q : VK, Q (.int (k : Int)) H' → tk σ H' Q) (b : k ≤ 1000) : LS (tOp rRep te tk) σ H (List.replicate k s) := ⟨fun Q q => h.run _ fun p H1 k1 n1 e1 => g H1 k1 _
  ⟨p, _, _, rfl, rfl, e1, by omega, by omega, by rw [Int.toNat_natCast]; exact Nat.le_trans (show 1 * k ≤ 1000 by omega) (by decide), fun p2 n2 => q p2 _ (fun x o e => new_ok n2 _ _ (k1 _ _ e)) (by
    cases x : H p2 with
    | none => rfl
    | some o =>
      rw [k1 _ _ x] at n2
      cases n2) (by
    rw [upd_same, Int.toNat_natCast]
    show some (HO.lst (List.replicate k [V.str s]).flatten) = _
    rw [flat_rep, List.map_replicate])⟩⟩
/-- a comprehension over texts, its element a text of the text alone -/
theorem ls_map {K : PySem.W.Frag} {te : TE} {j : Nat} {a : Addr} {f : Str → Str} (h : σ[i]? = some (some (.ref a))) (ha : H a = some (.lst (l.map V.str))) (hw : ∀ s, wipe ((wipe σ [j]).set j (some (V.str s))) [j] = wipe σ [j]) (hte : ∀ s ∈ l, PS te ((wipe σ [j]).set j (some (V.str s))) (f s)) (b : l.length ≤ 1000) :
    LS (tLc (iList K (tVar i)) (gName j) tYes te [j]) σ H (l.map f) := ⟨fun Q q => by
  refine ⟨_, h, a, rfl, ⟨_, SqL.of ha⟩, fun D nD => ?_⟩
  refine lc_list (xs := l.map V.str) (fun i G => (∀ q o, q ≠ D → H q = some o → G q = some o) ∧ G D = some (.lst (((l.take i).map f).map V.str)))
    ⟨fun q o n e => by rw [upd_ne n]; exact e, upd_same⟩ (fun i G _ h => SqL.of (h.1 _ _ (ne_of_none ha nD) ha)) ?_ ?_
  · rintro i x G hx ⟨keep, hD⟩
    rw [List.getElem?_map] at hx
    obtain ⟨s, hs, rfl⟩ := Option.map_eq_some_iff.mp hx
    have li : i < l.length := (List.getElem?_eq_some_iff.mp hs).1
    refine ⟨hw s, ?_⟩
    unfold tYes
    refine iteT ((hte s (List.mem_of_getElem? hs)).run _ _ ⟨_, hD, ?_, fun q o n e => by rw [upd_ne n]; exact keep q o n e, ?_⟩)
    · rw [List.length_map, List.length_map, List.length_take]
      exact Nat.lt_of_lt_of_le (show min i l.length < 1001 by omega) (by decide)
    · rw [upd_same, List.take_succ, hs, List.map_append, List.map_append]
      rfl
  · rintro G ⟨keep, hD⟩
    rw [List.length_map, List.take_length] at hD
    exact q D G (fun q o e => keep q o (ne_of_none e nD) e) nD hD⟩
/-- a list in a slot, and what comes behind it -/
theorem ls_set {te : TE} {r : TS} {D : Ends} (h : LS te σ H l) (q : ∀ p H', (∀ q o, H q = some o → H' q = some o) → H p = none → H' p = some (.lst (l.map V.str)) → r D (σ.set i (some (.ref p))) H') : tSeq (tAsg te (gName i)) r D σ H := h.run _ q
theorem ph_c : PH (tC (.str s)) σ H s := ⟨fun Q q => q⟩
theorem ph_v (h : σ[i]? = some (some (.str s))) : PH (tVar i) σ H s := ⟨fun Q q => ⟨_, h, q⟩⟩
theorem ph_add (h : PH te σ H s) (g : PH tf σ H t) (hs : s.length ≤ 1000) (ht : t.length ≤ 1000) : PH (tOp (fun x y H Q => ∃ i j, x = V.str i ∧ y = V.str j ∧ i.length + j.length ≤ sizeLine ∧ Q (V.str (i ++ j)) H) te tf) σ H (s ++ t) := ⟨fun Q q => h.run _ (g.run _ ⟨s, t, rfl, rfl, Nat.le_trans (show _ ≤ 2000 by omega) (by decide), q⟩)⟩
theorem ph_ix {K : PySem.W.Frag} {a : Addr} {j : Nat} (h : σ[i]? = some (some (.ref a))) (ha : H a = some (.lst (l.map V.str))) (e : l[j]? = some s) : PH (tOp (rIxL K) (tVar i) (tC (.int (j : Int)))) σ H s := ⟨fun Q q => ⟨_, h, a, _, _, _, rfl, rfl, SqL.of ha, atI_nat (by rw [List.getElem?_map, e]; rfl), q⟩⟩
theorem phs0 : PHs tNil σ H [] := ⟨fun Q q => q⟩
theorem phs1 (h : PH te σ H s) (g : PHs ta σ H l) : PHs (tCons te ta) σ H (s :: l) := ⟨fun Q q => h.run _ (g.run _ q)⟩
theorem ls_lstH (h : PHs ta σ H l) (b : l.length ≤ 1000) : LS (tLst ta) σ H l := ⟨fun Q q => h.run _ ⟨by rw [List.length_map]; exact Nat.le_trans b (by decide), fun p np => q p _ (new_ok np) np upd_same⟩⟩
end
end Mz
set_option Elab.async false
set_option linter.all false
set_option maxRecDepth 100000
set_option maxHeartbeats 4000000
namespace Mz
open PySem PySem.Spec PyProof.Rows L2
theorem ix_listK {X : Cx} (K : PySem.W.Frag) (hK : X.K = K := by rfl) : IxR X (rIxL K) := by
  subst hK
  exact ix_list
/-- which exception is due -/
def dueS : Ro → Str
  | .hand => "hand"
  | _ => "program"
/-- a list of lines -/
def LinesAt (H : Hp) (a : Addr) (rows : List (List Str)) : Prop := H a = some (.lst ((rows.map lineS).map V.str))
def spFaulty : Sp := fun vs H Q _ => ∃ (b : Addr) (n wy : Nat) (nl ll : Addr) (n0 n1 n2 : Str) (lines : List (List Str)), vs = [.ref b, .int (wy : Int), .ref nl, .ref ll] ∧ Bx H b n ∧ n ≤ 800000 ∧ wy ≤ 6 ∧ H nl = some (.lst (([n0, n1, n2] : List Str).map V.str)) ∧ Rt n0 ∧ Rt n1 ∧ Rt n2 ∧ ([n0, n1, n2] : List Str).Nodup ∧
  LinesAt H ll lines ∧ (∀ r ∈ lines, LnP (baseP n0) r) ∧ lines.length ≤ 3 ∧ ∀ (p cl : Addr) (gs : List (List (List Str))) (o : Ro) (H' : Hp), (o = .hand ∨ o = .program) → GsOk gs → RdS (mkR n0 [] gs) o → Bx H' b (n + 10) → Kp b H H' → H p = none → H cl = none → LinesAt H' cl (crewR gs) → H' p = some (.lst [.ref cl, .str (dueS o)]) → Q (.ref p) H'
theorem l_hand : lineS rH = "hand" := rfl
theorem l_two {w z u : Str} (h : w ++ " " = u) : u ++ z = lineS [w, z] := by
  rw [← h]
  rfl
theorem l_lock {z : Str} : ("lock " : Str) ++ z = lineS (lkR z) := l_two (by decide +kernel)
theorem l_unlock {z : Str} : ("unlock " : Str) ++ z = lineS (ukR z) := l_two (by decide +kernel)
theorem l_cut {z : Str} : ("cut " : Str) ++ z = lineS (cutR z) := l_two (by decide +kernel)
theorem l_read {z : Str} : ("read " : Str) ++ z = lineS (rdR z) := l_two (by decide +kernel)
theorem l_read0 : ("read 0" : Str) = lineS (rdR "0") := by decide +kernel
theorem str_assoc (a b c : Str) : a ++ b ++ c = a ++ (b ++ c) := str_ext (by rw [app_list, app_list, app_list, app_list, List.append_assoc])
theorem l_three {w u z t : Str} (h : w ++ " " = u) : u ++ z ++ " " ++ t = lineS [w, z, t] := by
  rw [← h]
  show w ++ " " ++ z ++ " " ++ t = w ++ " " ++ (z ++ " " ++ t)
  rw [str_assoc (w ++ " ") z, str_assoc (w ++ " ")]
theorem l_sync {z t : Str} : ("sync " : Str) ++ z ++ " " ++ t = lineS ["sync", z, t] := l_three (by decide +kernel)
theorem crew_one {g : List (List Str)} : (crewR [g]).map lineS = (["hand"] : List Str) ++ g.map lineS := by
  show (rH :: g ++ []).map lineS = _
  rw [List.append_nil, List.map_cons, l_hand]
  rfl
section
variable {P : Program} {w : World} {K : PySem.W.Frag} {mg : Str → Option Value} {base : Heap}
abbrev NLf : List Str := ["_law_box_here", "_law_way", "_law_names_here", "_law_lines", "_law_lock", "_law_at", "_law_word_here", "_law_root", "_law_far", "_law_some", "_law_name", "_law_k"]
theorem scFaulty : FnScope NLf ["_law_box_here", "_law_way", "_law_names_here", "_law_lines"] (defScope sFaulty) := ⟨rfl, rfl, rfl, by decide +kernel, rfl, by decide +kernel, by decide +kernel⟩
theorem ok_faulty {f ft fWo : Addr} {fd fdt fdWo : FuncData} (F : Fun K "_law_faulty" "_law_faulty" sFaulty f fd) (B : Blt mg) (T : Tk P w K mg base ft fdt) (GWo : D1 P w K mg base "_law_word" 2 ["_law_box_here"] (spWord K) fWo fdWo) : FnOk P w K mg base CX0 3 f fd ["_law_box_here", "_law_way", "_law_names_here", "_law_lines"] spFaulty := by
  refine F.ok scFaulty (fun vs H Q E h => ?_) (fun cdv A outer s H vs Q E hr h => ?_)
  · obtain ⟨b, n, wy, nl, ll, n0, n1, n2, lines, rfl, _⟩ := h
    rfl
  · obtain ⟨b, n, wy, nl, ll, n0, n1, n2, lines, rfl, hB, hn, hw, hnl, h0, h1, h2, hnd, hll, hl, l3, q⟩ := h
    have nd := scFaulty.nd
    have hr1 : Room 1 _ := hr.mono (by decide)
    have hr2 : Room 2 _ := hr
    refine ⟨_, (pss_cons (ps_set (i := 4) nd rfl (Or.inl rfl) (pe_call GWo.ok hr2 (by rfl) GWo.m GWo.k GWo.b .nil pass0 (pa_cons (pv 0) pa_nil)))
      (pss_cons (ps_set (i := 5) nd rfl (Or.inl rfl) (pe_call T.ok hr1 (by rfl) T.m T.k T.b .nil pass0 (pa_cons (pv 0) (pa_cons (pe_op op_add (pe_callB call_len_seq (by rfl) B.len PySem.boot_len (pa_cons (pv 3) pa_nil)) pe_int) pa_nil))))
      (pss_cons (ps_if (pt_cmpR op_eq (pv 1) pe_int (nomark _)) (pss_cons (ps_set (i := 6) nd rfl (Or.inl rfl) (pe_op op_add_str pe_str (pv 4)))
      (pss_one (ps_ret (pe_lst (pa_cons (pe_op op_cat (pe_op op_cat (pe_op op_cat (pe_op op_cat (pe_lst (pa_cons pe_str pa_nil)) (pe_slice sl_list (pv 3) po_none (po_some (pv 5)))) (pe_lst (pa_cons (pv 6) pa_nil))) (pe_slice sl_list (pv 3) (po_some (pv 5)) po_none)) (pe_lst (pa_cons (pv 6) pa_nil))) (pa_cons pe_str pa_nil)))))) pss_nil)
      (pss_cons (ps_if (pt_cmpR op_eq (pv 1) pe_int (nomark _)) (pss_one (ps_ret (pe_lst (pa_cons (pe_op op_cat (pe_op op_cat (pe_op op_cat (pe_lst (pa_cons pe_str pa_nil)) (pe_slice sl_list (pv 3) po_none (po_some (pv 5)))) (pe_lst (pa_cons (pe_op op_add_str pe_str (pv 4)) pa_nil))) (pe_slice sl_list (pv 3) (po_some (pv 5)) po_none)) (pa_cons pe_str pa_nil))))) pss_nil)
      (pss_cons (ps_if (pt_cmpR op_eq (pv 1) pe_int (nomark _)) (pss_one (ps_ret (pe_lst (pa_cons (pe_op op_cat (pe_op op_cat (pe_lst (pa_cons pe_str (pa_cons pe_str (pa_cons pe_str pa_nil)))) (pv 3)) (pe_op op_rep (pe_lst (pa_cons (pe_op op_add_str pe_str (pe_ix ix_list (pv 2) pe_int (fun _ _ => rfl))) pa_nil)) (pe_op op_sub pe_int (pe_callB call_len_seq (by rfl) B.len PySem.boot_len (pa_cons (pv 3) pa_nil))))) (pa_cons pe_str pa_nil))))) pss_nil)
      (pss_cons (ps_if (pt_cmpR op_eq (pv 1) pe_int (nomark _)) (pss_one (ps_ret (pe_lst (pa_cons (pe_lst pa_nil) (pa_cons pe_str pa_nil))))) pss_nil)
      (pss_cons (ps_if (pt_cmpR op_eq (pv 1) pe_int (nomark _)) (pss_one (ps_ret (pe_lst (pa_cons (pe_op op_cat (pe_op op_cat (pe_lst (pa_cons pe_str pa_nil)) (pv 3)) (pe_lst (pa_cons pe_str (pa_cons pe_str (pa_cons pe_str pa_nil))))) (pa_cons pe_str pa_nil))))) pss_nil)
      (pss_cons (ps_if (pt_cmpR op_eq (pv 1) pe_int (nomark _)) (pss_one (ps_ret (pe_lst (pa_cons (pe_op op_cat (pe_op op_cat (pe_lst (pa_cons pe_str pa_nil)) (pv 3)) (pe_lc (own := [("_law_name", 10)]) (g := gName 10) (tt := tYes) rfl nd (pi_list (pv 2)) (blkOk_by (N := NLf) (sc := defScope sFaulty) (by decide +kernel)) (fun _ _ _ _ _ => (pg_name (i := 10) nd rfl (Or.inl rfl))) (fun _ _ _ _ _ => pts_nil) (fun _ _ _ _ _ => (pe_op op_add_str pe_str (pv 10))))) (pa_cons pe_str pa_nil))))) pss_nil)
      (pss_cons (ps_asg (pe_slice sl_list (pv 2) po_none (po_some pe_int)) (pg_lst (by rfl) (pgs_cons (pg_name (i := 7) nd rfl (Or.inl rfl)) (pgs_cons (pg_name (i := 8) nd rfl (Or.inl rfl)) pgs_nil))))
      (pss_cons (ps_set (i := 9) nd rfl (Or.inr rfl) (pe_lst (pa_cons (pe_op op_add_str (pv 7) pe_str) (pa_cons (pe_op op_add_str (pv 7) pe_str) (pa_cons (pe_op op_add_str (pv 7) pe_str) (pa_cons (pv 7) (pa_cons (pe_op op_add_str (pv 7) pe_str) (pa_cons (pe_op op_add_str (pv 7) pe_str) (pa_cons (pe_op op_add_str (pv 7) pe_str) pa_nil)))))))))
      (pss_cons (ps_set (i := 9) nd rfl (Or.inr rfl) (pe_op op_cat (pe_op op_cat (pv 9) (pe_lst (pa_cons pe_str (pa_cons pe_str (pa_cons pe_str (pa_cons pe_str pa_nil)))))) (pe_lst (pa_cons (pv 8) (pa_cons (pe_op op_add_str (pv 8) pe_str) (pa_cons (pe_op op_add_str (pv 8) pe_str) (pa_cons (pe_op op_add_str (pv 8) pe_str) (pa_cons (pe_op op_add_str (pv 8) pe_str) pa_nil))))))))
      (pss_one (ps_ret (pe_lst (pa_cons (pe_op op_cat (pe_lst (pa_cons pe_str pa_nil)) (pe_lc (own := [("_law_k", 11)]) (g := gName 11) (tt := tYes) rfl nd (pi_range1 rfl B.range (pa_cons pe_int pa_nil)) (blkOk_by (N := NLf) (sc := defScope sFaulty) (by decide +kernel)) (fun _ _ _ _ _ => (pg_name (i := 11) nd rfl (Or.inl rfl))) (fun _ _ _ _ _ => pts_nil) (fun _ _ _ _ _ => (pe_op op_add_str (pe_op op_add_str (pe_op op_add_str pe_str (pe_ix (ix_listK K) (pv 9) (pv 11) (fun _ _ => rfl))) pe_str) (pe_ix (ix_listK K) (pv 9) (pe_op op_add (pv 11) pe_int) (fun _ _ => rfl)))))) (pa_cons pe_str pa_nil)))))))))))))))), ?_⟩
    have sb : 1000 ≤ sizeLine := by decide
    obtain ⟨X1, Y1, W1, hb0, _⟩ := id hB
    have nlb : nl ≠ b := strs_off hB hnl
    have hll2 : H ll = some (.lst ((lines.map lineS).map V.str)) := hll
    have llb : ll ≠ b := strs_off hB hll2
    refine ⟨_, rfl, b, n, rfl, hB, by omega, fun z H1 wz B1 K1 => ?_⟩
    have rz : Rt z := ⟨wz.1, wz.2.2⟩
    have hll1 := K1 _ _ llb hll2
    refine ⟨_, rfl, _, rfl, ll, _, rfl, .inl (SqL.of hll1), ?_⟩
    rw [List.length_map, List.length_map]
    refine ⟨_, _, rfl, rfl, b, _, ((lines.length : Int) + 1), rfl, B1, by omega, by omega, by omega, fun r H2 r0 r1 B2 K2 => ?_⟩
    obtain ⟨at_, rfl⟩ := Int.eq_ofNat_of_zero_le r0
    have hll2 := K2 _ _ llb hll1
    have hnl2 := K2 _ _ nlb (K1 _ _ nlb hnl)
    have K02 : Kp b H H2 := K1.trans K2
    -- what ends here
    have fin : ∀ (gs : List (List (List Str))) (o : Ro) (H3 : Hp) (cl : Addr), (o = .hand ∨ o = .program) → GsOk gs ∧ RdS (mkR n0 [] gs) o → Same H2 H3 → H2 cl = none → H3 cl = some (.lst (((crewR gs).map lineS).map V.str)) → ∀ p, H3 p = none → Q (.ref p) (upd H3 p (.lst [.ref cl, .str (dueS o)])) := by
      intro gs o H3 cl ho ⟨hg, hrd⟩ s3 ncl hcl p np
      have s4 := s3.trans (same_nw (o := .lst [.ref cl, .str (dueS o)]) np)
      have nb : p ≠ b := B2.new (s3.free np)
      have cb : cl ≠ b := B2.new ncl
      refine q p cl gs o _ ho hg hrd ((B2.same s4).more (by omega)) (K02.trans (Kp.same s4)) (K02.free nb (s3.free np)) (K02.free cb ncl) ?_ upd_same
      exact same_nw np _ _ hcl
    have L13 : (lines.map lineS).length ≤ 3 := by rw [List.length_map]; exact l3
    have z10 := rz.2.1
    have n010 := h0.2.1
    have n110 := h1.2.1
    have n210 := h2.2.1
    have u1 : ("lock " : Str).length ≤ 10 := by decide +kernel
    have u2 : ("unlock " : Str).length ≤ 10 := by decide +kernel
    have u3 : ("cut " : Str).length ≤ 10 := by decide +kernel
    have u4 : ("read " : Str).length ≤ 10 := by decide +kernel
    have all10 : ∀ y ∈ ([n0, n1, n2] : List Str), y.length ≤ 10 := by
      intro y hy
      simp only [List.mem_cons, List.not_mem_nil, or_false] at hy
      rcases hy with rfl | rfl | rfl <;> assumption
    have k13 : (13 : Int) - ((((lines.map lineS).map V.str).length : Nat) : Int) = ((13 - lines.length : Nat) : Int) := by
      rw [List.length_map, List.length_map]
      omega
    refine ⟨_, rfl, rfl, _, rfl, ite2 (fun c => ?_) (fun c0 => ?_)⟩
    · clear c
      refine ⟨_, rfl, _, _, rfl, rfl, (by omega), ?_⟩
      refine ret_two (ls_cat (ls_cat (ls_cat (ls_cat (ls_lst (pss1 ps_c pss0) (by simp only [List.length_append, List.length_cons, List.length_nil, List.length_map, List.length_take, List.length_drop, List.length_replicate]; omega)).lo (fun H' k => (ls_upto rfl rfl (k _ _ hll2)).lo) (by simp only [List.length_append, List.length_cons, List.length_nil, List.length_map, List.length_take, List.length_drop, List.length_replicate]; omega)).lo (fun H' k => (ls_lst (pss1 (ps_v rfl) pss0) (by simp only [List.length_append, List.length_cons, List.length_nil, List.length_map, List.length_take, List.length_drop, List.length_replicate]; omega)).lo) (by simp only [List.length_append, List.length_cons, List.length_nil, List.length_map, List.length_take, List.length_drop, List.length_replicate]; omega)).lo (fun H' k => (ls_from rfl rfl (k _ _ hll2)).lo) (by simp only [List.length_append, List.length_cons, List.length_nil, List.length_map, List.length_take, List.length_drop, List.length_replicate]; omega)).lo (fun H' k => (ls_lst (pss1 (ps_v rfl) pss0) (by simp only [List.length_append, List.length_cons, List.length_nil, List.length_map, List.length_take, List.length_drop, List.length_replicate]; omega)).lo) (by simp only [List.length_append, List.length_cons, List.length_nil, List.length_map, List.length_take, List.length_drop, List.length_replicate]; omega)) ?_ (fun cl H3 s3 ncl hcl => fin _ .hand H3 cl (.inl rfl) (way_lock h0 rz hl l3 at_) s3 ncl hcl)
      rw [crew_one, List.map_append, List.map_append, List.map_append, List.map_take, List.map_drop, l_lock]
      simp
    refine ⟨_, rfl, rfl, _, rfl, ite2 (fun c => ?_) (fun c1 => ?_)⟩
    · clear c
      refine ret_two (ls_cat (ls_cat (ls_cat (ls_lst (pss1 ps_c pss0) (by simp only [List.length_append, List.length_cons, List.length_nil, List.length_map, List.length_take, List.length_drop, List.length_replicate]; omega)).lo (fun H' k => (ls_upto rfl rfl (k _ _ hll2)).lo) (by simp only [List.length_append, List.length_cons, List.length_nil, List.length_map, List.length_take, List.length_drop, List.length_replicate]; omega)).lo (fun H' k => (ls_lst (pss1 (ps_add ps_c (ps_v rfl) (by omega)) pss0) (by simp only [List.length_append, List.length_cons, List.length_nil, List.length_map, List.length_take, List.length_drop, List.length_replicate]; omega)).lo) (by simp only [List.length_append, List.length_cons, List.length_nil, List.length_map, List.length_take, List.length_drop, List.length_replicate]; omega)).lo (fun H' k => (ls_from rfl rfl (k _ _ hll2)).lo) (by simp only [List.length_append, List.length_cons, List.length_nil, List.length_map, List.length_take, List.length_drop, List.length_replicate]; omega)) ?_ (fun cl H3 s3 ncl hcl => fin _ .hand H3 cl (.inl rfl) (way_unlock h0 rz hl l3 at_) s3 ncl hcl)
      rw [crew_one, List.map_append, List.map_append, List.map_take, List.map_drop, l_unlock]
      simp
    refine ⟨_, rfl, rfl, _, rfl, ite2 (fun c => ?_) (fun c2 => ?_)⟩
    · clear c
      refine ret_two (ls_cat (ls_cat (ls_lst (pss1 ps_c (pss1 ps_c (pss1 ps_c pss0))) (by simp only [List.length_append, List.length_cons, List.length_nil, List.length_map, List.length_take, List.length_drop, List.length_replicate]; omega)).lo (fun H' k => lo_var rfl (k _ _ hll2)) (by simp only [List.length_append, List.length_cons, List.length_nil, List.length_map, List.length_take, List.length_drop, List.length_replicate]; omega)).lo (fun H' k => (ls_rep (k := 13 - lines.length) (ls_one (s := "cut " ++ n0) fun Q q => ⟨_, rfl, nl, _, _, _, rfl, rfl, SqL.of (k _ _ hnl2), (atI_nat (j := 0) rfl), "cut ", n0, rfl, rfl, (by omega), q⟩) (fun H'' k2 Q q => ⟨_, rfl, ll, _, rfl, .inl (SqL.of (k2 _ _ (k _ _ hll2))), 13, _, rfl, rfl, (by dsimp only; rw [k13]; exact q)⟩) (by omega)).lo) (by simp only [List.length_append, List.length_cons, List.length_nil, List.length_map, List.length_take, List.length_drop, List.length_replicate]; omega)) ?_ (fun cl H3 s3 ncl hcl => fin _ .hand H3 cl (.inl rfl) (way_long h0 hl l3) s3 ncl hcl)
      rw [l_cut, l_read0]
      simp [crewR, l_hand]
    refine ⟨_, rfl, rfl, _, rfl, ite2 (fun c => ?_) (fun c3 => ?_)⟩
    · clear c
      exact ret_two (ls_lst pss0 (Nat.zero_le _)) rfl (fun cl H3 s3 ncl hcl => fin [] .program H3 cl (.inr rfl) (way_none h0) s3 ncl hcl)
    refine ⟨_, rfl, rfl, _, rfl, ite2 (fun c => ?_) (fun c4 => ?_)⟩
    · clear c
      refine ret_two (ls_cat (ls_cat (ls_lst (pss1 ps_c pss0) (by simp only [List.length_append, List.length_cons, List.length_nil, List.length_map, List.length_take, List.length_drop, List.length_replicate]; omega)).lo (fun H' k => lo_var rfl (k _ _ hll2)) (by simp only [List.length_append, List.length_cons, List.length_nil, List.length_map, List.length_take, List.length_drop, List.length_replicate]; omega)).lo (fun H' k => (ls_lst (pss1 ps_c (pss1 ps_c (pss1 ps_c pss0))) (by simp only [List.length_append, List.length_cons, List.length_nil, List.length_map, List.length_take, List.length_drop, List.length_replicate]; omega)).lo) (by simp only [List.length_append, List.length_cons, List.length_nil, List.length_map, List.length_take, List.length_drop, List.length_replicate]; omega)) ?_ (fun cl H3 s3 ncl hcl => fin _ .program H3 cl (.inr rfl) (way_four h0 hl l3) s3 ncl hcl)
      simp [crewR, l_hand]
    refine ⟨_, rfl, rfl, _, rfl, ite2 (fun c => ?_) (fun c5 => ?_)⟩
    · clear c
      refine ret_two (ls_cat (ls_cat (ls_lst (pss1 ps_c pss0) (by simp only [List.length_append, List.length_cons, List.length_nil, List.length_map, List.length_take, List.length_drop, List.length_replicate]; omega)).lo (fun H' k => lo_var rfl (k _ _ hll2)) (by simp only [List.length_append, List.length_cons, List.length_nil, List.length_map, List.length_take, List.length_drop, List.length_replicate]; omega)).lo (fun H' k => (ls_map (f := fun y => "read " ++ y) rfl (k _ _ hnl2) (fun _ => rfl) (fun y hy => ps_add ps_c (ps_v rfl) (Nat.le_trans (Nat.add_le_add u4 (all10 y hy)) (by decide))) (by show 3 ≤ 1000; decide)).lo) (by simp only [List.length_append, List.length_cons, List.length_nil, List.length_map, List.length_take, List.length_drop, List.length_replicate]; omega)) ?_ (fun cl H3 s3 ncl hcl => fin _ .program H3 cl (.inr rfl) (way_three h0 h1 h2 hnd hl l3) s3 ncl hcl)
      rw [crew_one, List.map_append, List.map_map]
      simp [l_read]
    refine ⟨_, rfl, _, rfl, nl, _, rfl, SqL.of hnl2, fun p1 np1 => ?_⟩
    rw [show cutV (([n0, n1, n2] : List Str).map V.str) none (some 2) = _ from cutV_upto _ 2]
    have s3 : Same H2 (upd H2 p1 (.lst (([n0, n1] : List Str).map V.str))) := same_nw np1
    have t3 : upd H2 p1 (.lst (([n0, n1] : List Str).map V.str)) p1 = some (.lst (([n0, n1] : List Str).map V.str)) := upd_same
    rw [show upd H2 p1 (.lst ((([n0, n1, n2] : List Str).map V.str).take 2)) = upd H2 p1 (.lst (([n0, n1] : List Str).map V.str)) from rfl]
    generalize upd H2 p1 (.lst (([n0, n1] : List Str).map V.str)) = H3 at s3 t3
    refine ⟨p1, _, rfl, SqL.of t3, rfl, _, _, rfl, _, _, rfl, rfl, ?_⟩
    have v1 : ("-3" : Str).length ≤ 1000 := by decide +kernel
    have v2 : ("-2" : Str).length ≤ 1000 := by decide +kernel
    have v3 : ("-1" : Str).length ≤ 1000 := by decide +kernel
    have v4 : ("+1" : Str).length ≤ 1000 := by decide +kernel
    have v5 : ("+2" : Str).length ≤ 1000 := by decide +kernel
    have v6 : ("+3" : Str).length ≤ 1000 := by decide +kernel
    have n0k : n0.length ≤ 1000 := Nat.le_trans n010 (by decide)
    have n1k : n1.length ≤ 1000 := Nat.le_trans n110 (by decide)
    dsimp only
    refine ls_set (ls_lst (pss1 (ps_addN (ps_v rfl) ps_c n0k v1) (pss1 (ps_addN (ps_v rfl) ps_c n0k v2) (pss1 (ps_addN (ps_v rfl) ps_c n0k v3) (pss1 (ps_v rfl) (pss1 (ps_addN (ps_v rfl) ps_c n0k v4) (pss1 (ps_addN (ps_v rfl) ps_c n0k v5) (pss1 (ps_addN (ps_v rfl) ps_c n0k v6) pss0))))))) (by show 7 ≤ 1000; decide)) (fun p2 H4 s4 n4 t4 => ?_)
    refine ls_set (ls_cat (ls_cat (lo_var rfl t4) (fun H' k => (ls_lst (pss1 ps_c (pss1 ps_c (pss1 ps_c (pss1 ps_c pss0)))) (by show 4 ≤ 1000; decide)).lo) (by show 7 + 4 ≤ 1000; decide)).lo (fun H' k => (ls_lst (pss1 (ps_v rfl) (pss1 (ps_addN (ps_v rfl) ps_c n1k v4) (pss1 (ps_addN (ps_v rfl) ps_c n1k v3) (pss1 (ps_addN (ps_v rfl) ps_c n1k v5) (pss1 (ps_addN (ps_v rfl) ps_c n1k v2) pss0))))) (by show 5 ≤ 1000; decide)).lo) (by show 11 + 5 ≤ 1000; decide)) (fun p3 H5 s5 n5 t5 => ?_)
    have hsix : H5 p3 = some (.lst ((sixS n0 n1).map V.str)) := t5
    have s25 : Same H2 H5 := s3.trans (Same.trans s4 s5)
    refine ret_two (ls_cat (m := (syncs n0 n1).map lineS) (ls_lst (pss1 ps_c pss0) (by show 1 ≤ 1000; decide)).lo (fun H' k => LS.lo ⟨fun Q q => ?lc⟩) (by show 1 + 8 ≤ 1000; decide)) ?_ (fun cl H6 s6 ncl hcl => fin _ .program H6 cl (.inr rfl) (way_many h0 h1 (fun e => by rw [e] at hnd; simp at hnd)) (s25.trans s6) (s25.free ncl) hcl)
    · have hsx := k _ _ hsix
      have w1 : ("sync " : Str).length ≤ 10 := by decide +kernel
      have w2 : (" " : Str).length ≤ 10 := by decide +kernel
      refine ⟨8, rfl, by decide, by decide, fun D nD => ?_⟩
      have pD : p3 ≠ D := ne_of_none hsx nD
      refine lc_range (lo := 0) (n := 8) (fun i G => (∀ q o, q ≠ D → H' q = some o → G q = some o) ∧ G D = some (.lst ((((syncs n0 n1).take i).map lineS).map V.str)))
        ⟨fun q o n e => by rw [upd_ne n]; exact e, upd_same⟩ ?_ ?_
      · rintro i G hi ⟨keep, hD⟩
        have ei : (0 + (i : Int)) = ((i : Nat) : Int) := by omega
        rw [ei]
        have hsG := keep _ _ pD hsx
        have l16 : (sixS n0 n1).length = 16 := rfl
        have g : ∀ {j : Nat}, j < 16 → ((sixS n0 n1).map V.str)[j]? = some (.str ((sixS n0 n1).getD j "")) := fun {j} hj => by
          rw [List.getElem?_map, List.getD_eq_getElem?_getD, List.getElem?_eq_getElem (show j < (sixS n0 n1).length from hj)]
          rfl
        obtain ⟨_, x1⟩ := six_at h0 h1 (k := i) (by omega)
        obtain ⟨_, x2⟩ := six_at h0 h1 (k := i + 8) (by omega)
        have y1 := x1.1.1
        have y2 := x2.1.1
        have a1 := g (j := i) (by omega)
        have a2 := g (j := i + 8) (by omega)
        have es : (syncs n0 n1)[i]? = some (syncR n0 n1 i) := by
          unfold syncs
          rw [List.getElem?_map, List.getElem?_range hi]
          rfl
        have el : lineS (syncR n0 n1 i) = "sync " ++ (sixS n0 n1).getD i "" ++ " " ++ (sixS n0 n1).getD (i + 8) "" := l_sync.symm
        generalize (sixS n0 n1).getD i "" = u at *
        generalize (sixS n0 n1).getD (i + 8) "" = v at *
        have z1 : ("sync " : Str).length + u.length ≤ sizeLine := by omega
        have z2 : ("sync " ++ u : Str).length + (" " : Str).length ≤ sizeLine := by rw [strLen_append]; omega
        have z3 : ("sync " ++ u ++ " " : Str).length + v.length ≤ sizeLine := by rw [strLen_append, strLen_append]; omega
        refine ⟨rfl, yesT ?_⟩
        refine ⟨_, rfl, _, rfl, p3, _, _, _, rfl, rfl, SqL.of hsG, atI_nat a1, _, _, rfl, rfl, z1, _, _, rfl, rfl, z2, _, rfl, _, rfl, _, _, rfl, rfl, p3, _, _, _, rfl, rfl, SqL.of hsG, (show atI _ (((i + 8 : Nat)) : Int) = _ from atI_nat a2), _, _, rfl, rfl, z3, _, hD, ?_, fun q o n e => by rw [upd_ne n]; exact keep q o n e, ?_⟩
        · rw [List.length_map, List.length_map, List.length_take]
          have : (syncs n0 n1).length = 8 := rfl
          omega
        · rw [upd_same, List.take_succ, es, List.map_append, List.map_append]
          show _ = some (HO.lst (_ ++ [V.str (lineS (syncR n0 n1 i))]))
          rw [el]
      · rintro G ⟨keep, hD⟩
        exact q D G (fun p o e => keep p o (ne_of_none e nD) e) nD hD
    · rw [crew_one]
end
end Mz
set_option Elab.async false
set_option linter.all false
set_option maxRecDepth 100000
set_option maxHeartbeats 4000000
namespace Mz
open PySem PySem.Spec PyProof.Rows L2
theorem flat_self {v : V} (h : flatV v = true) : eqV v v = true := by
  cases v with
  | non => rfl
  | bl b => exact beq_self_eq_true b
  | int i => exact beq_self_eq_true i
  | str s => exact beq_self_eq_true s
  | _ => cases h
theorem lst_same {H : Hp} {a c : Addr} {l : List V} (ha : H a = some (.lst l)) (hc : H c = some (.lst l)) (fl : ∀ v ∈ l, flatV v = true) : DListB DFlatB (.ref a) (.ref c) true H := by
  refine ⟨a, c, _, _, fun _ => true, rfl, rfl, ha, hc, fun _ i x y h1 h2 => ?_, ?_⟩
  · rw [h1] at h2
    cases h2
    have := fl x (List.mem_of_getElem? h1)
    exact ⟨this, this, flat_self this⟩
  · simp
theorem out_flat (o : Ro) : ∀ v ∈ outS o, flatV v = true := by
  cases o <;> intro v hv <;> simp only [outS, List.mem_cons, List.not_mem_nil, or_false] at hv <;> rcases hv with rfl | rfl <;> rfl
/-- lines that can't stand -/
def oddS : List (List Str) := [["look", "", "n"], [""], ["first", "n"], ["page", "32"], ["fact", "at_most", "n"], ["hand", ""]]
theorem odd_words : ∀ r ∈ oddS, wordS r = "" ∨ wordS r = "first" := by decide +kernel
theorem wok_dec {s : Str} (h : ((s.length ≤ 20 ∧ PyData.strOk s = true) ∧ (32 : Nat) ∉ s.cps.toList ∧ (10 : Nat) ∉ s.cps.toList)) : Wok s := h
theorem odd_rows : ∀ r ∈ oddS, RowOk r := by
  have h : ∀ r ∈ oddS, r ≠ [] ∧ r.length ≤ 6 ∧ ∀ s ∈ r, ((s.length ≤ 20 ∧ PyData.strOk s = true) ∧ (32 : Nat) ∉ s.cps.toList ∧ (10 : Nat) ∉ s.cps.toList) := by decide +kernel
  exact h
def oddT : List Str := ["look  n", "", "first n", "page 32", "fact at_most n", "hand "]
theorem odd_lines : oddS.map lineS = oddT := by decide +kernel
def spRight69 : Sp := fun vs H Q _ => ∃ (b : Addr) (n : Nat) (ll : Addr) (rows : List (List Str)), vs = [.ref b, .ref ll] ∧ Bx H b n ∧ n ≤ 900000 ∧ LinesAt H ll rows ∧ AllSt rows ∧ RowsOk rows ∧ rows.length ≤ 30 ∧ ∀ H', Bx H' b (n + 2) → Kp b H H' → Q (.bl true) H'
/-- the text of some lines -/
theorem txt_eq {l : List Str} {rows : List (List Str)} (h : l = rows.map lineS) : Txt.join "\n" l = txtS rows := by
  rw [h, TL.join_eq]
  rfl
theorem join_fits {rows : List (List Str)} (h : RowsOk rows) : ((rows.map lineS).map (·.length)).sum + (rows.map lineS).length * ("\n" : Str).length ≤ 16777216 := by
  have h1 := sum_le (b := 126) (rows.map lineS) fun y hy => by
    obtain ⟨r, hr, rfl⟩ := List.mem_map.mp hy
    exact line_len (h.row r hr)
  have h2 := h.len
  rw [show ("\n" : Str).length = 1 by decide +kernel]
  rw [List.length_map] at *
  omega
section
variable {K : PySem.W.Frag} {te : TE} {σ : L2.St} {H : Hp} {Q : VK} {l : List Str} {rows : List (List Str)} {o : Ro} {t2 : TA} {D : Ends}
/-- a text of lines, read -/
theorem read_call (h : LO te σ H l) (e : l = rows.map lineS) (ok : RowsOk rows) (hrd : RdS rows o) (q : ∀ r H', Same H H' → H' r = some (.lst (outS o)) → Q (.ref r) H') : tCall spLRead [] E0 (tCons (tM1 (rJoin K) (tC (.str "\n")) te) tNil) σ H Q := by
  refine join_ls h (by rw [e]; exact join_fits ok) fun H1 k1 => ?_
  refine ⟨rows, o, ?_, ok, hrd, fun r H' s _ t => q r H' (Same.trans k1 s) t⟩
  show [V.str (Txt.join "\n" l)] = _
  rw [txt_eq e]
/-- .. and told alike with what is due -/
theorem ret_read (h : LO te σ H l) (e : l = rows.map lineS) (ok : RowsOk rows) (hrd : RdS rows o) (h2 : ∀ H' (Q : List V → Hp → Prop), Q (outS o) H' → t2 σ H' Q) (q : ∀ H', Same H H' → D.rt (.bl true) H') :
    tRet (tOp (rEqB (DListB DFlatB)) (tCall spLRead [] E0 (tCons (tM1 (rJoin K) (tC (.str "\n")) te) tNil)) (tLst t2)) D σ H :=
  read_call h e ok hrd fun r H1 s1 t1 => h2 _ _ ⟨by cases o <;> show 2 ≤ sizeLine <;> decide, fun p np => ⟨true, lst_same (same_nw np _ _ t1) upd_same (out_flat o), fun H2 e2 => q H2 (s1.trans (Same.trans (same_nw np) e2))⟩⟩
theorem if_read {u : TS} (h : LO te σ H l) (e : l = rows.map lineS) (ok : RowsOk rows) (hrd : RdS rows o) (h2 : ∀ H' (Q : List V → Hp → Prop), Q (outS o) H' → t2 σ H' Q) (q : ∀ H', Same H H' → D.nx σ H') :
    tIfS (tTest (tOp (rNeB DFlatB) (tCall spLRead [] E0 (tCons (tM1 (rJoin K) (tC (.str "\n")) te) tNil)) (tLst t2))) u tNext D σ H :=
  read_call h e ok hrd fun r H1 s1 t1 => h2 _ _ ⟨by cases o <;> show 2 ≤ sizeLine <;> decide, fun p np => ⟨true, lst_same (same_nw np _ _ t1) upd_same (out_flat o), fun H2 e2 => ⟨_, rfl, iteF (q H2 (s1.trans (Same.trans (same_nw np) e2)))⟩⟩⟩
theorem seq_read {u R : TS} (h : LO te σ H l) (e : l = rows.map lineS) (ok : RowsOk rows) (hrd : RdS rows o) (h2 : ∀ H' (Q : List V → Hp → Prop), Q (outS o) H' → t2 σ H' Q) (q : ∀ H', Same H H' → R D σ H') :
    tSeq (tIfS (tTest (tOp (rNeB DFlatB) (tCall spLRead [] E0 (tCons (tM1 (rJoin K) (tC (.str "\n")) te) tNil)) (tLst t2))) u tNext) R D σ H :=
  if_read (D := { D with nx := R D }) h e ok hrd h2 q
end
section
variable {P : Program} {w : World} {K : PySem.W.Frag} {mg : Str → Option Value} {base : Heap}
theorem scRight : FnScope ["_law_box_here", "_law_lines", "_law_at", "_law_odd"] ["_law_box_here", "_law_lines"] (defScope sLineRight) := ⟨rfl, rfl, rfl, by decide +kernel, rfl, by decide +kernel, by decide +kernel⟩
theorem ok_right {f ft fR : Addr} {fd fdt fdR : FuncData} (F : Fun K "_law_line_right" "_law_line_right" sLineRight f fd) (B : Blt mg) (T : Tk P w K mg base ft fdt) (GR : D1 P w K mg base "_law_read" 13 ["_law_text"] spLRead fR fdR) : FnOk P w K mg base CX0 14 f fd ["_law_box_here", "_law_lines"] spRight69 := by
  refine F.ok scRight (fun vs H Q E h => ?_) (fun cdv A outer s H vs Q E hr h => ?_)
  · obtain ⟨b, n, ll, rows, rfl, _⟩ := h
    rfl
  · obtain ⟨b, n, ll, rows, rfl, hB, hn, hll, hst, ok, l30, q⟩ := h
    have nd := scRight.nd
    have hr1 : Room 1 _ := hr.mono (by decide)
    have hr13 : Room 13 _ := hr
    refine ⟨_, (pss_cons (ps_set (i := 2) nd rfl (Or.inl rfl) (pe_op op_add pe_int (pe_call T.ok hr1 (by rfl) T.m T.k T.b .nil pass0 (pa_cons (pv 0) (pa_cons (pe_callB call_len_seq (by rfl) B.len PySem.boot_len (pa_cons (pv 1) pa_nil)) pa_nil)))))
      (pss_cons (ps_set (i := 3) nd rfl (Or.inl rfl) (pe_ix ix_list (pe_lst (pa_cons pe_str (pa_cons pe_str (pa_cons pe_str (pa_cons pe_str (pa_cons pe_str (pa_cons pe_str pa_nil))))))) (pe_call T.ok hr1 (by rfl) T.m T.k T.b .nil pass0 (pa_cons (pv 0) (pa_cons pe_int pa_nil))) (fun _ _ => rfl)))
      (pss_one (ps_ret (pe_cmpR (op_eqB (rcB_list monB_flat eqB_flat) hr1) (pe_call GR.ok hr13 (by rfl) GR.m GR.k GR.b .nil pass0 (pa_cons (pe_join pe_str (pe_op op_cat (pe_op op_cat (pe_slice sl_list (pv 1) po_none (po_some (pv 2))) (pe_lst (pa_cons (pv 3) pa_nil))) (pe_slice sl_list (pv 1) (po_some (pv 2)) po_none))) pa_nil)) (pe_lst (pa_cons pe_str (pa_cons (pv 2) pa_nil))) (nomark _)))))), ?_⟩
    have sb : 1000 ≤ sizeLine := by decide
    have llb : ll ≠ b := strs_off hB hll
    have l1 : 1 ≤ rows.length := List.length_pos_iff.mpr ok.ne
    refine ⟨_, rfl, _, rfl, ll, _, rfl, .inl (SqL.of hll), ?_⟩
    rw [List.length_map, List.length_map]
    refine ⟨b, n, (rows.length : Int), rfl, hB, by omega, by omega, by omega, fun r H1 r0 r1 B1 K1 => ?_⟩
    obtain ⟨k0, rfl⟩ := Int.eq_ofNat_of_zero_le r0
    refine ⟨_, _, rfl, rfl, ?_⟩
    have k1 : (1 + (k0 : Int)) = ((k0 + 1 : Nat) : Int) := by omega
    dsimp only
    rw [k1]
    have hll1 : H1 ll = some (.lst ((rows.map lineS).map V.str)) := K1 _ _ llb hll
    refine ⟨(by show 6 ≤ sizeLine; omega), fun p1 np1 => ?_⟩
    rw [show upd H1 p1 (.lst [.str "look  n", .str "", .str "first n", .str "page 32", .str "fact at_most n", .str "hand "]) = upd H1 p1 (.lst (oddT.map V.str)) from rfl]
    have s2 : Same H1 (upd H1 p1 (.lst (oddT.map V.str))) := same_nw np1
    have t2 : upd H1 p1 (.lst (oddT.map V.str)) p1 = some (.lst (oddT.map V.str)) := upd_same
    generalize upd H1 p1 (.lst (oddT.map V.str)) = H2 at s2 t2
    have B2 := B1.same s2
    refine ⟨_, rfl, b, _, 6, rfl, B2, by omega, by decide, by decide, fun r H3 r20 r21 B3 K3 => ?_⟩
    obtain ⟨k2, rfl⟩ := Int.eq_ofNat_of_zero_le r20
    have p1b : p1 ≠ b := B1.new np1
    have t3 := K3 _ _ p1b t2
    have lo : oddS.length = 6 := rfl
    have eo : oddS[k2]? = some (oddS[k2]'(by omega)) := List.getElem?_eq_getElem _
    generalize oddS[k2]'(by omega) = odd at eo
    have ho := List.mem_of_getElem? eo
    have et : oddT[k2]? = some (lineS odd) := by
      rw [← odd_lines, List.getElem?_map, eo]
      rfl
    refine ⟨p1, _, _, _, rfl, rfl, SqL.of t3, (atI_nat (xs := oddT.map V.str) (j := k2) (by rw [List.getElem?_map, et]; rfl)), ?_⟩
    have hll3 : H3 ll = some (.lst ((rows.map lineS).map V.str)) := K3 _ _ llb (s2 _ _ hll1)
    have la : (rows.take (k0 + 1)).length = k0 + 1 := by
      rw [List.length_take]
      omega
    have hst2 : AllSt (rows.take (k0 + 1) ++ rows.drop (k0 + 1)) := by
      rw [List.take_append_drop]
      exact hst
    have hrd := bad_line (odd := odd) hst2 (fun e => by rw [e] at la; cases la) (odd_words odd ho)
    rw [la] at hrd
    have ok2 : RowsOk (rows.take (k0 + 1) ++ (odd :: rows.drop (k0 + 1))) := by
      refine ⟨by simp, ?_, fun r hr => ?_⟩
      · rw [List.length_append, List.length_cons, la, List.length_drop]
        omega
      · rcases List.mem_append.mp hr with hr | hr
        · exact ok.row r (List.mem_of_mem_take hr)
        · rcases List.mem_cons.mp hr with rfl | hr
          · exact odd_rows _ ho
          · exact ok.row r (List.mem_of_mem_drop hr)
    have L30 : (rows.map lineS).length ≤ 30 := by rw [List.length_map]; exact l30
    refine ret_read (ls_cat (ls_cat (ls_upto rfl rfl hll3).lo (fun H' k => (ls_lst (pss1 (ps_v rfl) pss0) (by show 1 ≤ 1000; decide)).lo) (by rw [List.length_take]; show _ + 1 ≤ 1000; omega)).lo (fun H' k => (ls_from rfl rfl (k _ _ hll3)).lo) (by rw [List.length_append, List.length_take, List.length_drop]; show _ + 1 + _ ≤ 1000; omega)).lo ?_ ok2 hrd (fun H' Q q => ⟨_, rfl, q⟩) fun H' s' => ?_
    · rw [List.map_append, List.map_cons, List.map_take, List.map_drop]
      simp
    · exact q H' (B3.same s') (K1.trans (Kp.trans (Kp.same s2) (K3.trans (Kp.same s'))))
end
end Mz
set_option Elab.async false
set_option linter.all false
set_option maxRecDepth 100000
set_option maxHeartbeats 8000000
namespace Mz
open PySem PySem.Spec PyProof.Rows L2
def spLaw (K : PySem.W.Frag) : Sp := fun vs H Q _ => ∃ (a : Addr) (ns : List Int), vs = [.ref a] ∧ SqL K H a (ns.map V.int) ∧ ns.length ≤ 63 ∧ ∀ H', Q (.bl true) H'
/-- kinds that are no program -/
structure NoGs (K : PySem.W.Frag) (G : Addr) : Prop where
  n : PySem.W.kitOne K (.type "NoneType") (.ref G) = some false
  i : PySem.W.kitOne K (.type "int") (.ref G) = some false
  s : PySem.W.kitOne K (.type "str") (.ref G) = some false
  l : PySem.W.kitOne K (.type "list") (.ref G) = some false
  d : PySem.W.kitOne K (.type "dict") (.ref G) = some false
theorem l_first {z : Str} : ("first " : Str) ++ z = lineS (rF z) := l_two (by decide +kernel)
theorem l_five {n0 : Str} : (["cut 1", "look " ++ n0, "test " ++ n0 ++ "+1", "sync 1 2"] : List Str) ++ [("write 0 " : Str) ++ n0 ++ " q"] = (fiveS n0).map lineS := by
  have e1 : ("cut 1" : Str) = lineS ["cut", "1"] := by decide +kernel
  have e2 : ("look " : Str) ++ n0 = lineS ["look", n0] := l_two (by decide +kernel)
  have e3 : ("test " : Str) ++ n0 ++ "+1" = lineS ["test", n0 ++ "+1"] := by
    rw [str_assoc]
    exact l_two (by decide +kernel)
  have e4 : ("sync 1 2" : Str) = lineS ["sync", "1", "2"] := by decide +kernel
  have e5 : ("write 0 " : Str) ++ n0 ++ " q" = lineS ["write", "0", n0, "q"] := by
    show _ = ("write" : Str) ++ " " ++ (("0" : Str) ++ " " ++ (n0 ++ " " ++ "q"))
    refine str_ext ?_
    rw [app_list, app_list, app_list, app_list, app_list, app_list, app_list, app_list]
    rw [show ("write 0 " : Str).cps.toList = ("write" : Str).cps.toList ++ (" " : Str).cps.toList ++ ("0" : Str).cps.toList ++ (" " : Str).cps.toList by decide +kernel, show (" q" : Str).cps.toList = (" " : Str).cps.toList ++ ("q" : Str).cps.toList by decide +kernel]
    simp only [List.append_assoc]
  rw [e1, e2, e3, e4, e5]
  rfl
theorem crew_lines {g : List (List Str)} : (crewR [g]).map lineS = (["hand"] : List Str) ++ g.map lineS := crew_one
theorem mk_lines {n0 : Str} {ms : List (List Str)} {gs : List (List (List Str))} : (mkR n0 ms gs).map lineS = ["first " ++ n0] ++ (ms.map lineS ++ (crewR gs).map lineS) := by
  unfold mkR
  rw [List.map_cons, List.map_append, l_first]
  rfl
theorem l_facts {n0 n1 n2 : Str} : (factsR n0 n1 n2).map lineS = [("fact at_most " : Str) ++ n0 ++ " " ++ n1, ("fact page " : Str) ++ n2] := by
  have e1 : ("fact at_most " : Str) ++ n0 ++ " " ++ n1 = lineS ["fact", "at_most", n0, n1] := by
    show _ = ("fact" : Str) ++ " " ++ (("at_most" : Str) ++ " " ++ (n0 ++ " " ++ n1))
    refine str_ext ?_
    rw [app_list, app_list, app_list, app_list, app_list, app_list, app_list, app_list, app_list]
    rw [show ("fact at_most " : Str).cps.toList = ("fact" : Str).cps.toList ++ (" " : Str).cps.toList ++ ("at_most" : Str).cps.toList ++ (" " : Str).cps.toList by decide +kernel]
    simp only [List.append_assoc]
  have e2 : ("fact page " : Str) ++ n2 = lineS ["fact", "page", n2] := by
    show _ = ("fact" : Str) ++ " " ++ (("page" : Str) ++ " " ++ n2)
    refine str_ext ?_
    rw [app_list, app_list, app_list, app_list, app_list]
    rw [show ("fact page " : Str).cps.toList = ("fact" : Str).cps.toList ++ (" " : Str).cps.toList ++ ("page" : Str).cps.toList ++ (" " : Str).cps.toList by decide +kernel]
    simp only [List.append_assoc]
  rw [e1, e2]
  rfl
theorem l_page {t : Str} : ("page " : Str) ++ t = lineS ["page", t] := l_two (by decide +kernel)
theorem Bx.set {H : Hp} {b p : Addr} {n : Nat} {o : HO} (h : Bx H b n) (ne : p ≠ b) : Bx (L2.upd H p o) b n := by
  obtain ⟨x, y, z, e, h⟩ := h
  exact ⟨x, y, z, by rw [upd_ne ne.symm]; exact e, h⟩
theorem pages_wok : ∀ s ∈ pagesS, (s.length ≤ 20 ∧ PyData.strOk s = true) ∧ (32 : Nat) ∉ s.cps.toList ∧ (10 : Nat) ∉ s.cps.toList := by decide +kernel
theorem page_row {i : Nat} (hi : i < 31) : RowOk ["page", Str.ofString (toString (1 + (i : Int)))] := ok_two (wok_lit (by decide +kernel)) (pages_wok _ (List.mem_map.mpr ⟨i, List.mem_range.mpr hi, rfl⟩))
theorem due_out {o : Ro} (h : o = .hand ∨ o = .program) : outS o = [.str (dueS o), .bl true] := by
  rcases h with rfl | rfl <;> rfl
section
variable {P : Program} {w : World} {K : PySem.W.Frag} {mg : Str → Option Value} {base : Heap} {G : Addr} {H : Hp} {e1 e2 : Addr}
/-- a thing that is no program, and how it is shown -/
theorem thing (N : NoGs K G) (h1 : H e1 = some (.lst [])) (h2 : H e2 = some (.dK [])) : ∀ v ∈ [V.non, .int 5, .str "first 0", .ref e1, .ref e2], ∃ t, (∃ ty, TyX K H v ty ∧ PySem.W.kitOne K ty (.ref G) = some false) ∧ Shd P w K mg base H v t := by
  have le : ∀ {n : Nat}, n ≤ 1000 → n ≤ sizeLine := fun h => Nat.le_trans h (by decide)
  intro v hv
  simp only [List.mem_cons, List.not_mem_nil, or_false] at hv
  rcases hv with rfl | rfl | rfl | rfl | rfl
  · exact ⟨_, ⟨_, .base .non, N.n⟩, shd_data (fun G _ => .non) (by decide +kernel) (by decide +kernel) (by decide +kernel) (le (by simp only [PyData.shown]; decide +kernel))⟩
  · exact ⟨_, ⟨_, .base (.int 5), N.i⟩, shd_data (fun G _ => .int 5) (by decide +kernel) (by decide +kernel) (by decide +kernel) (le (by simp only [PyData.shown]; decide +kernel))⟩
  · exact ⟨_, ⟨_, .base (.str _), N.s⟩, shd_data (fun G _ => .str _) (by decide +kernel) (by decide +kernel) (by decide +kernel) (le (by simp only [PyData.shown]; decide +kernel))⟩
  · exact ⟨_, ⟨_, .base (.lst h1), N.l⟩, shd_empty h1⟩
  · exact ⟨_, ⟨_, .base (.dK h2), N.d⟩, shd_dict h2 (fun kv m => nomatch m) (le (by decide +kernel))⟩
end
section
variable {P : Program} {w : World} {K : PySem.W.Frag} {mg : Str → Option Value} {base : Heap}
abbrev NLw : List Str := ["_law_script", "_law_k", "_law_box_here", "_law_names_here", "_law_some", "_law_lines", "_law_head", "_law_facts_lines", "_law_way", "_law_crews", "_law_due", "_law_sheet", "_law_thing", "_law_turn"]
theorem scLaw : FnScope NLw ["_law_script"] (defScope sLaw) := ⟨rfl, rfl, rfl, by decide +kernel, rfl, by decide +kernel, by decide +kernel⟩
theorem ok_law {f_ ft fC fB fN fF fR fRi fTo G : Addr} {fd fdt fdC fdB fdN fdF fdR fdRi fdTo : FuncData}
    (F0 : Fun K "law" "law" sLaw f_ fd) (B : Blt mg) (D : Blp mg) (mR : mg "repr" = none) (T : Tk P w K mg base ft fdt) (GC : D1 P w K mg base "_law_cell" 1 ["_law_script", "_law_k"] (spCell K) fC fdC) (GB : D1 P w K mg base "_law_box" 1 ["_law_cell_here"] spBox fB fdB)
    (GN : D1 P w K mg base "_law_names" 3 ["_law_box_here", "_law_many"] spNames fN fdN) (GF : D1 P w K mg base "_law_faulty" 3 ["_law_box_here", "_law_way", "_law_names_here", "_law_lines"] spFaulty fF fdF)
    (GR : D1 P w K mg base "_law_read" 13 ["_law_text"] spLRead fR fdR) (GRi : D1 P w K mg base "_law_line_right" 14 ["_law_box_here", "_law_lines"] spRight69 fRi fdRi)
    (GTo : FnG P w K mg base CX0 6 fTo fdTo ["_law_thing"] (spTold69 P w K mg base G)) (mTo : mg "_law_told" = some (.ref fTo)) (kTo : PySem.W.keepIn K (.ref fTo) = true) (bTo : Binds K fdTo ["_law_thing"] []) (NG : NoGs K G) :
    FnG P w K mg base CX0 15 f_ fd ["_law_script"] (spLaw K) := by
  refine fun_okG F0 scLaw (fun vs H Q E h => ?_) (fun cdv A outer s H vs Q E hg0 hr h => ?_)
  · obtain ⟨a, ns, rfl, _⟩ := h
    rfl
  · obtain ⟨a, ns, rfl, hS, hlen, q⟩ := h
    have nd := scLaw.nd
    have hg := quiet_deeper (env := envOfC "law" (defScope sLaw) s.heap.objs.size f_ cdv) hg0
    have hr1 : Room 1 _ := hr.mono (by decide)
    have hr3 : Room 3 _ := hr.mono (by decide)
    have hr5 : Room 5 _ := hr.mono (by decide)
    have hr6 : Room 6 _ := hr.mono (by decide)
    have hr13 : Room 13 _ := hr.mono (by decide)
    have hr14 : Room 14 _ := hr
    refine ⟨_, (pss_cons (ps_for PassesOwn.never rfl (pi_range1 rfl B.range (pa_cons (pe_callB (call_max2 rfl) (by rfl) B.max (by decide +kernel) (pa_cons pe_int (pa_cons (pe_callB (call_min2 rfl) (by rfl) B.min (by decide +kernel) (pa_cons pe_int (pa_cons (pe_callB call_len_seq (by rfl) B.len PySem.boot_len (pa_cons (pv 0) pa_nil)) pa_nil))) pa_nil))) pa_nil)) (pg_name (i := 1) nd rfl (Or.inl rfl)) (pss_cons (ps_set (i := 2) nd rfl (Or.inr rfl) (pe_call GB.ok hr1 (by rfl) GB.m GB.k GB.b .nil pass0 (pa_cons (pe_call GC.ok hr1 (by rfl) GC.m GC.k GC.b .nil pass0 (pa_cons (pv 0) (pa_cons (pv 1) pa_nil))) pa_nil)))
      (pss_cons (ps_set (i := 3) nd rfl (Or.inl rfl) (pe_call GN.ok hr3 (by rfl) GN.m GN.k GN.b .nil pass0 (pa_cons (pv 2) (pa_cons pe_int pa_nil))))
      (pss_cons (ps_set (i := 4) nd rfl (Or.inr rfl) (pe_lst (pa_cons pe_str (pa_cons (pe_op op_add_str pe_str (pe_ix ix_list (pv 3) pe_int (fun _ _ => rfl))) (pa_cons (pe_op op_add_str (pe_op op_add_str pe_str (pe_ix ix_list (pv 3) pe_int (fun _ _ => rfl))) pe_str) (pa_cons pe_str pa_nil))))))
      (pss_cons (ps_expr (pe_bm PySem.F.plainAttrs_list PySem.F.slot_list_append PySem.F.type_list_append mt_append (pv 4) (pa_cons (pe_op op_add_str (pe_op op_add_str pe_str (pe_ix ix_list (pv 3) pe_int (fun _ _ => rfl))) pe_str) pa_nil)))
      (pss_cons (ps_setLc (i := 5) (own := [("_law_turn", 13)]) (g := gName 13) (tt := tYes) rfl nd rfl rfl (sw_true rfl rfl rfl (by decide +kernel)) (pi_range1 rfl B.range (pa_cons (pe_call T.ok hr1 (by rfl) T.m T.k T.b .nil pass0 (pa_cons (pv 2) (pa_cons pe_int pa_nil))) pa_nil)) (blkOk_by (N := NLw) (sc := defScope sLaw) (by decide +kernel)) (fun _ _ _ _ _ => (pg_name (i := 13) nd rfl (Or.inl rfl))) (fun _ _ _ _ _ => pts_nil) (fun _ _ _ _ _ => (pe_ix (ix_listK K) (pv 4) (pe_call T.ok hr1 (by rfl) T.m T.k T.b .nil pass0 (pa_cons (pv 2) (pa_cons pe_int pa_nil))) (fun _ _ => rfl))))
      (pss_cons (ps_set (i := 6) nd rfl (Or.inl rfl) (pe_lst (pa_cons (pe_op op_add_str pe_str (pe_ix ix_list (pv 3) pe_int (fun _ _ => rfl))) pa_nil)))
      (pss_cons (ps_if (pt_cmpR (op_neB monB_flat eqB_flat hr1) (pe_call GR.ok hr13 (by rfl) GR.m GR.k GR.b .nil pass0 (pa_cons (pe_join pe_str (pe_op op_cat (pe_op op_cat (pv 6) (pe_lst (pa_cons pe_str pa_nil))) (pv 5))) pa_nil)) (pe_lst (pa_cons pe_str (pa_cons pe_bl pa_nil))) (nomark _)) (pss_one (ps_ret pe_bl)) pss_nil)
      (pss_cons (ps_set (i := 7) nd rfl (Or.inl rfl) (pe_lst (pa_cons (pe_op op_add_str (pe_op op_add_str (pe_op op_add_str pe_str (pe_ix ix_list (pv 3) pe_int (fun _ _ => rfl))) pe_str) (pe_ix ix_list (pv 3) pe_int (fun _ _ => rfl))) (pa_cons (pe_op op_add_str pe_str (pe_ix ix_list (pv 3) pe_int (fun _ _ => rfl))) pa_nil))))
      (pss_cons (ps_for PassesOwn.never rfl (pi_range1 rfl B.range (pa_cons pe_int pa_nil)) (pg_name (i := 8) nd rfl (Or.inl rfl)) (pss_cons (ps_asg (pe_call GF.ok hr3 (by rfl) GF.m GF.k GF.b .nil pass0 (pa_cons (pv 2) (pa_cons (pv 8) (pa_cons (pv 3) (pa_cons (pv 5) pa_nil))))) (pg_lst (by rfl) (pgs_cons (pg_name (i := 9) nd rfl (Or.inl rfl)) (pgs_cons (pg_name (i := 10) nd rfl (Or.inl rfl)) pgs_nil))))
      (pss_cons (ps_if (pt_cmpR (op_neB monB_flat eqB_flat hr1) (pe_call GR.ok hr13 (by rfl) GR.m GR.k GR.b .nil pass0 (pa_cons (pe_join pe_str (pe_op op_cat (pv 6) (pv 9))) pa_nil)) (pe_lst (pa_cons (pv 10) (pa_cons pe_bl pa_nil))) (nomark _)) (pss_one (ps_ret pe_bl)) pss_nil)
      (pss_cons (ps_if (pt_not (pt_val (pe_call GRi.ok hr14 (by rfl) GRi.m GRi.k GRi.b .nil pass0 (pa_cons (pv 2) (pa_cons (pe_op op_cat (pe_op op_cat (pv 6) (pe_slice sl_list (pv 7) po_none (po_some (pe_call T.ok hr1 (by rfl) T.m T.k T.b .nil pass0 (pa_cons (pv 2) (pa_cons pe_int pa_nil)))))) (pv 9)) pa_nil))))) (pss_one (ps_ret pe_bl)) pss_nil)
      (pss_one (ps_if (pt_cmpR (op_neB monB_flat eqB_flat hr1) (pe_call GR.ok hr13 (by rfl) GR.m GR.k GR.b .nil pass0 (pa_cons (pe_join pe_str (pe_op op_cat (pe_op op_cat (pv 6) (pv 7)) (pv 9))) pa_nil)) (pe_lst (pa_cons pe_str (pa_cons pe_bl pa_nil))) (nomark _)) (pss_one (ps_ret pe_bl)) pss_nil))))))
      (pss_cons (ps_set (i := 11) nd rfl (Or.inl rfl) (pe_op op_cat (pe_lst (pa_cons (pe_op op_add_str pe_str (pe_callTy call_str_int (by rfl) D.str (by decide +kernel) (pa_cons (pe_op op_add pe_int (pe_call T.ok hr1 (by rfl) T.m T.k T.b .nil pass0 (pa_cons (pv 2) (pa_cons pe_int pa_nil)))) pa_nil))) (pa_cons pe_str pa_nil))) (pv 5)))
      (pss_cons (ps_if (pt_cmpR (op_neB monB_flat eqB_flat hr1) (pe_call GR.ok hr13 (by rfl) GR.m GR.k GR.b .nil pass0 (pa_cons (pe_join pe_str (pe_op op_cat (pe_op op_cat (pv 6) (pv 11)) (pe_lst (pa_cons (pe_op op_add_str pe_str (pe_ix ix_list (pv 3) pe_int (fun _ _ => rfl))) pa_nil)))) pa_nil)) (pe_lst (pa_cons pe_str (pa_cons pe_bl pa_nil))) (nomark _)) (pss_one (ps_ret pe_bl)) pss_nil)
      (pss_cons (ps_if (pt_cmpR (op_neB monB_flat eqB_flat hr1) (pe_call GR.ok hr13 (by rfl) GR.m GR.k GR.b .nil pass0 (pa_cons (pe_join pe_str (pe_op op_cat (pv 6) (pv 11))) pa_nil)) (pe_lst (pa_cons pe_str (pa_cons pe_bl pa_nil))) (nomark _)) (pss_one (ps_ret pe_bl)) pss_nil)
      (pss_cons (ps_set (i := 12) nd rfl (Or.inl rfl) (pe_ix ix_list (pe_lst (pa_cons pe_non (pa_cons pe_int (pa_cons pe_str (pa_cons (pe_lst pa_nil) (pa_cons pe_dnewK pa_nil)))))) (pe_call T.ok hr1 (by rfl) T.m T.k T.b .nil pass0 (pa_cons (pv 2) (pa_cons pe_int pa_nil))) (fun _ _ => rfl)))
      (pss_one (ps_if (pt_cmpR (op_neB monB_flat eqB_flat hr1) (pe_callG GTo hg hr6 (by rfl) mTo kTo bTo .nil pass0 (pa_cons (pv 12) pa_nil)) (pe_lst (pa_cons pe_str (pa_cons (pe_callB (call_shd (P := P) (w := w) (K := K) (mg := mg) (base := base) ⟨rfl, rfl, rfl, rfl, rfl⟩ hg hr5) (by rfl) mR (by decide +kernel) (pa_cons (pv 12) pa_nil)) pa_nil))) (nomark _)) (pss_one (ps_ret pe_bl)) pss_nil))))))))))))))))
      (pss_one (ps_ret pe_bl))), ?_⟩
    have sb : 1000 ≤ sizeLine := by decide
    refine ⟨_, rfl, a, _, rfl, .inl hS, _, _, rfl, _, _, rfl, ?_⟩
    generalize hm : (if (if (((ns.map V.int).length : Nat) : Int) < 6 then (((ns.map V.int).length : Nat) : Int) else 6) > 2 then (if (((ns.map V.int).length : Nat) : Int) < 6 then (((ns.map V.int).length : Nat) : Int) else 6) else 2) = m
    have m0 : 2 ≤ m ∧ m ≤ 6 := by
      rw [← hm]
      split <;> split <;> omega
    refine ⟨m, rfl, by omega, by omega, for_range (lo := 0) (n := m.toNat) (fun _ σ H' => ∃ v1 v2 v3 v4 v5 v6 v7 v8 v9 v10 v11 v12 v13 : Option V, σ = [some (.ref a), v1, v2, v3, v4, v5, v6, v7, v8, v9, v10, v11, v12, v13] ∧ Same H H')
      ⟨_, _, _, _, _, _, _, _, _, _, _, _, _, rfl, Same.refl H⟩ ?_ fun σ H' _ => q H'⟩
    rintro i σ H0 hi ⟨v1, v2, v3, v4, v5, v6, v7, v8, v9, v10, v11, v12, v13, rfl, s0⟩
    generalize hD : ({ nx := _, rt := _, bk := _, ct := _ } : Ends) = DD
    have dnx : ∀ σ' H', (∃ v1 v2 v3 v4 v5 v6 v7 v8 v9 v10 v11 v12 v13 : Option V, σ' = [some (V.ref a), v1, v2, v3, v4, v5, v6, v7, v8, v9, v10, v11, v12, v13] ∧ Same H H') → DD.nx σ' H' := fun σ' H' h => by
      rw [← hD]
      exact h
    clear hD
    have ei : (0 + (i : Int)) = ((i : Nat) : Int) := by omega
    rw [ei]
    refine ⟨_, rfl, _, rfl, a, ns, i, rfl, sqL_keep hS s0, by omega, fun c => ?_⟩
    refine ⟨c, rfl, fun b H1 nb B1 K1 => ?_⟩
    have s1 : Same H0 H1 := fun p o e => K1 _ _ (ne_of_none e nb) e
    refine ⟨_, rfl, b, 0, 3, rfl, B1, by omega, by omega, fun nl zs H2 lz nz hz B2 K2 nnl tnl => ?_⟩
    obtain ⟨n0, n1, n2, rfl⟩ : ∃ n0 n1 n2, zs = [n0, n1, n2] := by
      match zs, lz with
      | [x, y, z], _ => exact ⟨x, y, z, rfl⟩
    have h0 : Rt n0 := hz n0 (by simp)
    have h1 : Rt n1 := hz n1 (by simp)
    have h2 : Rt n2 := hz n2 (by simp)
    have n01 : n0 ≠ n1 := fun e => by
      rw [e] at nz
      simp at nz
    have k0 : n0.length ≤ 1000 := Nat.le_trans h0.2.1 (by decide)
    have k1 : n1.length ≤ 1000 := Nat.le_trans h1.2.1 (by decide)
    have k2 : n2.length ≤ 1000 := Nat.le_trans h2.2.1 (by decide)
    have nlb : nl ≠ b := strs_off B2 tnl
    -- the five lines
    refine ls_set (ls_lstH (phs1 ph_c (phs1 (ph_add ph_c (ph_ix (j := 0) rfl tnl rfl) (by decide +kernel) k0) (phs1 (ph_add (ph_add ph_c (ph_ix (j := 0) rfl tnl rfl) (by decide +kernel) k0) ph_c (by rw [strLen_append]; exact Nat.le_trans (Nat.add_le_add (show ("test " : Str).length ≤ 10 by decide +kernel) h0.2.1) (by decide)) (by decide +kernel)) (phs1 ph_c phs0)))) (by show 4 ≤ 1000; decide)) (fun sl H3 s3 nsl tsl => ?_)
    refine ⟨_, rfl, .inl ⟨rfl, _, SqL.of tsl⟩, ?_⟩
    have tnl3 := s3 _ _ tnl
    refine PH.run (ph_add (ph_add ph_c (ph_ix (j := 0) rfl tnl3 rfl) (by decide +kernel) k0) ph_c (by rw [strLen_append]; exact Nat.le_trans (Nat.add_le_add (show ("write 0 " : Str).length ≤ 10 by decide +kernel) h0.2.1) (by decide)) (by decide +kernel)) _ ⟨sl, _, _, rfl, rfl, tsl, by show 4 < sizeLine; omega, ?_⟩
    have B3 := B2.same s3
    have slb : sl ≠ b := strs_off B3 tsl
    have e5 : ((["cut 1", "look " ++ n0, "test " ++ n0 ++ "+1", "sync 1 2"] : List Str).map V.str ++ [V.str (("write 0 " : Str) ++ n0 ++ " q")]) = ((fiveS n0).map lineS).map V.str := by
      rw [← l_five, List.map_append]
      rfl
    rw [e5]
    have B4 : Bx (upd H3 sl (.lst (((fiveS n0).map lineS).map V.str))) b 24 := B3.set slb
    have t4 : upd H3 sl (.lst (((fiveS n0).map lineS).map V.str)) sl = some (.lst (((fiveS n0).map lineS).map V.str)) := upd_same
    have nsl0 : H0 sl = none := (s1.trans (Same.refl _)).free (K2.free slb nsl)
    have nb0 : H0 b = none := nb
    have K4 : ∀ q o, H0 q = some o → upd H3 sl (.lst (((fiveS n0).map lineS).map V.str)) q = some o := fun q o e => by
      rw [upd_ne (ne_of_none e nsl0)]
      exact s3 _ _ (K2 _ _ (ne_of_none e nb0) (s1 _ _ e))
    have tnl4 : upd H3 sl (.lst (((fiveS n0).map lineS).map V.str)) nl = some (.lst (([n0, n1, n2] : List Str).map V.str)) := by
      rw [upd_ne (fun z => by rw [z, nsl] at tnl; cases tnl)]
      exact tnl3
    generalize upd H3 sl (.lst (((fiveS n0).map lineS).map V.str)) = H4 at B4 t4 K4 tnl4
    clear e5 nsl0 B3 tnl3 tsl nsl s3 tnl nnl B2 K2 s1 B1 K1
    dsimp only
    -- the lines
    refine ⟨_, rfl, b, _, 4, rfl, B4, by omega, by decide, by decide, fun r H5 r0 r1 B5 K5 => ⟨_, rfl, by omega, by omega, fun D nD => ?_⟩⟩
    obtain ⟨nn, rfl⟩ := Int.eq_ofNat_of_zero_le r0
    rw [Int.toNat_natCast]
    have Db : D ≠ b := B5.new nD
    refine lc_range (lo := 0) (n := nn) (fun i G => Bx G b (25 + i) ∧ (∀ q o, q ≠ b → q ≠ D → H5 q = some o → G q = some o) ∧ ∃ ls : List (List Str), G D = some (.lst ((ls.map lineS).map V.str)) ∧ ls.length = i ∧ ∀ r ∈ ls, r ∈ fiveS n0)
      ⟨B5.upd nD, fun q o _ n e => by rw [upd_ne n]; exact e, [], upd_same, rfl, fun _ h => by cases h⟩ ?_ ?_
    · rintro j G hj ⟨BG, KG, ls, hD, lj, hls⟩
      refine ⟨rfl, yesT ?_⟩
      have slD : sl ≠ D := ne_of_none (K5 _ _ slb t4) nD
      refine ⟨_, rfl, _, rfl, b, _, 5, rfl, BG, by omega, by decide, by decide, fun r2 G2 r20 r21 BG2 KG2 => ?_⟩
      obtain ⟨k5, rfl⟩ := Int.eq_ofNat_of_zero_le r20
      have l5 : (fiveS n0).length = 5 := rfl
      have ef : (fiveS n0)[k5]? = some ((fiveS n0)[k5]'(by omega)) := List.getElem?_eq_getElem _
      have hD2 := KG2 _ _ Db hD
      refine ⟨sl, _, _, _, rfl, rfl, SqL.of (KG2 _ _ slb (KG _ _ slb slD (K5 _ _ slb t4))), (atI_nat (xs := ((fiveS n0).map lineS).map V.str) (j := k5) (by rw [List.getElem?_map, List.getElem?_map, ef]; rfl)), _, hD2, by rw [List.length_map, List.length_map]; omega, ?_⟩
      refine ⟨(BG2.set Db).more (by omega), fun q o n1 n2 e => by rw [upd_ne n2]; exact KG2 _ _ n1 (KG _ _ n1 n2 e), ls ++ [(fiveS n0)[k5]'(by omega)], by rw [upd_same, List.map_append, List.map_append]; rfl, by rw [List.length_append, lj]; rfl, fun x hx => ?_⟩
      rcases List.mem_append.mp hx with hx | hx
      · exact hls x hx
      · rw [List.mem_singleton.mp hx]
        exact List.getElem_mem _
    rintro H6 ⟨B6, K6, lines, hll, ll3, hlf⟩
    have hl : ∀ r ∈ lines, LnP (baseP n0) r := fun r hr => ln_five h0 r (hlf r hr)
    have l3 : lines.length ≤ 3 := by omega
    have hnl : H6 nl = some (.lst (([n0, n1, n2] : List Str).map V.str)) := K6 _ _ nlb (ne_of_none (K5 _ _ nlb tnl4) nD) (K5 _ _ nlb tnl4)
    have S6 : Same H0 H6 := fun q o e => K6 _ _ (ne_of_none e nb0) (ne_of_none (K5 _ _ (ne_of_none e nb0) (K4 _ _ e)) nD) (K5 _ _ (ne_of_none e nb0) (K4 _ _ e))
    clear K6 K5 K4 B5 B4 t4 tnl4 nD Db
    dsimp only
    -- the head
    refine ls_set (ls_lstH (phs1 (ph_add ph_c (ph_ix (j := 0) rfl hnl rfl) (by decide +kernel) k0) phs0) (by show 1 ≤ 1000; decide)) (fun hd H7 s7 nhd thd => ?_)
    have hnl := s7 _ _ hnl
    have hll := s7 _ _ hll
    have B7 := B6.same s7
    have S7 : Same H0 H7 := Same.trans S6 s7
    obtain ⟨g1, rd1⟩ := way_read (lines := lines) h0 hl l3
    have L3 : (lines.map lineS).length ≤ 3 := by rw [List.length_map]; exact l3
    refine seq_read (rows := mkR n0 [] [lines]) (o := .read) (ls_cat (ls_cat (lo_var rfl thd) (fun H' k => (ls_lst (pss1 ps_c pss0) (by show 1 ≤ 1000; decide)).lo) (by show 1 + 1 ≤ 1000; decide)).lo (fun H' k => lo_var rfl (k _ _ hll)) (by show 1 + 1 + _ ≤ 1000; omega)).lo ?_ (rows_mk h0 (fun _ h => by cases h) (by decide) g1) rd1 (fun H' Q q => q) (fun H8 s8 => ?_)
    · rw [mk_lines, crew_lines]
      rfl
    have hnl := s8 _ _ hnl
    have hll := s8 _ _ hll
    have hhd := s8 _ _ thd
    have B8 := B7.same s8
    have S8 : Same H0 H8 := S7.trans s8
    clear thd nhd s7 s8 B6 B7 S6 S7
    -- the lines of facts
    refine ls_set (ls_lstH (phs1 (ph_add (ph_add (ph_add ph_c (ph_ix (j := 0) rfl hnl rfl) (by decide +kernel) k0) ph_c (by rw [strLen_append]; exact Nat.le_trans (Nat.add_le_add (show ("fact at_most " : Str).length ≤ 20 by decide +kernel) h0.2.1) (by decide)) (by decide +kernel)) (ph_ix (j := 1) rfl hnl rfl) (by rw [strLen_append, strLen_append]; exact Nat.le_trans (Nat.add_le_add (Nat.add_le_add (show ("fact at_most " : Str).length ≤ 20 by decide +kernel) h0.2.1) (show (" " : Str).length ≤ 5 by decide +kernel)) (by decide)) k1) (phs1 (ph_add ph_c (ph_ix (j := 2) rfl hnl rfl) (by decide +kernel) k2) phs0)) (by show 2 ≤ 1000; decide)) (fun fl H9 s9 nfl tfl => ?_)
    have hnl := s9 _ _ hnl
    have hll := s9 _ _ hll
    have hhd := s9 _ _ hhd
    have B9 := B8.same s9
    have S9 : Same H0 H9 := S8.trans s9
    have hfl : H9 fl = some (.lst (((factsR n0 n1 n2).map lineS).map V.str)) := by
      rw [l_facts]
      exact tfl
    clear tfl nfl s9 B8 S8
    refine ⟨7, rfl, by decide, by decide, for_range (lo := 0) (n := 7) (fun j σ G => (∃ v8 v9 v10 v11 v12 v13 : Option V, σ = [some (.ref a), some (.int ((i : Nat) : Int)), some (.ref b), some (.ref nl), some (.ref sl), some (.ref D), some (.ref hd), some (.ref fl), v8, v9, v10, v11, v12, v13]) ∧ Bx G b (30 + 14 * j) ∧ Kp b H9 G)
      ⟨⟨_, _, _, _, _, _, rfl⟩, B9.more (by omega), Kp.refl⟩ ?_ ?_⟩
    · rintro j σ G hj ⟨⟨v8, v9, v10, v11, v12, v13, rfl⟩, BG, KG⟩
      generalize hDE : ({ nx := _, rt := _, bk := _, ct := _ } : Ends) = DE
      have enx : ∀ σ' H', ((∃ v8 v9 v10 v11 v12 v13 : Option V, σ' = [some (.ref a), some (.int ((i : Nat) : Int)), some (.ref b), some (.ref nl), some (.ref sl), some (.ref D), some (.ref hd), some (.ref fl), v8, v9, v10, v11, v12, v13]) ∧ Bx H' b (30 + 14 * (j + 1)) ∧ Kp b H9 H') → DE.nx σ' H' := fun σ' H' h => by
        rw [← hDE]
        exact h
      clear hDE
      have ej : (0 + (j : Int)) = ((j : Nat) : Int) := by omega
      rw [ej]
      have llb : D ≠ b := strs_off B9 hll
      have hdb : hd ≠ b := strs_off B9 hhd
      have flb : fl ≠ b := strs_off B9 hfl
      refine ⟨_, rfl, _, rfl, _, rfl, _, rfl, b, _, j, nl, D, n0, n1, n2, lines, rfl, BG, by omega, by omega, KG _ _ nlb hnl, h0, h1, h2, nz, KG _ _ llb hll, hl, l3, fun p cl gs o G2 ho hg hrd B2 K2 np ncl hcl hp => ?_⟩
      refine ⟨p, _, rfl, SqL.of hp, rfl, _, _, rfl, _, _, rfl, rfl, ?_⟩
      have KG2 : Kp b H9 G2 := KG.trans K2
      have hhd2 := KG2 _ _ hdb hhd
      have hfl2 := KG2 _ _ flb hfl
      have hcl2 : G2 cl = some (.lst (((crewR gs).map lineS).map V.str)) := hcl
      have lgs := hg.2
      have Lgs : ((crewR gs).map lineS).length ≤ 20 := by rw [List.length_map]; exact lgs
      have okf := facts_ok h0 h1 h2
      have hmf : ∀ r ∈ factsR n0 n1 n2, wordS r = "fact" := fun r hr => (okf r hr).1
      -- a fault alone
      refine seq_read (rows := mkR n0 [] gs) (o := o) (ls_cat (lo_var rfl hhd2) (fun H' k => lo_var rfl (k _ _ hcl2)) (by show 1 + _ ≤ 1000; omega)).lo ?_ (rows_mk h0 (fun _ h => by cases h) (by decide) hg) hrd (fun H' Q q => ⟨_, rfl, (by rw [due_out ho] at q; exact q)⟩) (fun G3 s3 => ?_)
      · rw [mk_lines]
        rfl
      have hhd3 := s3 _ _ hhd2
      have hfl3 := s3 _ _ hfl2
      have hcl3 := s3 _ _ hcl2
      have B3 := B2.same s3
      -- a line that can't stand
      refine ⟨_, rfl, _, rfl, _, rfl, _, rfl, b, _, 3, rfl, B3, by omega, by decide, by decide, fun t G4 t0 t1 B4 K4 => ⟨_, rfl, fl, _, rfl, SqL.of (K4 _ _ flb hfl3), fun p1 np1 => ?_⟩⟩
      obtain ⟨tn, rfl⟩ := Int.eq_ofNat_of_zero_le t0
      rw [cutV_upto, ← List.map_take, ← List.map_take]
      have s5 : Same G4 (upd G4 p1 (.lst ((((factsR n0 n1 n2).take tn).map lineS).map V.str))) := same_nw np1
      have t5 : upd G4 p1 (.lst ((((factsR n0 n1 n2).take tn).map lineS).map V.str)) p1 = some (.lst ((((factsR n0 n1 n2).take tn).map lineS).map V.str)) := upd_same
      generalize upd G4 p1 (.lst ((((factsR n0 n1 n2).take tn).map lineS).map V.str)) = G5 at s5 t5
      have clb : cl ≠ b := strs_off B2 hcl2
      have ltk : ((factsR n0 n1 n2).take tn).length ≤ 2 := by
        rw [List.length_take]
        show min tn 2 ≤ 2
        omega
      refine ⟨hd, p1, _, _, rfl, rfl, s5 _ _ (K4 _ _ hdb hhd3), t5, by rw [List.length_map, List.length_map, List.length_map]; show 1 + _ ≤ _; omega, fun p2 np2 => ?_⟩
      refine ⟨_, rfl, p2, cl, _, _, rfl, rfl, upd_same, same_nw np2 _ _ (s5 _ _ (K4 _ _ clb hcl3)), by rw [List.length_append, List.length_map, List.length_map, List.length_map, List.length_map, List.length_map]; show 1 + _ + _ ≤ _; omega, fun p3 np3 => ?_⟩
      have e6 : (["first " ++ n0].map V.str ++ (((factsR n0 n1 n2).take tn).map lineS).map V.str ++ ((crewR gs).map lineS).map V.str) = ((mkR n0 ((factsR n0 n1 n2).take tn) gs).map lineS).map V.str := by
        rw [mk_lines, List.map_append, List.map_append, List.append_assoc]
      rw [e6]
      have s6 := s5.trans (Same.trans (same_nw np2) (same_nw (o := .lst (((mkR n0 ((factsR n0 n1 n2).take tn) gs).map lineS).map V.str)) np3))
      have B6 := B4.same s6
      have hmt : ∀ r ∈ (factsR n0 n1 n2).take tn, wordS r = "fact" := fun r hr => hmf r (List.mem_of_mem_take hr)
      refine ⟨b, _, p3, mkR n0 ((factsR n0 n1 n2).take tn) gs, rfl, B6, by omega, upd_same, allst_mk h0 (.inl hmt) hg.st, rows_mk h0 (fun r hr => (okf r (List.mem_of_mem_take hr)).2) (by omega) hg, ?_, fun G7 B7 K7 => ⟨_, rfl, iteF ?_⟩⟩
      · unfold mkR
        rw [List.length_cons, List.length_append]
        omega
      have K37 : Kp b G3 G7 := K4.trans (Kp.trans (Kp.same s6) K7)
      -- a fault among the facts, and another one
      refine if_read (rows := mkR n0 (factsR n0 n1 n2) gs) (o := .facts) (ls_cat (ls_cat (lo_var rfl (K37 _ _ hdb hhd3)) (fun H' k => lo_var rfl (k _ _ (K37 _ _ flb hfl3))) (by show 1 + 2 ≤ 1000; decide)).lo (fun H' k => lo_var rfl (k _ _ (K37 _ _ clb hcl3))) (by show 1 + 2 + _ ≤ 1000; omega)).lo ?_ (rows_mk h0 (fun r hr => (okf r hr).2) (by show 2 ≤ 10; decide) hg) (way_facts h0 h1 h2 nz hg) (fun H' Q q => q) (fun G8 s8 => ?_)
      · rw [mk_lines, List.append_assoc]
      exact enx _ _ ⟨⟨_, _, _, _, _, _, rfl⟩, (B7.same s8).more (by omega), KG2.trans (Kp.trans (Kp.same s3) (K37.trans (Kp.same s8)))⟩
    rintro σ G ⟨⟨v8, v9, v10, v11, v12, v13, rfl⟩, BG, KG⟩
    have llb : D ≠ b := strs_off B9 hll
    have hdb : hd ≠ b := strs_off B9 hhd
    have hnl := KG _ _ nlb hnl
    have hll := KG _ _ llb hll
    have hhd := KG _ _ hdb hhd
    have SG : Same H0 G := fun q o e => KG _ _ (ne_of_none e nb0) (S9 _ _ e)
    have BG : Bx G b 200 := BG.more (by omega)
    clear KG B9 S9 hfl
    -- a page size
    refine ⟨_, rfl, b, _, 31, rfl, BG, by omega, by decide, by decide, fun t G2 t0 t1 B2 K2 => ⟨_, _, rfl, rfl, _, rfl, Nat.lt_of_le_of_lt (Nat.log2_le_self _) (by omega), ?_⟩⟩
    obtain ⟨pi, rfl⟩ := Int.eq_ofNat_of_zero_le t0
    have hpi : pi < 31 := by omega
    have okp := page_row hpi
    have lpg : (Str.ofString (toString (1 + (pi : Int)))).length ≤ 20 := (okp.2.2 _ (List.mem_cons_of_mem _ List.mem_cons_self)).1.1
    refine ⟨_, _, rfl, rfl, Nat.le_trans (Nat.add_le_add (show ("page " : Str).length ≤ 10 by decide +kernel) lpg) (by decide), (by show 2 ≤ sizeLine; omega), fun p1 np1 => ?_⟩
    have hll2 := K2 _ _ llb hll
    have s3 : Same G2 (upd G2 p1 (.lst (([("page " : Str) ++ Str.ofString (toString (1 + (pi : Int))), "hand"] : List Str).map V.str))) := same_nw np1
    have t3 : upd G2 p1 (.lst (([("page " : Str) ++ Str.ofString (toString (1 + (pi : Int))), "hand"] : List Str).map V.str)) p1 = some (.lst (([("page " : Str) ++ Str.ofString (toString (1 + (pi : Int))), "hand"] : List Str).map V.str)) := upd_same
    rw [show upd G2 p1 (.lst [.str (("page " : Str) ++ Str.ofString (toString (1 + (pi : Int)))), .str "hand"]) = upd G2 p1 (.lst (([("page " : Str) ++ Str.ofString (toString (1 + (pi : Int))), "hand"] : List Str).map V.str)) from rfl]
    generalize upd G2 p1 (.lst (([("page " : Str) ++ Str.ofString (toString (1 + (pi : Int))), "hand"] : List Str).map V.str)) = G3 at s3 t3
    refine ⟨_, rfl, p1, D, _, _, rfl, rfl, t3, s3 _ _ hll2, by rw [List.length_map, List.length_map, List.length_map]; show 2 + _ ≤ _; omega, fun sh nsh => ?_⟩
    rw [← List.map_append]
    have s4 : Same G3 (upd G3 sh (.lst ((([("page " : Str) ++ Str.ofString (toString (1 + (pi : Int))), "hand"] : List Str) ++ lines.map lineS).map V.str))) := same_nw nsh
    have hsh : upd G3 sh (.lst ((([("page " : Str) ++ Str.ofString (toString (1 + (pi : Int))), "hand"] : List Str) ++ lines.map lineS).map V.str)) sh = some (.lst ((([("page " : Str) ++ Str.ofString (toString (1 + (pi : Int))), "hand"] : List Str) ++ lines.map lineS).map V.str)) := upd_same
    generalize upd G3 sh (.lst ((([("page " : Str) ++ Str.ofString (toString (1 + (pi : Int))), "hand"] : List Str) ++ lines.map lineS).map V.str)) = G4 at s4 hsh
    have B4 := (B2.same s3).same s4
    have K04 : Kp b G G4 := K2.trans (Kp.trans (Kp.same s3) (Kp.same s4))
    have hnl := K04 _ _ nlb hnl
    have hhd := K04 _ _ hdb hhd
    have S4 : Same H0 G4 := fun q o e => K04 _ _ (ne_of_none e nb0) (SG _ _ e)
    clear s3 t3 s4 hll2 np1 nsh K2 B2 K04
    have lsh : (([("page " : Str) ++ Str.ofString (toString (1 + (pi : Int))), "hand"] : List Str) ++ lines.map lineS).length ≤ 5 := by
      rw [List.length_append]
      show 2 + _ ≤ 5
      omega
    obtain ⟨g2, rd2⟩ := way_two (lines := lines) hpi h0 h1 n01 hl l3
    have okm : ∀ r ∈ [[("page" : Str), Str.ofString (toString (1 + (pi : Int)))]], RowOk r := fun r hr => by
      rw [List.mem_singleton.mp hr]
      exact okp
    dsimp only [gName, List.set]
    refine seq_read (rows := mkR n0 [["page", Str.ofString (toString (1 + (pi : Int)))]] [lines ++ [cutR n1]]) (o := .program) (ls_cat (ls_cat (lo_var rfl hhd) (fun H' k => lo_var rfl (k _ _ hsh)) (by show 1 + _ ≤ 1000; omega)).lo (fun H' k => (ls_lstH (phs1 (ph_add ph_c (ph_ix (j := 1) rfl (k _ _ hnl) rfl) (by decide +kernel) k1) phs0) (by show 1 ≤ 1000; decide)).lo) (by rw [List.length_append]; show 1 + _ + 1 ≤ 1000; omega)).lo ?_ (rows_mk h0 okm (by show 1 ≤ 10; decide) g2) rd2 (fun H' Q q => q) (fun G5 s5 => ?_)
    · rw [mk_lines, crew_lines, l_cut, l_page]
      simp
    have hhd := s5 _ _ hhd
    have hsh := s5 _ _ hsh
    refine seq_read (rows := mkR n0 [["page", Str.ofString (toString (1 + (pi : Int)))]] [lines]) (o := .read) (ls_cat (lo_var rfl hhd) (fun H' k => lo_var rfl (k _ _ hsh)) (by show 1 + _ ≤ 1000; omega)).lo ?_ (rows_mk h0 okm (by show 1 ≤ 10; decide) g1) (way_page hpi h0 hl l3) (fun H' Q q => q) (fun G6 s6 => ?_)
    · rw [mk_lines, crew_lines, l_page]
      simp
    have B6 := (B4.same s5).same s6
    have S6 : Same H0 G6 := S4.trans (Same.trans s5 s6)
    clear hsh hhd s5 s6 B4 S4 lsh
    -- a thing that is no program
    refine ⟨(by show 0 ≤ sizeLine; omega), fun e1 ne1 e2 ne2 => ⟨(by show 5 ≤ sizeLine; omega), fun tl ntl => ?_⟩⟩
    have a1 : Same G6 (upd G6 e1 (.lst [])) := same_nw ne1
    have a2 : Same (upd G6 e1 (.lst [])) (upd (upd G6 e1 (.lst [])) e2 (.dK [])) := same_nw ne2
    have a3 : Same (upd (upd G6 e1 (.lst [])) e2 (.dK [])) (upd (upd (upd G6 e1 (.lst [])) e2 (.dK [])) tl (.lst [.non, .int 5, .str "first 0", .ref e1, .ref e2])) := same_nw ntl
    have t1 := a3 _ _ (a2 _ _ (upd_same (H := G6) (a := e1) (o := .lst [])))
    have t2 := a3 _ _ (upd_same (H := upd G6 e1 (.lst [])) (a := e2) (o := .dK []))
    have t3 : upd (upd (upd G6 e1 (.lst [])) e2 (.dK [])) tl (.lst [.non, .int 5, .str "first 0", .ref e1, .ref e2]) tl = some (.lst [.non, .int 5, .str "first 0", .ref e1, .ref e2]) := upd_same
    have a4 := a1.trans (a2.trans a3)
    generalize upd (upd (upd G6 e1 (.lst [])) e2 (.dK [])) tl (.lst [.non, .int 5, .str "first 0", .ref e1, .ref e2]) = G7 at t1 t2 t3 a4
    have B7 := B6.same a4
    refine ⟨_, rfl, b, _, 5, rfl, B7, by omega, by decide, by decide, fun u G8 u0 u1 B8 K8 => ?_⟩
    obtain ⟨un, rfl⟩ := Int.eq_ofNat_of_zero_le u0
    have ev : ([V.non, .int 5, .str "first 0", .ref e1, .ref e2] : List V)[un]? = some (([V.non, .int 5, .str "first 0", .ref e1, .ref e2] : List V)[un]'(by show un < 5; omega)) := List.getElem?_eq_getElem _
    generalize ([V.non, .int 5, .str "first 0", .ref e1, .ref e2] : List V)[un]'(by show un < 5; omega) = v at ev
    have t1 := K8 _ _ (B7.off t1 fun _ _ _ e => by cases e) t1
    have t2 := K8 _ _ (B7.off t2 fun _ _ _ e => by cases e) t2
    have t3 := K8 _ _ (B7.off t3 fun _ _ _ e => by cases e) t3
    obtain ⟨tx, ht, sh8⟩ := thing (P := P) (w := w) (mg := mg) (base := base) NG t1 t2 v (List.mem_of_getElem? ev)
    refine ⟨tl, _, _, v, rfl, rfl, SqL.of t3, atI_nat ev, ?_⟩
    have S8 : Same H0 G8 := fun q o e => K8 _ _ (ne_of_none e nb0) (a4 _ _ (S6 _ _ e))
    refine ⟨_, rfl, v, tx, rfl, ht, sh8, fun r G9 s9 nr tr => ⟨_, rfl, v, tx, rfl, sh8.same s9, fun G10 s10 => ⟨(by show 2 ≤ sizeLine; omega), fun p np => ⟨true, lst_same (same_nw np _ _ (s10 _ _ tr)) upd_same (fun x hx => ?_), fun G11 e11 => ⟨_, rfl, iteF ?_⟩⟩⟩⟩⟩
    · simp only [List.mem_cons, List.not_mem_nil, or_false] at hx
      rcases hx with rfl | rfl <;> rfl
    · exact dnx _ _ ⟨_, _, _, _, _, _, _, _, _, _, _, _, _, rfl, s0.trans (S8.trans (s9.trans (s10.trans (Same.trans (same_nw np) e11))))⟩
end
end Mz
set_option Elab.async false
set_option linter.all false
set_option maxRecDepth 100000
set_option maxHeartbeats 4000000
namespace Mz
open PySem PySem.Spec PyProof.Rows L2
theorem kb_one {K : PySem.W.Frag} {x qual : Str} {st : Stmt} {f : Addr} {fd : FuncData} {ps : List Str} (F : Fun K x qual st f fd) (n : Nat) (ks : List Str)
    (h : ∀ (kV doc pm : Value) (an : Option Addr) (cdv ct : Value) (us ws : List Value), us.length = n → ws.length = ks.length → bindArgs (PySem.W.fnOf x qual (defArgs st) (defBody st) (defScope st) .none kV doc pm an cdv ct) ⟨us, ks.zip ws⟩ = pure (ps.zip (us ++ ws))) :
    KBn K fd ps n ks (fun us ws => us ++ ws) (fun vs zs => vs ++ zs) := by
  obtain ⟨oc, od, kV, doc, pm, an, cdv, ct, osl, rfl, lk, hcd⟩ := F.ex
  exact ⟨fun s us ws _ hu hw => .of_eq (h kV doc pm an cdv ct us ws hu hw), fun r1 r2 => r1.append r2⟩
theorem kit_own {K : PySem.W.Frag} {C : Addr} {T : String} (hm : PySem.W.mroIn K C (.type T) = some false) (h2 : PySem.W.kitMeta T = true) : PySem.W.kitOne K (.ref C) (.type T) = some false := by
  unfold PySem.W.kitOne
  rw [if_neg (by intro e; cases e)]
  show (if PySem.W.kitMeta T = true then PySem.W.mroIn K C (.type T) else none) = some false
  rw [if_pos h2, hm]
theorem kit_ref {K : PySem.W.Frag} {C : Addr} {T : String} {b : Bool} (hdct : PySem.W.hasDictIn K C = true) (ht : PySem.W.typeIn K (.ref C) = some (.type "type")) (h4 : PySem.W.subIn K (.type T) (.ref C) = some b) : PySem.W.kitOne K (.type T) (.ref C) = some b := by
  obtain ⟨cd, hc, _⟩ := PySem.W.any_some hdct
  unfold PySem.W.kitOne
  rw [if_neg (by intro e; cases e)]
  show (if ((PySem.W.clsIn K C).isSome && PySem.W.typeIn K (.ref C) == some (.type "type")) = true then PySem.W.subIn K (.type T) (.ref C) else none) = some b
  rw [if_pos (by rw [hc, ht] <;> rfl)]
  exact h4
/-! a written dict from texts to ints -/
def entOf (P : Params) (q : Str × Int × Tok × Tok) : DictEntry := ⟨PyData.keyHash P q.1, .str q.1 q.2.2.1, .int q.2.1 q.2.2.2⟩
def lookF (z : Str) : List (Str × Int × Tok × Tok) → Option Int
  | [] => none
  | q :: r => if z = q.1 then some q.2.1 else lookF z r
theorem lit_of {P : Params} : ∀ l : List (Str × Int × Tok × Tok), PySem.W.KeysLit P (l.map (entOf P))
  | [] => trivial
  | q :: r => ⟨⟨q.1, q.2.2.1, rfl, rfl⟩, lit_of r⟩
theorem find_ent {P : Params} {z : Str} : ∀ l : List (Str × Int × Tok × Tok), (lookF z l = none ∧ (l.map (entOf P)).find? (fun x => x.key.isStr z) = none) ∨
    ∃ i t e, lookF z l = some i ∧ (l.map (entOf P)).find? (fun x => x.key.isStr z) = some e ∧ e.val = .int i t
  | [] => .inl ⟨rfl, rfl⟩
  | q :: r => by
    by_cases h : z = q.1
    · refine .inr ⟨q.2.1, q.2.2.2, entOf P q, if_pos h, ?_, rfl⟩
      rw [List.map_cons, List.find?_cons_of_pos]
      show (q.1 == z) = true
      rw [h]
      exact beq_self_eq_true _
    · have e1 : lookF z (q :: r) = lookF z r := if_neg h
      have e2 : ((q :: r).map (entOf P)).find? (fun x => x.key.isStr z) = (r.map (entOf P)).find? (fun x => x.key.isStr z) := by
        rw [List.map_cons, List.find?_cons_of_neg]
        show ¬ (q.1 == z) = true
        intro x
        exact h (beq_iff_eq.mp x).symm
      rw [e1, e2]
      exact find_ent r
theorem tab_of {K : PySem.W.Frag} {w : World} {d : Addr} {es : Array DictEntry} {n : Nat} {l : List (Str × Int × Tok × Tok)} {f : Str → Option Int} (h : K.lookup d = some ⟨.type "dict", none, .dict es n, #[]⟩) (hl : es.toList = l.map (entOf w.params)) (low : (d == sysModules) = false)
    (hf : ∀ z, f z = lookF z l) : Tab K w d f := by
  refine ⟨es, n, ⟨h, by rw [hl]; exact lit_of l, low⟩, fun z => ?_⟩
  have nr : (es.toList.any fun x => x.refKey) = false := by
    rw [hl]
    rw [List.any_eq_false]
    intro e he
    obtain ⟨q, _, rfl⟩ := List.mem_map.mp he
    exact Bool.false_ne_true
  unfold PySem.W.nsIn
  rw [h]
  dsimp only
  rcases find_ent (P := w.params) (z := z) l with ⟨e1, e2⟩ | ⟨i, t, e, e1, e2, e3⟩
  · rw [hl, e2]
    rw [hl] at nr
    refine ⟨none, ?_, .inl ⟨(hf z).trans e1, rfl⟩⟩
    dsimp only
    rw [nr]
    rfl
  · rw [hl, e2]
    exact ⟨some (.int i t), by rw [← e3], .inr ⟨i, t, (hf z).trans e1, rfl⟩⟩
/-! a written dict from texts to tuples of texts -/
def entR (P : Params) (q : Str × Addr × Tok × List Str) : DictEntry := ⟨PyData.keyHash P q.1, .str q.1 q.2.2.1, .ref q.2.1⟩
theorem litR {P : Params} : ∀ l : List (Str × Addr × Tok × List Str), PySem.W.KeysLit P (l.map (entR P))
  | [] => trivial
  | q :: r => ⟨⟨q.1, q.2.2.1, rfl, rfl⟩, litR r⟩
theorem find_entR {P : Params} {z : Str} : ∀ l : List (Str × Addr × Tok × List Str), (((l.map fun q => (q.1, q.2.2.2)).find? fun q => decide (z = q.1)) = none ∧ (l.map (entR P)).find? (fun x => x.key.isStr z) = none) ∨
    ∃ q ∈ l, ((l.map fun q => (q.1, q.2.2.2)).find? fun q => decide (z = q.1)) = some (q.1, q.2.2.2) ∧ (l.map (entR P)).find? (fun x => x.key.isStr z) = some (entR P q)
  | [] => .inl ⟨rfl, rfl⟩
  | q :: r => by
    by_cases h : z = q.1
    · refine .inr ⟨q, List.mem_cons_self .., ?_, ?_⟩
      · rw [List.map_cons, List.find?_cons_of_pos]
        exact decide_eq_true h
      · rw [List.map_cons, List.find?_cons_of_pos]
        show (q.1 == z) = true
        rw [h]
        exact beq_self_eq_true _
    · have e1 : (((q :: r).map fun q => (q.1, q.2.2.2)).find? fun q => decide (z = q.1)) = ((r.map fun q => (q.1, q.2.2.2)).find? fun q => decide (z = q.1)) := by
        rw [List.map_cons, List.find?_cons_of_neg]
        show ¬ decide (z = q.1) = true
        intro x
        exact h (of_decide_eq_true x)
      have e2 : ((q :: r).map (entR P)).find? (fun x => x.key.isStr z) = (r.map (entR P)).find? (fun x => x.key.isStr z) := by
        rw [List.map_cons, List.find?_cons_of_neg]
        show ¬ (q.1 == z) = true
        intro x
        exact h (beq_iff_eq.mp x).symm
      rw [e1, e2]
      rcases find_entR (P := P) (z := z) r with x | ⟨q2, hq, x⟩
      · exact .inl x
      · exact .inr ⟨q2, List.mem_cons_of_mem _ hq, x⟩
theorem ftab_of {K : PySem.W.Frag} {w : World} {d : Addr} {es : Array DictEntry} {n : Nat} {l : List (Str × Addr × Tok × List Str)} (h : K.lookup d = some ⟨.type "dict", none, .dict es n, #[]⟩) (hl : es.toList = l.map (entR w.params)) (low : (d == sysModules) = false)
    (hf : (l.map fun q => (q.1, q.2.2.2)) = formL) (hs : ∀ q ∈ l, ∀ H, SqT K H q.2.1 (q.2.2.2.map V.str)) : FTab K w d := by
  refine ⟨es, n, ⟨h, by rw [hl]; exact litR l, low⟩, fun z => ?_⟩
  have nr : (es.toList.any fun x => x.refKey) = false := by
    rw [hl]
    rw [List.any_eq_false]
    intro e he
    obtain ⟨q, _, rfl⟩ := List.mem_map.mp he
    exact Bool.false_ne_true
  unfold PySem.W.nsIn formS
  rw [h, ← hf]
  dsimp only
  rcases find_entR (P := w.params) (z := z) l with ⟨e1, e2⟩ | ⟨q, hq, e1, e2⟩
  · rw [hl, e2, e1]
    rw [hl] at nr
    refine ⟨none, ?_, .inl ⟨rfl, rfl⟩⟩
    dsimp only
    rw [nr]
    rfl
  · rw [hl, e2, e1]
    exact ⟨some (.ref q.2.1), rfl, .inr ⟨q.2.2.2, q.2.1, rfl, rfl, hs q hq⟩⟩
theorem FunD.kbinds0 {K : PySem.W.Frag} {x qual : Str} {params : Arguments} {body : List Stmt} {scope : Scope} {kws : List (Str × V)} {f : Addr} {fd : FuncData} {ps : List Str} (F : FunD K x qual params body scope [] kws f fd) (n : Nat) (ks : List Str) (ms : List (Str × V)) (g : {α : Type} → List α → List α → List α → List α) (hk : kws ≠ []) (hms : ∀ q ∈ ms, q ∈ kws)
    (hrel : ∀ {vs mz zs : List V} {us mv ws : List Value}, Vals vs us → Vals mz mv → Vals zs ws → Vals (g vs mz zs) (g us mv ws))
    (h : ∀ (D : Addr) (doc pm : Value) (an : Option Addr) (cdv ct : Value) (us mv ws : List Value), us.length = n → mv.length = ms.length → ws.length = ks.length →
      KwChain D ((ms.map (·.1)).zip mv) (bindArgs (PySem.W.fnOf x qual params body scope .none (.ref D) doc pm an cdv ct) ⟨us, ks.zip ws⟩) (ps.zip (g us mv ws))) :
    ∃ mv : List Value, KBn K fd ps n ks (fun us ws => g us mv ws) (fun vs zs => g vs (ms.map (·.2)) zs) := by
  obtain ⟨oc, od, dV, kV, doc, pm, an, cdv, ct, osl, rfl, lk, hcd, hD, hK⟩ := F.ex
  rcases hD with ⟨_, rfl⟩ | ⟨e, _⟩
  · rcases hK with e | ⟨D, rfl, hq⟩
    · exact absurd e hk
    · obtain ⟨mv, hl, rk, hks⟩ := kwd_vals (ms := ms) fun q hm => hq q (hms q hm)
      exact ⟨mv, ⟨fun s us ws X l1 l2 => BindsTo.of_looks fun M => KwChain.looks X hks (h D doc pm an cdv ct us mv ws l1 hl l2), fun r1 r2 => hrel r1 rk r2⟩⟩
  · exact absurd rfl e
theorem all_mk {l : PySem.W.OpenLaw} {w : World} {K : PySem.W.Frag} {h : Heap} {mg : Str → Option Value} {fa : Addr} (X : K.In h) (G : h.Ns mainGlobals mg) (hfa : mg "law" = some (.ref fa))
    {cF cH cI cJ cL cM cP cQ cR cV cW cX po pb fI tD kD dtn dts dtp : Addr} {ro rb : List Value}
    {kQ dF pM : Addr} {odM : Option Addr} {slM : Array (Option Value)} {nM : Nat} {m1 m2 m3 m4 m5 m6 m7 : Tok}
    {znF : Nat} {uF0 uF1 uF2 uF3 uF4 uF5 uF6 uF7 uF8 : Int} {aF0 aF1 aF2 aF3 aF4 aF5 aF6 aF7 aF8 : Addr} {oF0 oF1 oF2 oF3 oF4 oF5 oF6 oF7 oF8 : Option Addr} {sF0 sF1 sF2 sF3 sF4 sF5 sF6 sF7 sF8 : Array (Option Value)} {nF0 nF1 nF2 nF3 nF4 nF5 nF6 nF7 nF8 : Nat} {pF0 pF1 pF2 pF3 pF4 pF5 pF6 pF7 pF8 qF0_0 qF1_0 qF1_1 qF1_2 qF2_0 qF3_0 qF4_0 qF4_1 qF5_0 qF6_0 qF6_1 qF7_0 qF8_0 : Tok}
    {fwh : Addr} {odwh anwh : Option Addr} {slwh : Array (Option Value)} {ocwh kVwh dcwh pmwh cdwh ctwh : Value}
    {fii : Addr} {odii anii : Option Addr} {slii : Array (Option Value)} {ocii kVii dcii pmii cdii ctii : Value}
    {fna : Addr} {odna anna : Option Addr} {slna : Array (Option Value)} {ocna kVna dcna pmna cdna ctna : Value}
    {fma : Addr} {odma anma : Option Addr} {slma : Array (Option Value)} {ocma kVma dcma pmma cdma ctma : Value}
    {fip : Addr} {odip anip : Option Addr} {slip : Array (Option Value)} {ocip kVip dcip pmip cdip ctip : Value}
    {fuo : Addr} {oduo anuo : Option Addr} {sluo : Array (Option Value)} {ocuo kVuo dcuo pmuo cduo ctuo : Value}
    {fle : Addr} {odle anle : Option Addr} {slle : Array (Option Value)} {ocle kVle dcle pmle cdle ctle : Value}
    {fpt : Addr} {odpt anpt : Option Addr} {slpt : Array (Option Value)} {ocpt kVpt dcpt pmpt cdpt ctpt : Value}
    {fif_ : Addr} {odif_ anif_ : Option Addr} {slif_ : Array (Option Value)} {ocif_ kVif_ dcif_ pmif_ cdif_ ctif_ : Value}
    {fpl : Addr} {odpl anpl : Option Addr} {slpl : Array (Option Value)} {ocpl kVpl dcpl pmpl cdpl ctpl : Value}
    {fpo_ : Addr} {odpo_ anpo_ : Option Addr} {slpo_ : Array (Option Value)} {ocpo_ kVpo_ dcpo_ pmpo_ cdpo_ ctpo_ : Value}
    {fce : Addr} {odce ance : Option Addr} {slce : Array (Option Value)} {occe kVce dcce pmce cdce ctce : Value}
    {fbo : Addr} {odbo anbo : Option Addr} {slbo : Array (Option Value)} {ocbo kVbo dcbo pmbo cdbo ctbo : Value}
    {fta : Addr} {odta anta : Option Addr} {slta : Array (Option Value)} {octa kVta dcta pmta cdta ctta : Value}
    {fil : Addr} {odil anil : Option Addr} {slil : Array (Option Value)} {ocil kVil dcil pmil cdil ctil : Value}
    {fft : Addr} {odft anft : Option Addr} {slft : Array (Option Value)} {ocft kVft dcft pmft cdft ctft : Value}
    {fis_ : Addr} {odis_ anis_ : Option Addr} {slis_ : Array (Option Value)} {ocis_ kVis_ dcis_ pmis_ cdis_ ctis_ : Value}
    {fps : Addr} {odps anps : Option Addr} {slps : Array (Option Value)} {ocps kVps dcps pmps cdps ctps : Value}
    {fpz : Addr} {odpz anpz : Option Addr} {slpz : Array (Option Value)} {ocpz kVpz dcpz pmpz cdpz ctpz : Value}
    {fkl_ : Addr} {odkl_ ankl_ : Option Addr} {slkl_ : Array (Option Value)} {ockl_ kVkl_ dckl_ pmkl_ cdkl_ ctkl_ : Value}
    {fch : Addr} {odch anch : Option Addr} {slch : Array (Option Value)} {occh kVch dcch pmch cdch ctch : Value}
    {fdf : Addr} {oddf andf : Option Addr} {sldf : Array (Option Value)} {ocdf kVdf dcdf pmdf cddf ctdf : Value}
    {fwp : Addr} {odwp anwp : Option Addr} {slwp : Array (Option Value)} {ocwp kVwp dcwp pmwp cdwp ctwp : Value}
    {ftm : Addr} {odtm antm : Option Addr} {sltm : Array (Option Value)} {octm kVtm dctm pmtm cdtm cttm : Value}
    {fwl : Addr} {odwl anwl : Option Addr} {slwl : Array (Option Value)} {ocwl kVwl dcwl pmwl cdwl ctwl : Value}
    {fpc : Addr} {odpc anpc : Option Addr} {slpc : Array (Option Value)} {ocpc kVpc dcpc pmpc cdpc ctpc : Value}
    {fcp : Addr} {odcp ancp : Option Addr} {slcp : Array (Option Value)} {occp kVcp dccp pmcp cdcp ctcp : Value}
    {fpt_ : Addr} {odpt_ anpt_ : Option Addr} {slpt_ : Array (Option Value)} {ocpt_ kVpt_ dcpt_ pmpt_ cdpt_ ctpt_ : Value}
    {frp : Addr} {odrp anrp : Option Addr} {slrp : Array (Option Value)} {ocrp kVrp dcrp pmrp cdrp ctrp : Value}
    {fwf : Addr} {odwf anwf : Option Addr} {slwf : Array (Option Value)} {ocwf kVwf dcwf pmwf cdwf ctwf : Value}
    {fpg_ : Addr} {odpg_ anpg_ : Option Addr} {slpg_ : Array (Option Value)} {ocpg_ kVpg_ dcpg_ pmpg_ cdpg_ ctpg_ : Value}
    {fcs : Addr} {odcs ancs : Option Addr} {slcs : Array (Option Value)} {occs kVcs dccs pmcs cdcs ctcs : Value}
    {fho : Addr} {odho anho : Option Addr} {slho : Array (Option Value)} {ocho kVho dcho pmho cdho ctho : Value}
    {fwo : Addr} {odwo anwo : Option Addr} {slwo : Array (Option Value)} {ocwo kVwo dcwo pmwo cdwo ctwo : Value}
    {fnm : Addr} {odnm annm : Option Addr} {slnm : Array (Option Value)} {ocnm kVnm dcnm pmnm cdnm ctnm : Value}
    {ffy : Addr} {odfy anfy : Option Addr} {slfy : Array (Option Value)} {ocfy kVfy dcfy pmfy cdfy ctfy : Value}
    {frd : Addr} {odrd anrd : Option Addr} {slrd : Array (Option Value)} {ocrd kVrd dcrd pmrd cdrd ctrd : Value}
    {flr : Addr} {odlr anlr : Option Addr} {sllr : Array (Option Value)} {oclr kVlr dclr pmlr cdlr ctlr : Value}
    {fto : Addr} {odto anto : Option Addr} {slto : Array (Option Value)} {octo kVto dcto pmto cdto ctto : Value}
    {fla : Addr} {odla anla : Option Addr} {slla : Array (Option Value)} {ocla kVla dcla pmla cdla ctla : Value}
    {fmo : Addr} {odmo anmo : Option Addr} {slmo : Array (Option Value)} {ocmo kVmo dcmo pmmo cdmo ctmo : Value}
    {fmb : Addr} {odmb anmb : Option Addr} {slmb : Array (Option Value)} {ocmb kVmb dcmb pmmb cdmb ctmb : Value}
    {fms : Addr} {odms anms : Option Addr} {slms : Array (Option Value)} {ocms kVms dcms pmms cdms ctms : Value}
    {fmx : Addr} {odmx anmx : Option Addr} {slmx : Array (Option Value)} {ocmx kVmx dcmx pmmx cdmx ctmx : Value}
    {fmi : Addr} {odmi anmi : Option Addr} {slmi : Array (Option Value)} {ocmi kVmi dcmi pmmi cdmi ctmi : Value}
    {fmr : Addr} {odmr anmr : Option Addr} {slmr : Array (Option Value)} {ocmr kVmr dcmr pmmr cdmr ctmr : Value}
    {fmf : Addr} {odmf anmf : Option Addr} {slmf : Array (Option Value)} {ocmf kVmf dcmf pmmf cdmf ctmf : Value}
    {fmv : Addr} {odmv anmv : Option Addr} {slmv : Array (Option Value)} {ocmv kVmv dcmv pmmv cdmv ctmv : Value}
    {fmj : Addr} {odmj anmj : Option Addr} {slmj : Array (Option Value)} {ocmj kVmj dcmj pmmj cdmj ctmj : Value}
    {fmw : Addr} {odmw anmw : Option Addr} {slmw : Array (Option Value)} {ocmw kVmw dcmw pmmw cdmw ctmw : Value}
    {fml : Addr} {odml anml : Option Addr} {slml : Array (Option Value)} {ocml kVml dcml pmml cdml ctml : Value}
    {fh0 : Addr} {odh0 anh0 : Option Addr} {slh0 : Array (Option Value)} {och0 kVh0 dch0 pmh0 cdh0 cth0 : Value}
    {fh1 : Addr} {odh1 anh1 : Option Addr} {slh1 : Array (Option Value)} {och1 kVh1 dch1 pmh1 cdh1 cth1 : Value}
    {fh4 : Addr} {odh4 anh4 : Option Addr} {slh4 : Array (Option Value)} {och4 kVh4 dch4 pmh4 cdh4 cth4 : Value}
    {fq0 : Addr} {odq0 anq0 : Option Addr} {slq0 : Array (Option Value)} {ocq0 kVq0 dcq0 pmq0 cdq0 ctq0 : Value}
    (awh : PySem.W.nsIn K mainGlobals "_is_whole" = some (some (.ref fwh))) (lwh : K.lookup fwh = some ⟨ocwh, odwh, .func (PySem.W.fnOf "_is_whole" "_is_whole" (defArgs sWhole) (defBody sWhole) (defScope sWhole) .none kVwh dcwh pmwh anwh cdwh ctwh), slwh⟩) (cwh : PySem.W.codeIn K cdwh "_is_whole" = true) (kwh : PySem.W.keepIn K (.ref fwh) = true)
    (aii : PySem.W.nsIn K mainGlobals "is_integer" = some (some (.ref fii))) (lii : K.lookup fii = some ⟨ocii, odii, .func (PySem.W.fnOf "is_integer" "is_integer" (defArgs sIsInt) (defBody sIsInt) (defScope sIsInt) .none kVii dcii pmii anii cdii ctii), slii⟩) (cii : PySem.W.codeIn K cdii "is_integer" = true) (kii : PySem.W.keepIn K (.ref fii) = true)
    (ana : PySem.W.nsIn K mainGlobals "is_name" = some (some (.ref fna))) (lna : K.lookup fna = some ⟨ocna, odna, .func (PySem.W.fnOf "is_name" "is_name" (defArgs sIsName) (defBody sIsName) (defScope sIsName) .none kVna dcna pmna anna cdna ctna), slna⟩) (cna : PySem.W.codeIn K cdna "is_name" = true) (kna : PySem.W.keepIn K (.ref fna) = true)
    (ama : PySem.W.nsIn K mainGlobals "is_mark" = some (some (.ref fma))) (lma : K.lookup fma = some ⟨ocma, odma, .func (PySem.W.fnOf "is_mark" "is_mark" (defArgs sIsMark) (defBody sIsMark) (defScope sIsMark) .none kVma dcma pmma anma cdma ctma), slma⟩) (cma : PySem.W.codeIn K cdma "is_mark" = true) (kma : PySem.W.keepIn K (.ref fma) = true)
    (aip : PySem.W.nsIn K mainGlobals "is_place" = some (some (.ref fip))) (lip : K.lookup fip = some ⟨ocip, odip, .func (PySem.W.fnOf "is_place" "is_place" (defArgs sIsPlace) (defBody sIsPlace) (defScope sIsPlace) .none kVip dcip pmip anip cdip ctip), slip⟩) (cip : PySem.W.codeIn K cdip "is_place" = true) (kip : PySem.W.keepIn K (.ref fip) = true)
    (auo : PySem.W.nsIn K mainGlobals "unknowns_of" = some (some (.ref fuo))) (luo : K.lookup fuo = some ⟨ocuo, oduo, .func (PySem.W.fnOf "unknowns_of" "unknowns_of" (defArgs sUnkOf) (defBody sUnkOf) (defScope sUnkOf) .none kVuo dcuo pmuo anuo cduo ctuo), sluo⟩) (cuo : PySem.W.codeIn K cduo "unknowns_of" = true) (kuo : PySem.W.keepIn K (.ref fuo) = true)
    (ale : PySem.W.nsIn K mainGlobals "_least_shift" = some (some (.ref fle))) (lle : K.lookup fle = some ⟨ocle, odle, .func (PySem.W.fnOf "_least_shift" "_least_shift" (defArgs sLeast) (defBody sLeast) (defScope sLeast) .none kVle dcle pmle anle cdle ctle), slle⟩) (cle : PySem.W.codeIn K cdle "_least_shift" = true) (kle : PySem.W.keepIn K (.ref fle) = true)
    (apt : PySem.W.nsIn K mainGlobals "_parts_of_text" = some (some (.ref fpt))) (lpt : K.lookup fpt = some ⟨ocpt, odpt, .func (PySem.W.fnOf "_parts_of_text" "_parts_of_text" (defArgs sParts) (defBody sParts) (defScope sParts) .none kVpt dcpt pmpt anpt cdpt ctpt), slpt⟩) (cpt : PySem.W.codeIn K cdpt "_parts_of_text" = true) (kpt : PySem.W.keepIn K (.ref fpt) = true)
    (aif_ : PySem.W.nsIn K mainGlobals "is_fact" = some (some (.ref fif_))) (lif_ : K.lookup fif_ = some ⟨ocif_, odif_, .func (PySem.W.fnOf "is_fact" "is_fact" (defArgs sIsFact) (defBody sIsFact) (defScope sIsFact) .none kVif_ dcif_ pmif_ anif_ cdif_ ctif_), slif_⟩) (cif_ : PySem.W.codeIn K cdif_ "is_fact" = true) (kif_ : PySem.W.keepIn K (.ref fif_) = true)
    (apl : PySem.W.nsIn K mainGlobals "placed_row" = some (some (.ref fpl))) (lpl : K.lookup fpl = some ⟨ocpl, odpl, .func (PySem.W.fnOf "placed_row" "placed_row" (defArgs sPlacedRow) (defBody sPlacedRow) (defScope sPlacedRow) .none kVpl dcpl pmpl anpl cdpl ctpl), slpl⟩) (cpl : PySem.W.codeIn K cdpl "placed_row" = true) (kpl : PySem.W.keepIn K (.ref fpl) = true)
    (apo_ : PySem.W.nsIn K mainGlobals "places_of_rows" = some (some (.ref fpo_))) (lpo_ : K.lookup fpo_ = some ⟨ocpo_, odpo_, .func (PySem.W.fnOf "places_of_rows" "places_of_rows" (defArgs sPlacesOf) (defBody sPlacesOf) (defScope sPlacesOf) .none kVpo_ dcpo_ pmpo_ anpo_ cdpo_ ctpo_), slpo_⟩) (cpo_ : PySem.W.codeIn K cdpo_ "places_of_rows" = true) (kpo_ : PySem.W.keepIn K (.ref fpo_) = true)
    (ace : PySem.W.nsIn K mainGlobals "_law_cell" = some (some (.ref fce))) (lce : K.lookup fce = some ⟨occe, odce, .func (PySem.W.fnOf "_law_cell" "_law_cell" (defArgs sCell) (defBody sCell) (defScope sCell) .none kVce dcce pmce ance cdce ctce), slce⟩) (cce : PySem.W.codeIn K cdce "_law_cell" = true) (kce : PySem.W.keepIn K (.ref fce) = true)
    (abo : PySem.W.nsIn K mainGlobals "_law_box" = some (some (.ref fbo))) (lbo : K.lookup fbo = some ⟨ocbo, odbo, .func (PySem.W.fnOf "_law_box" "_law_box" (defArgs sBox) (defBody sBox) (defScope sBox) .none kVbo dcbo pmbo anbo cdbo ctbo), slbo⟩) (cbo : PySem.W.codeIn K cdbo "_law_box" = true) (kbo : PySem.W.keepIn K (.ref fbo) = true)
    (ata : PySem.W.nsIn K mainGlobals "_law_take" = some (some (.ref fta))) (lta : K.lookup fta = some ⟨octa, odta, .func (PySem.W.fnOf "_law_take" "_law_take" (defArgs sTake) (defBody sTake) (defScope sTake) .none kVta dcta pmta anta cdta ctta), slta⟩) (cta : PySem.W.codeIn K cdta "_law_take" = true) (kta : PySem.W.keepIn K (.ref fta) = true)
    (ail : PySem.W.nsIn K mainGlobals "is_list" = some (some (.ref fil))) (lil : K.lookup fil = some ⟨ocil, odil, .func (PySem.W.fnOf "is_list" "is_list" (defArgs sIsList) (defBody sIsList) (defScope sIsList) .none kVil dcil pmil anil cdil ctil), slil⟩) (cil : PySem.W.codeIn K cdil "is_list" = true) (kil : PySem.W.keepIn K (.ref fil) = true)
    (aft : PySem.W.nsIn K mainGlobals "_fits" = some (some (.ref fft))) (lft : K.lookup fft = some ⟨ocft, odft, .func (PySem.W.fnOf "_fits" "_fits" (defArgs sFits) (defBody sFits) (defScope sFits) .none kVft dcft pmft anft cdft ctft), slft⟩) (cft : PySem.W.codeIn K cdft "_fits" = true) (kft : PySem.W.keepIn K (.ref fft) = true)
    (ais_ : PySem.W.nsIn K mainGlobals "is_step" = some (some (.ref fis_))) (lis_ : K.lookup fis_ = some ⟨ocis_, odis_, .func (PySem.W.fnOf "is_step" "is_step" (defArgs sIsStep) (defBody sIsStep) (defScope sIsStep) .none kVis_ dcis_ pmis_ anis_ cdis_ ctis_), slis_⟩) (cis_ : PySem.W.codeIn K cdis_ "is_step" = true) (kis_ : PySem.W.keepIn K (.ref fis_) = true)
    (aps : PySem.W.nsIn K mainGlobals "placed_step" = some (some (.ref fps))) (lps : K.lookup fps = some ⟨ocps, odps, .func (PySem.W.fnOf "placed_step" "placed_step" (defArgs sPlacedStep) (defBody sPlacedStep) (defScope sPlacedStep) .none kVps dcps pmps anps cdps ctps), slps⟩) (cps : PySem.W.codeIn K cdps "placed_step" = true) (kps : PySem.W.keepIn K (.ref fps) = true)
    (apz : PySem.W.nsIn K mainGlobals "places_of_step" = some (some (.ref fpz))) (lpz : K.lookup fpz = some ⟨ocpz, odpz, .func (PySem.W.fnOf "places_of_step" "places_of_step" (defArgs sPlacesStep) (defBody sPlacesStep) (defScope sPlacesStep) .none kVpz dcpz pmpz anpz cdpz ctpz), slpz⟩) (cpz : PySem.W.codeIn K cdpz "places_of_step" = true) (kpz : PySem.W.keepIn K (.ref fpz) = true)
    (akl_ : PySem.W.nsIn K mainGlobals "_keeps_locks" = some (some (.ref fkl_))) (lkl_ : K.lookup fkl_ = some ⟨ockl_, odkl_, .func (PySem.W.fnOf "_keeps_locks" "_keeps_locks" (defArgs sKeepsLocks) (defBody sKeepsLocks) (defScope sKeepsLocks) .none kVkl_ dckl_ pmkl_ ankl_ cdkl_ ctkl_), slkl_⟩) (ckl_ : PySem.W.codeIn K cdkl_ "_keeps_locks" = true) (kkl_ : PySem.W.keepIn K (.ref fkl_) = true)
    (ach : PySem.W.nsIn K mainGlobals "_check_hand" = some (some (.ref fch))) (lch : K.lookup fch = some ⟨occh, odch, .func (PySem.W.fnOf "_check_hand" "_check_hand" (defArgs sCheckHand) (defBody sCheckHand) (defScope sCheckHand) .none kVch dcch pmch anch cdch ctch), slch⟩) (cch : PySem.W.codeIn K cdch "_check_hand" = true) (kch : PySem.W.keepIn K (.ref fch) = true)
    (adf : PySem.W.nsIn K mainGlobals "different_places" = some (some (.ref fdf))) (ldf : K.lookup fdf = some ⟨ocdf, oddf, .func (PySem.W.fnOf "different_places" "different_places" (defArgs sDiffPlaces) (defBody sDiffPlaces) (defScope sDiffPlaces) .none kVdf dcdf pmdf andf cddf ctdf), sldf⟩) (cdf : PySem.W.codeIn K cddf "different_places" = true) (kdf : PySem.W.keepIn K (.ref fdf) = true)
    (awp : PySem.W.nsIn K mainGlobals "with_places_of_facts" = some (some (.ref fwp))) (lwp : K.lookup fwp = some ⟨ocwp, odwp, .func (PySem.W.fnOf "with_places_of_facts" "with_places_of_facts" (defArgs sWithPlaces) (defBody sWithPlaces) (defScope sWithPlaces) .none kVwp dcwp pmwp anwp cdwp ctwp), slwp⟩) (cwp : PySem.W.codeIn K cdwp "with_places_of_facts" = true) (kwp : PySem.W.keepIn K (.ref fwp) = true)
    (atm : PySem.W.nsIn K mainGlobals "are_too_many" = some (some (.ref ftm))) (ltm : K.lookup ftm = some ⟨octm, odtm, .func (PySem.W.fnOf "are_too_many" "are_too_many" (defArgs sTooMany) (defBody sTooMany) (defScope sTooMany) .none kVtm dctm pmtm antm cdtm cttm), sltm⟩) (ctm : PySem.W.codeIn K cdtm "are_too_many" = true) (ktm : PySem.W.keepIn K (.ref ftm) = true)
    (awl : PySem.W.nsIn K mainGlobals "are_within_limits" = some (some (.ref fwl))) (lwl : K.lookup fwl = some ⟨ocwl, odwl, .func (PySem.W.fnOf "are_within_limits" "are_within_limits" (defArgs sWithin) (defBody sWithin) (defScope sWithin) .none kVwl dcwl pmwl anwl cdwl ctwl), slwl⟩) (cwl : PySem.W.codeIn K cdwl "are_within_limits" = true) (kwl : PySem.W.keepIn K (.ref fwl) = true)
    (apc : PySem.W.nsIn K mainGlobals "is_page_choice" = some (some (.ref fpc))) (lpc : K.lookup fpc = some ⟨ocpc, odpc, .func (PySem.W.fnOf "is_page_choice" "is_page_choice" (defArgs sPageChoice) (defBody sPageChoice) (defScope sPageChoice) .none kVpc dcpc pmpc anpc cdpc ctpc), slpc⟩) (cpc : PySem.W.codeIn K cdpc "is_page_choice" = true) (kpc : PySem.W.keepIn K (.ref fpc) = true)
    (acp : PySem.W.nsIn K mainGlobals "check_program" = some (some (.ref fcp))) (lcp : K.lookup fcp = some ⟨occp, odcp, .func (PySem.W.fnOf "check_program" "check_program" (defArgs sCheckProgram) (defBody sCheckProgram) (defScope sCheckProgram) .none kVcp dccp pmcp ancp cdcp ctcp), slcp⟩) (ccp : PySem.W.codeIn K cdcp "check_program" = true) (kcp : PySem.W.keepIn K (.ref fcp) = true)
    (apt_ : PySem.W.nsIn K mainGlobals "program_text" = some (some (.ref fpt_))) (lpt_ : K.lookup fpt_ = some ⟨ocpt_, odpt_, .func (PySem.W.fnOf "program_text" "program_text" (defArgs sProgramText) (defBody sProgramText) (defScope sProgramText) .none kVpt_ dcpt_ pmpt_ anpt_ cdpt_ ctpt_), slpt_⟩) (cpt_ : PySem.W.codeIn K cdpt_ "program_text" = true) (kpt_ : PySem.W.keepIn K (.ref fpt_) = true)
    (arp : PySem.W.nsIn K mainGlobals "read_program" = some (some (.ref frp))) (lrp : K.lookup frp = some ⟨ocrp, odrp, .func (PySem.W.fnOf "read_program" "read_program" (defArgs sReadProgram) (defBody sReadProgram) (defScope sReadProgram) .none kVrp dcrp pmrp anrp cdrp ctrp), slrp⟩) (crp : PySem.W.codeIn K cdrp "read_program" = true) (krp : PySem.W.keepIn K (.ref frp) = true)
    (awf : PySem.W.nsIn K mainGlobals "_word_of" = some (some (.ref fwf))) (lwf : K.lookup fwf = some ⟨ocwf, odwf, .func (PySem.W.fnOf "_word_of" "_word_of" (defArgs sWordOf) (defBody sWordOf) (defScope sWordOf) .none kVwf dcwf pmwf anwf cdwf ctwf), slwf⟩) (cwf : PySem.W.codeIn K cdwf "_word_of" = true) (kwf : PySem.W.keepIn K (.ref fwf) = true)
    (apg_ : PySem.W.nsIn K mainGlobals "_page_texts" = some (some (.ref fpg_))) (lpg_ : K.lookup fpg_ = some ⟨ocpg_, odpg_, .func (PySem.W.fnOf "_page_texts" "_page_texts" (defArgs sPageTexts) (defBody sPageTexts) (defScope sPageTexts) .none kVpg_ dcpg_ pmpg_ anpg_ cdpg_ ctpg_), slpg_⟩) (cpg_ : PySem.W.codeIn K cdpg_ "_page_texts" = true) (kpg_ : PySem.W.keepIn K (.ref fpg_) = true)
    (acs : PySem.W.nsIn K mainGlobals "_can_stand" = some (some (.ref fcs))) (lcs : K.lookup fcs = some ⟨occs, odcs, .func (PySem.W.fnOf "_can_stand" "_can_stand" (defArgs sCanStand) (defBody sCanStand) (defScope sCanStand) .none kVcs dccs pmcs ancs cdcs ctcs), slcs⟩) (ccs : PySem.W.codeIn K cdcs "_can_stand" = true) (kcs : PySem.W.keepIn K (.ref fcs) = true)
    (aho : PySem.W.nsIn K mainGlobals "_hands_of" = some (some (.ref fho))) (lho : K.lookup fho = some ⟨ocho, odho, .func (PySem.W.fnOf "_hands_of" "_hands_of" (defArgs sHandsOf) (defBody sHandsOf) (defScope sHandsOf) .none kVho dcho pmho anho cdho ctho), slho⟩) (cho : PySem.W.codeIn K cdho "_hands_of" = true) (kho : PySem.W.keepIn K (.ref fho) = true)
    (awo : PySem.W.nsIn K mainGlobals "_law_word" = some (some (.ref fwo))) (lwo : K.lookup fwo = some ⟨ocwo, odwo, .func (PySem.W.fnOf "_law_word" "_law_word" (defArgs sWord) (defBody sWord) (defScope sWord) .none kVwo dcwo pmwo anwo cdwo ctwo), slwo⟩) (cwo : PySem.W.codeIn K cdwo "_law_word" = true) (kwo : PySem.W.keepIn K (.ref fwo) = true)
    (anm : PySem.W.nsIn K mainGlobals "_law_names" = some (some (.ref fnm))) (lnm : K.lookup fnm = some ⟨ocnm, odnm, .func (PySem.W.fnOf "_law_names" "_law_names" (defArgs sNames) (defBody sNames) (defScope sNames) .none kVnm dcnm pmnm annm cdnm ctnm), slnm⟩) (cnm : PySem.W.codeIn K cdnm "_law_names" = true) (knm : PySem.W.keepIn K (.ref fnm) = true)
    (afy : PySem.W.nsIn K mainGlobals "_law_faulty" = some (some (.ref ffy))) (lfy : K.lookup ffy = some ⟨ocfy, odfy, .func (PySem.W.fnOf "_law_faulty" "_law_faulty" (defArgs sFaulty) (defBody sFaulty) (defScope sFaulty) .none kVfy dcfy pmfy anfy cdfy ctfy), slfy⟩) (cfy : PySem.W.codeIn K cdfy "_law_faulty" = true) (kfy : PySem.W.keepIn K (.ref ffy) = true)
    (ard : PySem.W.nsIn K mainGlobals "_law_read" = some (some (.ref frd))) (lrd : K.lookup frd = some ⟨ocrd, odrd, .func (PySem.W.fnOf "_law_read" "_law_read" (defArgs sRead) (defBody sRead) (defScope sRead) .none kVrd dcrd pmrd anrd cdrd ctrd), slrd⟩) (crd : PySem.W.codeIn K cdrd "_law_read" = true) (krd : PySem.W.keepIn K (.ref frd) = true)
    (alr : PySem.W.nsIn K mainGlobals "_law_line_right" = some (some (.ref flr))) (llr : K.lookup flr = some ⟨oclr, odlr, .func (PySem.W.fnOf "_law_line_right" "_law_line_right" (defArgs sLineRight) (defBody sLineRight) (defScope sLineRight) .none kVlr dclr pmlr anlr cdlr ctlr), sllr⟩) (clr : PySem.W.codeIn K cdlr "_law_line_right" = true) (klr : PySem.W.keepIn K (.ref flr) = true)
    (ato : PySem.W.nsIn K mainGlobals "_law_told" = some (some (.ref fto))) (lto : K.lookup fto = some ⟨octo, odto, .func (PySem.W.fnOf "_law_told" "_law_told" (defArgs sLTold) (defBody sLTold) (defScope sLTold) .none kVto dcto pmto anto cdto ctto), slto⟩) (cto : PySem.W.codeIn K cdto "_law_told" = true) (kto : PySem.W.keepIn K (.ref fto) = true)
    (ala : PySem.W.nsIn K mainGlobals "law" = some (some (.ref fla))) (lla : K.lookup fla = some ⟨ocla, odla, .func (PySem.W.fnOf "law" "law" (defArgs sLaw) (defBody sLaw) (defScope sLaw) .none kVla dcla pmla anla cdla ctla), slla⟩) (cla : PySem.W.codeIn K cdla "law" = true) (kla : PySem.W.keepIn K (.ref fla) = true)
    (aCP : PySem.W.nsIn K mainGlobals "Place" = some (some (.ref cP)))
    (aCH : PySem.W.nsIn K mainGlobals "Facts" = some (some (.ref cH)))
    (aCQ : PySem.W.nsIn K mainGlobals "Program" = some (some (.ref cQ)))
    (aCX : PySem.W.nsIn K mainGlobals "InvalidPlace" = some (some (.ref cX)))
    (aCI : PySem.W.nsIn K mainGlobals "InvalidInteger" = some (some (.ref cI)))
    (aCR : PySem.W.nsIn K mainGlobals "InvalidFact" = some (some (.ref cR)))
    (aCF : PySem.W.nsIn K mainGlobals "InvalidFacts" = some (some (.ref cF)))
    (aCV : PySem.W.nsIn K mainGlobals "InvalidProgram" = some (some (.ref cV)))
    (aCJ : PySem.W.nsIn K mainGlobals "InvalidHand" = some (some (.ref cJ)))
    (aCW : PySem.W.nsIn K mainGlobals "InvalidStep" = some (some (.ref cW)))
    (aCL : PySem.W.nsIn K mainGlobals "InvalidLine" = some (some (.ref cL)))
    (aCM : PySem.W.nsIn K mainGlobals "MapError" = some (some (.ref cM)))
    (amo : PySem.W.findCls K (.ref cP) (.type "type") "of" = some (.get (.builtin "classmethod.__get__") (.ref po) .none (.ref cP))) (amo2 : PySem.W.recIn K po "classmethod" = some (.ref fmo :: ro)) (lmo : K.lookup fmo = some ⟨ocmo, odmo, .func (PySem.W.fnOf "of" "Place.of" (defArgs (inClass sPlace 1)) (defBody (inClass sPlace 1)) (defScope (inClass sPlace 1)) .none kVmo dcmo pmmo anmo cdmo ctmo), slmo⟩) (cmo : PySem.W.codeIn K cdmo "Place.of" = true) (kmo : PySem.W.keepIn K (.ref fmo) = true)
    (amb : PySem.W.findIn K (.ref cP) "base" = some (some (.ref pb))) (amb1 : PySem.W.specialIn K (.ref pb) "__get__" = some (some (.builtin "property.__get__"))) (amb2 : PySem.W.takesIn K (.ref pb) = some true) (amb3 : PySem.W.recIn K pb "property" = some (.ref fmb :: rb)) (lmb : K.lookup fmb = some ⟨ocmb, odmb, .func (PySem.W.fnOf "base" "Place.base" (defArgs (inClass sPlace 2)) (defBody (inClass sPlace 2)) (defScope (inClass sPlace 2)) .none kVmb dcmb pmmb anmb cdmb ctmb), slmb⟩) (cmb : PySem.W.codeIn K cdmb "Place.base" = true) (kmb : PySem.W.keepIn K (.ref fmb) = true)
    (ams : PySem.W.findIn K (.ref cP) "__str__" = some (some (.ref fms))) (lms : K.lookup fms = some ⟨ocms, odms, .func (PySem.W.fnOf "__str__" "Place.__str__" (defArgs (inClass sPlace 4)) (defBody (inClass sPlace 4)) (defScope (inClass sPlace 4)) .none kVms dcms pmms anms cdms ctms), slms⟩) (cms : PySem.W.codeIn K cdms "Place.__str__" = true) (kms : PySem.W.keepIn K (.ref fms) = true)
    (amx : PySem.W.findIn K (.ref cX) "__init__" = some (some (.ref fmx))) (lmx : K.lookup fmx = some ⟨ocmx, odmx, .func (PySem.W.fnOf "__init__" "InvalidPlace.__init__" (defArgs (inClass sInvPlace 0)) (defBody (inClass sInvPlace 0)) (defScope (inClass sInvPlace 0)) .none kVmx dcmx pmmx anmx cdmx ctmx), slmx⟩) (cmx : PySem.W.codeIn K cdmx "InvalidPlace.__init__" = true) (kmx : PySem.W.keepIn K (.ref fmx) = true)
    (ami : PySem.W.findIn K (.ref cI) "__init__" = some (some (.ref fmi))) (lmi : K.lookup fmi = some ⟨ocmi, odmi, .func (PySem.W.fnOf "__init__" "InvalidInteger.__init__" (defArgs (inClass sInvInt 0)) (defBody (inClass sInvInt 0)) (defScope (inClass sInvInt 0)) .none kVmi dcmi pmmi anmi cdmi ctmi), slmi⟩) (cmi : PySem.W.codeIn K cdmi "InvalidInteger.__init__" = true) (kmi : PySem.W.keepIn K (.ref fmi) = true)
    (amr : PySem.W.findIn K (.ref cR) "__init__" = some (some (.ref fmr))) (lmr : K.lookup fmr = some ⟨ocmr, odmr, .func (PySem.W.fnOf "__init__" "InvalidFact.__init__" (defArgs (inClass sInvFact 0)) (defBody (inClass sInvFact 0)) (defScope (inClass sInvFact 0)) .none kVmr dcmr pmmr anmr cdmr ctmr), slmr⟩) (cmr : PySem.W.codeIn K cdmr "InvalidFact.__init__" = true) (kmr : PySem.W.keepIn K (.ref fmr) = true)
    (amf : PySem.W.findIn K (.ref cF) "__init__" = some (some (.ref fmf))) (lmf : K.lookup fmf = some ⟨ocmf, odmf, .func (PySem.W.fnOf "__init__" "InvalidFacts.__init__" (defArgs (inClass sInvFacts 0)) (defBody (inClass sInvFacts 0)) (defScope (inClass sInvFacts 0)) .none kVmf dcmf pmmf anmf cdmf ctmf), slmf⟩) (cmf : PySem.W.codeIn K cdmf "InvalidFacts.__init__" = true) (kmf : PySem.W.keepIn K (.ref fmf) = true)
    (amv : PySem.W.findIn K (.ref cV) "__init__" = some (some (.ref fmv))) (lmv : K.lookup fmv = some ⟨ocmv, odmv, .func (PySem.W.fnOf "__init__" "InvalidProgram.__init__" (defArgs (inClass sInvProg 0)) (defBody (inClass sInvProg 0)) (defScope (inClass sInvProg 0)) .none kVmv dcmv pmmv anmv cdmv ctmv), slmv⟩) (cmv : PySem.W.codeIn K cdmv "InvalidProgram.__init__" = true) (kmv : PySem.W.keepIn K (.ref fmv) = true)
    (amj : PySem.W.findIn K (.ref cJ) "__init__" = some (some (.ref fmj))) (lmj : K.lookup fmj = some ⟨ocmj, odmj, .func (PySem.W.fnOf "__init__" "InvalidHand.__init__" (defArgs (inClass sInvHand 0)) (defBody (inClass sInvHand 0)) (defScope (inClass sInvHand 0)) .none kVmj dcmj pmmj anmj cdmj ctmj), slmj⟩) (cmj : PySem.W.codeIn K cdmj "InvalidHand.__init__" = true) (kmj : PySem.W.keepIn K (.ref fmj) = true)
    (amw : PySem.W.findIn K (.ref cW) "__init__" = some (some (.ref fmw))) (lmw : K.lookup fmw = some ⟨ocmw, odmw, .func (PySem.W.fnOf "__init__" "InvalidStep.__init__" (defArgs (inClass sInvStep 0)) (defBody (inClass sInvStep 0)) (defScope (inClass sInvStep 0)) .none kVmw dcmw pmmw anmw cdmw ctmw), slmw⟩) (cmw : PySem.W.codeIn K cdmw "InvalidStep.__init__" = true) (kmw : PySem.W.keepIn K (.ref fmw) = true)
    (aml : PySem.W.findIn K (.ref cL) "__init__" = some (some (.ref fml))) (lml : K.lookup fml = some ⟨ocml, odml, .func (PySem.W.fnOf "__init__" "InvalidLine.__init__" (defArgs (inClass sInvLine 0)) (defBody (inClass sInvLine 0)) (defScope (inClass sInvLine 0)) .none kVml dcml pmml anml cdml ctml), slml⟩) (cml : PySem.W.codeIn K cdml "InvalidLine.__init__" = true) (kml : PySem.W.keepIn K (.ref fml) = true)
    (ah0 : PySem.W.findIn K (.ref cH) "__init__" = some (some (.ref fh0))) (lh0 : K.lookup fh0 = some ⟨och0, odh0, .func (PySem.W.fnOf "__init__" "Facts.__init__" (defArgs (inClass sFacts 0)) (defBody (inClass sFacts 0)) (defScope (inClass sFacts 0)) .none kVh0 dch0 pmh0 anh0 cdh0 cth0), slh0⟩) (ch0 : PySem.W.codeIn K cdh0 "Facts.__init__" = true) (kh0 : PySem.W.keepIn K (.ref fh0) = true)
    (ah1 : PySem.W.findIn K (.ref cH) "rows" = some (some (.ref fh1))) (lh1 : K.lookup fh1 = some ⟨och1, odh1, .func (PySem.W.fnOf "rows" "Facts.rows" (defArgs (inClass sFacts 1)) (defBody (inClass sFacts 1)) (defScope (inClass sFacts 1)) .none kVh1 dch1 pmh1 anh1 cdh1 cth1), slh1⟩) (ch1 : PySem.W.codeIn K cdh1 "Facts.rows" = true) (kh1 : PySem.W.keepIn K (.ref fh1) = true)
    (ah4 : PySem.W.findIn K (.ref cH) "__and__" = some (some (.ref fh4))) (lh4 : K.lookup fh4 = some ⟨och4, odh4, .func (PySem.W.fnOf "__and__" "Facts.__and__" (defArgs (inClass sFacts 4)) (defBody (inClass sFacts 4)) (defScope (inClass sFacts 4)) .none kVh4 dch4 pmh4 anh4 cdh4 cth4), slh4⟩) (ch4 : PySem.W.codeIn K cdh4 "Facts.__and__" = true) (kh4 : PySem.W.keepIn K (.ref fh4) = true)
    (aq0 : PySem.W.findIn K (.ref cQ) "__init__" = some (some (.ref fq0))) (lq0 : K.lookup fq0 = some ⟨ocq0, odq0, .func (PySem.W.fnOf "__init__" "Program.__init__" (defArgs (inClass sProgram 0)) (defBody (inClass sProgram 0)) (defScope (inClass sProgram 0)) .none kVq0 dcq0 pmq0 anq0 cdq0 ctq0), slq0⟩) (cq0 : PySem.W.codeIn K cdq0 "Program.__init__" = true) (kq0 : PySem.W.keepIn K (.ref fq0) = true)
    (jms : PySem.W.isFn K (.ref fms) = true)
    (jh0 : PySem.W.isFn K (.ref fh0) = true)
    (jh1 : PySem.W.isFn K (.ref fh1) = true)
    (jh4 : PySem.W.isFn K (.ref fh4) = true)
    (fo : PySem.W.fnIn K fmo = true)
    (tfX : PySem.W.typeIn K (.ref fmx) = some (.type "function"))
    (tfI : PySem.W.typeIn K (.ref fmi) = some (.type "function"))
    (tfR : PySem.W.typeIn K (.ref fmr) = some (.type "function"))
    (tfF : PySem.W.typeIn K (.ref fmf) = some (.type "function"))
    (tfV : PySem.W.typeIn K (.ref fmv) = some (.type "function"))
    (tfJ : PySem.W.typeIn K (.ref fmj) = some (.type "function"))
    (tfW : PySem.W.typeIn K (.ref fmw) = some (.type "function"))
    (tfL : PySem.W.typeIn K (.ref fml) = some (.type "function"))
    {odI anI odT : Option Addr} {slI slT : Array (Option Value)} {ocI dcI pmI cdI ctI : Value} {nT : Nat} {kT kS kL kA kM kU : Tok}
    (iI : PySem.W.findIn K (.ref cP) "__init__" = some (some (.ref fI)))
    (jI : PySem.W.isFn K (.ref fI) = true)
    (lI : K.lookup fI = some ⟨ocI, odI, .func (PySem.W.fnOf "__init__" "Place.__init__" (defArgs (inClass sPlace 0)) (defBody (inClass sPlace 0)) (defScope (inClass sPlace 0)) (.ref tD) (.ref kD) dcI pmI anI cdI ctI), slI⟩)
    (cI_ : PySem.W.codeIn K cdI "Place.__init__" = true)
    (kI : PySem.W.keepIn K (.ref fI) = true)
    (lT : K.lookup tD = some ⟨.type "tuple", odT, .seq #[.str "" kT] nT, slT⟩)
    (sD : PySem.W.nsIn K kD "shift" = some (some (.int 0 kS)))
    (hn : PySem.W.specialIn K (.builtin "object.__class__") "__get__" = some (some (.builtin "getset_descriptor.__get__")))
    (htk : PySem.W.takesIn K (.builtin "object.__class__") = some true)
    (nB : PySem.W.findIn K (.ref cP) "_base" = some none)
    (nS : PySem.W.findIn K (.ref cP) "_shift" = some none)
    (rdP : PySem.W.readsIn K cP (.type "type") = true)
    (gaP : PySem.W.specialIn K (.ref cP) "__getattribute__" = some (some (.builtin "type.__getattribute__")))
    (xiP : PySem.W.mroIn K cP (.type "int") = some false)
    (xsP : PySem.W.mroIn K cP (.type "str") = some false)
    (sf : PySem.W.selfFirst K cP = true)
    (pgP : PySem.W.plainGet K cP Str.empty = true)
    (hdP : PySem.W.hasDictIn K cP = true)
    (pv_P : PySem.W.plainOver K cP = true)
    (saP : PySem.W.findIn K (.ref cP) "__setattr__" = some (some (.builtin "object.__setattr__")))
    (mkP : PySem.W.makesIn K cP = true)
    (kcP : PySem.W.keepIn K (.ref cP) = true)
    (haP : PySem.W.findIn K (.ref cP) "__class__" = some (some (.builtin "object.__class__")))
    (hmP : PySem.W.mroIn K cP (.type "object") = some true)
    (tCP : PySem.W.typeIn K (.ref cP) = some (.type "type"))
    (pgH : PySem.W.plainGet K cH Str.empty = true)
    (hdH : PySem.W.hasDictIn K cH = true)
    (pv_H : PySem.W.plainOver K cH = true)
    (saH : PySem.W.findIn K (.ref cH) "__setattr__" = some (some (.builtin "object.__setattr__")))
    (mkH : PySem.W.makesIn K cH = true)
    (kcH : PySem.W.keepIn K (.ref cH) = true)
    (haH : PySem.W.findIn K (.ref cH) "__class__" = some (some (.builtin "object.__class__")))
    (hmH : PySem.W.mroIn K cH (.type "object") = some true)
    (tCH : PySem.W.typeIn K (.ref cH) = some (.type "type"))
    (pgQ : PySem.W.plainGet K cQ Str.empty = true)
    (hdQ : PySem.W.hasDictIn K cQ = true)
    (pv_Q : PySem.W.plainOver K cQ = true)
    (saQ : PySem.W.findIn K (.ref cQ) "__setattr__" = some (some (.builtin "object.__setattr__")))
    (mkQ : PySem.W.makesIn K cQ = true)
    (kcQ : PySem.W.keepIn K (.ref cQ) = true)
    (haQ : PySem.W.findIn K (.ref cQ) "__class__" = some (some (.builtin "object.__class__")))
    (hmQ : PySem.W.mroIn K cQ (.type "object") = some true)
    (tCQ : PySem.W.typeIn K (.ref cQ) = some (.type "type"))
    (nRH : PySem.W.findIn K (.ref cH) "_rows" = some none)
    (nUH : PySem.W.findIn K (.ref cH) "_unknowns" = some none)
    (sfH : PySem.W.selfFirst K cH = true)
    (anH : PySem.W.findIn K (.ref cH) "__rand__" = some none)
    (eQ : kVq0 = .ref kQ)
    (sQ1 : PySem.W.nsIn K kQ "facts" = some (some .none))
    (sQ2 : PySem.W.nsIn K kQ "page" = some (some .none))
    (nQ0 : PySem.W.findIn K (.ref cQ) "_hands" = some none)
    (nQ1 : PySem.W.findIn K (.ref cQ) "_first" = some none)
    (nQ2 : PySem.W.findIn K (.ref cQ) "_facts" = some none)
    (nQ3 : PySem.W.findIn K (.ref cQ) "_page" = some none)
    (nQ4 : PySem.W.findIn K (.ref cQ) "_places" = some none)
    (nQ5 : PySem.W.findIn K (.ref cQ) "_unknowns" = some none)
    (jq0 : PySem.W.isFn K (.ref fq0) = true)
    (nePQ : cP ≠ cQ)
    (neHQ : cH ≠ cQ)
    (uFL : PySem.W.subIn K (.ref cF) (.ref cL) = some false)
    (uJL : PySem.W.subIn K (.ref cJ) (.ref cL) = some false)
    (uJF : PySem.W.subIn K (.ref cJ) (.ref cF) = some false)
    (uVL : PySem.W.subIn K (.ref cV) (.ref cL) = some false)
    (uVF : PySem.W.subIn K (.ref cV) (.ref cF) = some false)
    (uVJ : PySem.W.subIn K (.ref cV) (.ref cJ) = some false)
    (gMH : ∃ k : Tok, PySem.W.nsIn K mainGlobals "_MOST_HANDS" = some (some (.int 3 k)))
    (gMS : ∃ k : Tok, PySem.W.nsIn K mainGlobals "_MOST_STEPS" = some (some (.int 12 k)))
    (gMP : ∃ k : Tok, PySem.W.nsIn K mainGlobals "_MOST_PLACES" = some (some (.int 14 k)))
    (gLL : ∃ k : Tok, PySem.W.nsIn K mainGlobals "LEAST_LARGE_PAGE" = some (some (.int 32 k)))
    (gN : PySem.W.nsIn K mainGlobals "_NO_MARKS" = some (some (.ref pM)))
    (lM : K.lookup pM = some ⟨.type "tuple", odM, .seq #[.str "old" m1, .str "zero" m2, .str "end" m3, .str "fails" m4, .str "more" m5, .str "done" m6, .str "none" m7] nM, slM⟩)
    (gF : PySem.W.nsIn K mainGlobals "_FORMS" = some (some (.ref dF)))
    (tF : K.lookup dF = some ⟨.type "dict", none, .dict #[⟨uF0, .str "cut" pF0, .ref aF0⟩, ⟨uF1, .str "write" pF1, .ref aF1⟩, ⟨uF2, .str "read" pF2, .ref aF2⟩, ⟨uF3, .str "look" pF3, .ref aF3⟩, ⟨uF4, .str "store" pF4, .ref aF4⟩, ⟨uF5, .str "test" pF5, .ref aF5⟩, ⟨uF6, .str "sync" pF6, .ref aF6⟩, ⟨uF7, .str "lock" pF7, .ref aF7⟩, ⟨uF8, .str "unlock" pF8, .ref aF8⟩] znF, #[]⟩)
    (eF0 : uF0 = PyData.keyHash w.params "cut")
    (eF1 : uF1 = PyData.keyHash w.params "write")
    (eF2 : uF2 = PyData.keyHash w.params "read")
    (eF3 : uF3 = PyData.keyHash w.params "look")
    (eF4 : uF4 = PyData.keyHash w.params "store")
    (eF5 : uF5 = PyData.keyHash w.params "test")
    (eF6 : uF6 = PyData.keyHash w.params "sync")
    (eF7 : uF7 = PyData.keyHash w.params "lock")
    (eF8 : uF8 = PyData.keyHash w.params "unlock")
    (wF : (dF == sysModules) = false)
    (lF0 : K.lookup aF0 = some ⟨.type "tuple", oF0, .seq #[.str "place" qF0_0] nF0, sF0⟩)
    (lF1 : K.lookup aF1 = some ⟨.type "tuple", oF1, .seq #[.str "place" qF1_0, .str "place" qF1_1, .str "mark" qF1_2] nF1, sF1⟩)
    (lF2 : K.lookup aF2 = some ⟨.type "tuple", oF2, .seq #[.str "place" qF2_0] nF2, sF2⟩)
    (lF3 : K.lookup aF3 = some ⟨.type "tuple", oF3, .seq #[.str "place" qF3_0] nF3, sF3⟩)
    (lF4 : K.lookup aF4 = some ⟨.type "tuple", oF4, .seq #[.str "place" qF4_0, .str "mark" qF4_1] nF4, sF4⟩)
    (lF5 : K.lookup aF5 = some ⟨.type "tuple", oF5, .seq #[.str "place" qF5_0] nF5, sF5⟩)
    (lF6 : K.lookup aF6 = some ⟨.type "tuple", oF6, .seq #[.str "place" qF6_0, .str "place" qF6_1] nF6, sF6⟩)
    (lF7 : K.lookup aF7 = some ⟨.type "tuple", oF7, .seq #[.str "name" qF7_0] nF7, sF7⟩)
    (lF8 : K.lookup aF8 = some ⟨.type "tuple", oF8, .seq #[.str "name" qF8_0] nF8, sF8⟩)
    {nmX qqX : Str} {NNX : Addr} {bsX bmX : List Value} {snX : List Str} {subX : List Value} {abX : Bool} {colX : Option Bool} {ddX : Option Addr} {k0X k1X k2X k3X k5X : Option Value}
    (lXx : K.lookup cX = some (excClassObj nmX qqX cX NNX bsX bmX true snX subX abX colX ddX k0X k1X k2X k3X k5X "ValueError.__new__"))
    (rX : PySem.HandSPX.refsVE bmX = true)
    (saXe : PySem.W.findIn K (.ref cX) "__setattr__" = some (some (.builtin "object.__setattr__")))
    (exXe : PySem.W.subIn K (.ref cX) (.type "BaseException") = some true)
    (tyXe : PySem.W.typeIn K (.ref cX) = some (.type "type"))
    (kXe : PySem.W.keepIn K (.ref cX) = true)
    (gaXe : PySem.W.findIn K (.ref cX) "__getattribute__" = some (some (.builtin "BaseException.__getattribute__")))
    (ggXe : PySem.W.findIn K (.ref cX) "__getattr__" = some none)
    (hdXe : PySem.W.hasDictIn K cX = true)
    (suXe : PySem.W.subIn K (.ref cX) (.ref cX) = some true)
    (noXe : PySem.W.findIn K (.ref cX) "value" = some none)
    {nmI qqI : Str} {NNI : Addr} {bsI bmI : List Value} {snI : List Str} {subI : List Value} {abI : Bool} {colI : Option Bool} {ddI : Option Addr} {k0I k1I k2I k3I k5I : Option Value}
    (lIx : K.lookup cI = some (excClassObj nmI qqI cI NNI bsI bmI true snI subI abI colI ddI k0I k1I k2I k3I k5I "ValueError.__new__"))
    (rI : PySem.HandSPX.refsVE bmI = true)
    (saIe : PySem.W.findIn K (.ref cI) "__setattr__" = some (some (.builtin "object.__setattr__")))
    (exIe : PySem.W.subIn K (.ref cI) (.type "BaseException") = some true)
    (tyIe : PySem.W.typeIn K (.ref cI) = some (.type "type"))
    (kIe : PySem.W.keepIn K (.ref cI) = true)
    (gaIe : PySem.W.findIn K (.ref cI) "__getattribute__" = some (some (.builtin "BaseException.__getattribute__")))
    (ggIe : PySem.W.findIn K (.ref cI) "__getattr__" = some none)
    (hdIe : PySem.W.hasDictIn K cI = true)
    (suIe : PySem.W.subIn K (.ref cI) (.ref cI) = some true)
    (noIe : PySem.W.findIn K (.ref cI) "value" = some none)
    {nmR qqR : Str} {NNR : Addr} {bsR bmR : List Value} {snR : List Str} {subR : List Value} {abR : Bool} {colR : Option Bool} {ddR : Option Addr} {k0R k1R k2R k3R k5R : Option Value}
    (lRx : K.lookup cR = some (excClassObj nmR qqR cR NNR bsR bmR true snR subR abR colR ddR k0R k1R k2R k3R k5R "ValueError.__new__"))
    (rR : PySem.HandSPX.refsVE bmR = true)
    (saRe : PySem.W.findIn K (.ref cR) "__setattr__" = some (some (.builtin "object.__setattr__")))
    (exRe : PySem.W.subIn K (.ref cR) (.type "BaseException") = some true)
    (tyRe : PySem.W.typeIn K (.ref cR) = some (.type "type"))
    (kRe : PySem.W.keepIn K (.ref cR) = true)
    (gaRe : PySem.W.findIn K (.ref cR) "__getattribute__" = some (some (.builtin "BaseException.__getattribute__")))
    (ggRe : PySem.W.findIn K (.ref cR) "__getattr__" = some none)
    (hdRe : PySem.W.hasDictIn K cR = true)
    (suRe : PySem.W.subIn K (.ref cR) (.ref cR) = some true)
    (noRe : PySem.W.findIn K (.ref cR) "value" = some none)
    {nmF qqF : Str} {NNF : Addr} {bsF bmF : List Value} {snF : List Str} {subF : List Value} {abF : Bool} {colF : Option Bool} {ddF : Option Addr} {k0F k1F k2F k3F k5F : Option Value}
    (lFx : K.lookup cF = some (excClassObj nmF qqF cF NNF bsF bmF true snF subF abF colF ddF k0F k1F k2F k3F k5F "ValueError.__new__"))
    (rF : PySem.HandSPX.refsVE bmF = true)
    (saFe : PySem.W.findIn K (.ref cF) "__setattr__" = some (some (.builtin "object.__setattr__")))
    (exFe : PySem.W.subIn K (.ref cF) (.type "BaseException") = some true)
    (tyFe : PySem.W.typeIn K (.ref cF) = some (.type "type"))
    (kFe : PySem.W.keepIn K (.ref cF) = true)
    (gaFe : PySem.W.findIn K (.ref cF) "__getattribute__" = some (some (.builtin "BaseException.__getattribute__")))
    (ggFe : PySem.W.findIn K (.ref cF) "__getattr__" = some none)
    (hdFe : PySem.W.hasDictIn K cF = true)
    (suFe : PySem.W.subIn K (.ref cF) (.ref cF) = some true)
    (noFe : PySem.W.findIn K (.ref cF) "value" = some none)
    {nmV qqV : Str} {NNV : Addr} {bsV bmV : List Value} {snV : List Str} {subV : List Value} {abV : Bool} {colV : Option Bool} {ddV : Option Addr} {k0V k1V k2V k3V k5V : Option Value}
    (lVx : K.lookup cV = some (excClassObj nmV qqV cV NNV bsV bmV true snV subV abV colV ddV k0V k1V k2V k3V k5V "ValueError.__new__"))
    (rV : PySem.HandSPX.refsVE bmV = true)
    (saVe : PySem.W.findIn K (.ref cV) "__setattr__" = some (some (.builtin "object.__setattr__")))
    (exVe : PySem.W.subIn K (.ref cV) (.type "BaseException") = some true)
    (tyVe : PySem.W.typeIn K (.ref cV) = some (.type "type"))
    (kVe : PySem.W.keepIn K (.ref cV) = true)
    (gaVe : PySem.W.findIn K (.ref cV) "__getattribute__" = some (some (.builtin "BaseException.__getattribute__")))
    (ggVe : PySem.W.findIn K (.ref cV) "__getattr__" = some none)
    (hdVe : PySem.W.hasDictIn K cV = true)
    (suVe : PySem.W.subIn K (.ref cV) (.ref cV) = some true)
    (noVe : PySem.W.findIn K (.ref cV) "value" = some none)
    {nmJ qqJ : Str} {NNJ : Addr} {bsJ bmJ : List Value} {snJ : List Str} {subJ : List Value} {abJ : Bool} {colJ : Option Bool} {ddJ : Option Addr} {k0J k1J k2J k3J k5J : Option Value}
    (lJx : K.lookup cJ = some (excClassObj nmJ qqJ cJ NNJ bsJ bmJ true snJ subJ abJ colJ ddJ k0J k1J k2J k3J k5J "ValueError.__new__"))
    (rJ : PySem.HandSPX.refsVE bmJ = true)
    (saJe : PySem.W.findIn K (.ref cJ) "__setattr__" = some (some (.builtin "object.__setattr__")))
    (exJe : PySem.W.subIn K (.ref cJ) (.type "BaseException") = some true)
    (tyJe : PySem.W.typeIn K (.ref cJ) = some (.type "type"))
    (kJe : PySem.W.keepIn K (.ref cJ) = true)
    (gaJe : PySem.W.findIn K (.ref cJ) "__getattribute__" = some (some (.builtin "BaseException.__getattribute__")))
    (ggJe : PySem.W.findIn K (.ref cJ) "__getattr__" = some none)
    (hdJe : PySem.W.hasDictIn K cJ = true)
    (suJe : PySem.W.subIn K (.ref cJ) (.ref cJ) = some true)
    (noJe : PySem.W.findIn K (.ref cJ) "value" = some none)
    {nmW qqW : Str} {NNW : Addr} {bsW bmW : List Value} {snW : List Str} {subW : List Value} {abW : Bool} {colW : Option Bool} {ddW : Option Addr} {k0W k1W k2W k3W k5W : Option Value}
    (lWx : K.lookup cW = some (excClassObj nmW qqW cW NNW bsW bmW true snW subW abW colW ddW k0W k1W k2W k3W k5W "ValueError.__new__"))
    (rW : PySem.HandSPX.refsVE bmW = true)
    (saWe : PySem.W.findIn K (.ref cW) "__setattr__" = some (some (.builtin "object.__setattr__")))
    (exWe : PySem.W.subIn K (.ref cW) (.type "BaseException") = some true)
    (tyWe : PySem.W.typeIn K (.ref cW) = some (.type "type"))
    (kWe : PySem.W.keepIn K (.ref cW) = true)
    (gaWe : PySem.W.findIn K (.ref cW) "__getattribute__" = some (some (.builtin "BaseException.__getattribute__")))
    (ggWe : PySem.W.findIn K (.ref cW) "__getattr__" = some none)
    (hdWe : PySem.W.hasDictIn K cW = true)
    (suWe : PySem.W.subIn K (.ref cW) (.ref cW) = some true)
    (noWe : PySem.W.findIn K (.ref cW) "value" = some none)
    {nmL qqL : Str} {NNL : Addr} {bsL bmL : List Value} {snL : List Str} {subL : List Value} {abL : Bool} {colL : Option Bool} {ddL : Option Addr} {k0L k1L k2L k3L k5L : Option Value}
    (lLx : K.lookup cL = some (excClassObj nmL qqL cL NNL bsL bmL true snL subL abL colL ddL k0L k1L k2L k3L k5L "ValueError.__new__"))
    (rL : PySem.HandSPX.refsVE bmL = true)
    (saLe : PySem.W.findIn K (.ref cL) "__setattr__" = some (some (.builtin "object.__setattr__")))
    (exLe : PySem.W.subIn K (.ref cL) (.type "BaseException") = some true)
    (tyLe : PySem.W.typeIn K (.ref cL) = some (.type "type"))
    (kLe : PySem.W.keepIn K (.ref cL) = true)
    (gaLe : PySem.W.findIn K (.ref cL) "__getattribute__" = some (some (.builtin "BaseException.__getattribute__")))
    (ggLe : PySem.W.findIn K (.ref cL) "__getattr__" = some none)
    (hdLe : PySem.W.hasDictIn K cL = true)
    (suLe : PySem.W.subIn K (.ref cL) (.ref cL) = some true)
    (noLe : PySem.W.findIn K (.ref cL) "index" = some none)
    (rdM : PySem.W.readsIn K cM (.type "type") = true)
    (gaM : PySem.W.specialIn K (.ref cM) "__getattribute__" = some (some (.builtin "type.__getattribute__")))
    (fcM : PySem.W.findCls K (.ref cM) (.type "type") "__init__" = some (.val (.builtin "ValueError.__init__")))
    (gL : PySem.W.nsIn K mainGlobals "_LONGEST_NAME" = some (some (.int 6 kL)))
    (gA : PySem.W.nsIn K mainGlobals "_LETTERS" = some (some (.str abc kA)))
    (gM : PySem.W.nsIn K mainGlobals "_MOST" = some (some (.int 3 kM)))
    (gU : PySem.W.nsIn K mainGlobals "MOST_UNKNOWNS" = some (some (.int 2 kU)))
    {zntn : Nat} {utn0 utn1 utn2 utn3 : Int} {ptn0 qtn0 ptn1 qtn1 ptn2 qtn2 ptn3 qtn3 : Tok}
    (gtn : PySem.W.nsIn K mainGlobals "_NUMBERS" = some (some (.ref dtn)))
    (ttn : K.lookup dtn = some ⟨.type "dict", none, .dict #[⟨utn0, .str "0" ptn0, .int 0 qtn0⟩, ⟨utn1, .str "1" ptn1, .int 1 qtn1⟩, ⟨utn2, .str "2" ptn2, .int 2 qtn2⟩, ⟨utn3, .str "3" ptn3, .int 3 qtn3⟩] zntn, #[]⟩)
    (etn0 : utn0 = PyData.keyHash w.params "0")
    (etn1 : utn1 = PyData.keyHash w.params "1")
    (etn2 : utn2 = PyData.keyHash w.params "2")
    (etn3 : utn3 = PyData.keyHash w.params "3")
    (wtn : (dtn == sysModules) = false)
    {znts : Nat} {uts0 uts1 uts2 uts3 uts4 uts5 : Int} {pts0 qts0 pts1 qts1 pts2 qts2 pts3 qts3 pts4 qts4 pts5 qts5 : Tok}
    (gts : PySem.W.nsIn K mainGlobals "_SHIFTS" = some (some (.ref dts)))
    (tts : K.lookup dts = some ⟨.type "dict", none, .dict #[⟨uts0, .str "-3" pts0, .int (-3) qts0⟩, ⟨uts1, .str "-2" pts1, .int (-2) qts1⟩, ⟨uts2, .str "-1" pts2, .int (-1) qts2⟩, ⟨uts3, .str "+1" pts3, .int 1 qts3⟩, ⟨uts4, .str "+2" pts4, .int 2 qts4⟩, ⟨uts5, .str "+3" pts5, .int 3 qts5⟩] znts, #[]⟩)
    (ets0 : uts0 = PyData.keyHash w.params "-3")
    (ets1 : uts1 = PyData.keyHash w.params "-2")
    (ets2 : uts2 = PyData.keyHash w.params "-1")
    (ets3 : uts3 = PyData.keyHash w.params "+1")
    (ets4 : uts4 = PyData.keyHash w.params "+2")
    (ets5 : uts5 = PyData.keyHash w.params "+3")
    (wts : (dts == sysModules) = false)
    {zntp : Nat} {utp0 utp1 : Int} {ptp0 qtp0 ptp1 qtp1 : Tok}
    (gtp : PySem.W.nsIn K mainGlobals "_PLACES" = some (some (.ref dtp)))
    (ttp : K.lookup dtp = some ⟨.type "dict", none, .dict #[⟨utp0, .str "at_most" ptp0, .int 2 qtp0⟩, ⟨utp1, .str "page" ptp1, .int 1 qtp1⟩] zntp, #[]⟩)
    (etp0 : utp0 = PyData.keyHash w.params "at_most")
    (etp1 : utp1 = PyData.keyHash w.params "page")
    (wtp : (dtp == sysModules) = false)
    (zlen : PySem.W.nsIn K mainGlobals "len" = some none)
    (zmax : PySem.W.nsIn K mainGlobals "max" = some none)
    (zmin : PySem.W.nsIn K mainGlobals "min" = some none)
    (zint : PySem.W.nsIn K mainGlobals "int" = some none)
    (zrange : PySem.W.nsIn K mainGlobals "range" = some none)
    (zisinstance : PySem.W.nsIn K mainGlobals "isinstance" = some none)
    (zbool : PySem.W.nsIn K mainGlobals "bool" = some none)
    (zstr : PySem.W.nsIn K mainGlobals "str" = some none)
    (zall : PySem.W.nsIn K mainGlobals "all" = some none)
    (zrepr : PySem.W.nsIn K mainGlobals "repr" = some none)
    (ztuple : PySem.W.nsIn K mainGlobals "tuple" = some none)
    (zsorted : PySem.W.nsIn K mainGlobals "sorted" = some none)
    (zlist : PySem.W.nsIn K mainGlobals "list" = some none)
    (zzip : PySem.W.nsIn K mainGlobals "zip" = some none)
    (zenumerate : PySem.W.nsIn K mainGlobals "enumerate" = some none)
    : ∃ fd : FuncData, (∀ (s : Shared) (v : Value), BindsTo s fd ⟨[v], []⟩ [("_law_script", v)]) ∧ ∀ base : Heap, K.In base → base.Ns mainGlobals mg → FnG l.prog w K mg base CX0 15 fa fd ["_law_script"] (spLaw K) := by
  have e := hfa.symm.trans (PySem.W.mg_of X G ala)
  cases e
  have B : Blt mg := ⟨PySem.W.mg_none_of X G zlen, PySem.W.mg_none_of X G zmax, PySem.W.mg_none_of X G zmin, PySem.W.mg_none_of X G zint, PySem.W.mg_none_of X G zrange⟩
  have D : Blp mg := ⟨PySem.W.mg_none_of X G zisinstance, PySem.W.mg_none_of X G zbool, PySem.W.mg_none_of X G zstr, PySem.W.mg_none_of X G zall⟩
  have m_len := PySem.W.mg_none_of X G zlen
  have m_max := PySem.W.mg_none_of X G zmax
  have m_min := PySem.W.mg_none_of X G zmin
  have m_int := PySem.W.mg_none_of X G zint
  have m_range := PySem.W.mg_none_of X G zrange
  have m_isinstance := PySem.W.mg_none_of X G zisinstance
  have m_bool := PySem.W.mg_none_of X G zbool
  have m_str := PySem.W.mg_none_of X G zstr
  have m_all := PySem.W.mg_none_of X G zall
  have m_repr := PySem.W.mg_none_of X G zrepr
  have m_tuple := PySem.W.mg_none_of X G ztuple
  have m_sorted := PySem.W.mg_none_of X G zsorted
  have m_list := PySem.W.mg_none_of X G zlist
  have m_zip := PySem.W.mg_none_of X G zzip
  have m_enumerate := PySem.W.mg_none_of X G zenumerate
  have Fwh := fun_mk (st := sWhole) lwh cwh kwh
  have bwh := Fwh.binds (ps := ["value"]) fun _ _ _ _ _ _ us hl => match us, hl with | [_], _ => rfl
  have mwh := PySem.W.mg_of X G awh
  have Fii := fun_mk (st := sIsInt) lii cii kii
  have bii := Fii.binds (ps := ["value", "low", "high"]) fun _ _ _ _ _ _ us hl => match us, hl with | [_, _, _], _ => rfl
  have mii := PySem.W.mg_of X G aii
  have Fna := fun_mk (st := sIsName) lna cna kna
  have bna := Fna.binds (ps := ["value"]) fun _ _ _ _ _ _ us hl => match us, hl with | [_], _ => rfl
  have mna := PySem.W.mg_of X G ana
  have Fma := fun_mk (st := sIsMark) lma cma kma
  have bma := Fma.binds (ps := ["value"]) fun _ _ _ _ _ _ us hl => match us, hl with | [_], _ => rfl
  have mma := PySem.W.mg_of X G ama
  have Fip := fun_mk (st := sIsPlace) lip cip kip
  have bip := Fip.binds (ps := ["value"]) fun _ _ _ _ _ _ us hl => match us, hl with | [_], _ => rfl
  have mip := PySem.W.mg_of X G aip
  have Fuo := fun_mk (st := sUnkOf) luo cuo kuo
  have buo := Fuo.binds (ps := ["places"]) fun _ _ _ _ _ _ us hl => match us, hl with | [_], _ => rfl
  have muo := PySem.W.mg_of X G auo
  have Fle := fun_mk (st := sLeast) lle cle kle
  have ble := Fle.binds (ps := ["base"]) fun _ _ _ _ _ _ us hl => match us, hl with | [_], _ => rfl
  have mle := PySem.W.mg_of X G ale
  have Fpt := fun_mk (st := sParts) lpt cpt kpt
  have bpt := Fpt.binds (ps := ["text"]) fun _ _ _ _ _ _ us hl => match us, hl with | [_], _ => rfl
  have mpt := PySem.W.mg_of X G apt
  have Fif_ := fun_mk (st := sIsFact) lif_ cif_ kif_
  have bif_ := Fif_.binds (ps := ["value"]) fun _ _ _ _ _ _ us hl => match us, hl with | [_], _ => rfl
  have mif_ := PySem.W.mg_of X G aif_
  have Fpl := fun_mk (st := sPlacedRow) lpl cpl kpl
  have bpl := Fpl.binds (ps := ["row"]) fun _ _ _ _ _ _ us hl => match us, hl with | [_], _ => rfl
  have mpl := PySem.W.mg_of X G apl
  have Fpo_ := fun_mk (st := sPlacesOf) lpo_ cpo_ kpo_
  have bpo_ := Fpo_.binds (ps := ["rows"]) fun _ _ _ _ _ _ us hl => match us, hl with | [_], _ => rfl
  have mpo_ := PySem.W.mg_of X G apo_
  have Fce := fun_mk (st := sCell) lce cce kce
  have bce := Fce.binds (ps := ["_law_script", "_law_k"]) fun _ _ _ _ _ _ us hl => match us, hl with | [_, _], _ => rfl
  have mce := PySem.W.mg_of X G ace
  have Fbo := fun_mk (st := sBox) lbo cbo kbo
  have bbo := Fbo.binds (ps := ["_law_cell_here"]) fun _ _ _ _ _ _ us hl => match us, hl with | [_], _ => rfl
  have mbo := PySem.W.mg_of X G abo
  have Fta := fun_mk (st := sTake) lta cta kta
  have bta := Fta.binds (ps := ["_law_box_here", "_law_many"]) fun _ _ _ _ _ _ us hl => match us, hl with | [_, _], _ => rfl
  have mta := PySem.W.mg_of X G ata
  have Fil := fun_mk (st := sIsList) lil cil kil
  have bil := Fil.binds (ps := ["value"]) fun _ _ _ _ _ _ us hl => match us, hl with | [_], _ => rfl
  have mil := PySem.W.mg_of X G ail
  have Fft := fun_mk (st := sFits) lft cft kft
  have bft := Fft.binds (ps := ["item", "form"]) fun _ _ _ _ _ _ us hl => match us, hl with | [_, _], _ => rfl
  have mft := PySem.W.mg_of X G aft
  have Fis_ := fun_mk (st := sIsStep) lis_ cis_ kis_
  have bis_ := Fis_.binds (ps := ["value"]) fun _ _ _ _ _ _ us hl => match us, hl with | [_], _ => rfl
  have mis_ := PySem.W.mg_of X G ais_
  have Fps := fun_mk (st := sPlacedStep) lps cps kps
  have bps := Fps.binds (ps := ["step"]) fun _ _ _ _ _ _ us hl => match us, hl with | [_], _ => rfl
  have mps := PySem.W.mg_of X G aps
  have Fpz := fun_mk (st := sPlacesStep) lpz cpz kpz
  have bpz := Fpz.binds (ps := ["step"]) fun _ _ _ _ _ _ us hl => match us, hl with | [_], _ => rfl
  have mpz := PySem.W.mg_of X G apz
  have Fkl_ := fun_mk (st := sKeepsLocks) lkl_ ckl_ kkl_
  have bkl_ := Fkl_.binds (ps := ["hand"]) fun _ _ _ _ _ _ us hl => match us, hl with | [_], _ => rfl
  have mkl_ := PySem.W.mg_of X G akl_
  have Fch := fun_mk (st := sCheckHand) lch cch kch
  have bch := Fch.binds (ps := ["hand"]) fun _ _ _ _ _ _ us hl => match us, hl with | [_], _ => rfl
  have mch := PySem.W.mg_of X G ach
  have Fdf := fun_mk (st := sDiffPlaces) ldf cdf kdf
  have bdf := Fdf.binds (ps := ["places"]) fun _ _ _ _ _ _ us hl => match us, hl with | [_], _ => rfl
  have mdf := PySem.W.mg_of X G adf
  have Fwp := fun_mk (st := sWithPlaces) lwp cwp kwp
  have bwp := Fwp.binds (ps := ["places", "facts"]) fun _ _ _ _ _ _ us hl => match us, hl with | [_, _], _ => rfl
  have mwp := PySem.W.mg_of X G awp
  have Ftm := fun_mk (st := sTooMany) ltm ctm ktm
  have btm := Ftm.binds (ps := ["unknowns", "page"]) fun _ _ _ _ _ _ us hl => match us, hl with | [_, _], _ => rfl
  have mtm := PySem.W.mg_of X G atm
  have Fwl := fun_mk (st := sWithin) lwl cwl kwl
  have bwl := Fwl.binds (ps := ["places", "page"]) fun _ _ _ _ _ _ us hl => match us, hl with | [_, _], _ => rfl
  have mwl := PySem.W.mg_of X G awl
  have Fpc := fun_mk (st := sPageChoice) lpc cpc kpc
  have bpc := Fpc.binds (ps := ["value"]) fun _ _ _ _ _ _ us hl => match us, hl with | [_], _ => rfl
  have mpc := PySem.W.mg_of X G apc
  have Fcp := fun_mk (st := sCheckProgram) lcp ccp kcp
  have bcp := Fcp.binds (ps := ["value"]) fun _ _ _ _ _ _ us hl => match us, hl with | [_], _ => rfl
  have mcp := PySem.W.mg_of X G acp
  have Fpt_ := fun_mk (st := sProgramText) lpt_ cpt_ kpt_
  have bpt_ := Fpt_.binds (ps := ["program"]) fun _ _ _ _ _ _ us hl => match us, hl with | [_], _ => rfl
  have mpt_ := PySem.W.mg_of X G apt_
  have Frp := fun_mk (st := sReadProgram) lrp crp krp
  have brp := Frp.binds (ps := ["text"]) fun _ _ _ _ _ _ us hl => match us, hl with | [_], _ => rfl
  have mrp := PySem.W.mg_of X G arp
  have Fwf := fun_mk (st := sWordOf) lwf cwf kwf
  have bwf := Fwf.binds (ps := ["row"]) fun _ _ _ _ _ _ us hl => match us, hl with | [_], _ => rfl
  have mwf := PySem.W.mg_of X G awf
  have Fpg_ := fun_mk (st := sPageTexts) lpg_ cpg_ kpg_
  have bpg_ := Fpg_.binds (ps := []) fun _ _ _ _ _ _ us hl => match us, hl with | [], _ => rfl
  have mpg_ := PySem.W.mg_of X G apg_
  have Fcs := fun_mk (st := sCanStand) lcs ccs kcs
  have bcs := Fcs.binds (ps := ["word", "ahead"]) fun _ _ _ _ _ _ us hl => match us, hl with | [_, _], _ => rfl
  have mcs := PySem.W.mg_of X G acs
  have Fho := fun_mk (st := sHandsOf) lho cho kho
  have bho := Fho.binds (ps := ["rows", "words"]) fun _ _ _ _ _ _ us hl => match us, hl with | [_, _], _ => rfl
  have mho := PySem.W.mg_of X G aho
  have Fwo := fun_mk (st := sWord) lwo cwo kwo
  have bwo := Fwo.binds (ps := ["_law_box_here"]) fun _ _ _ _ _ _ us hl => match us, hl with | [_], _ => rfl
  have mwo := PySem.W.mg_of X G awo
  have Fnm := fun_mk (st := sNames) lnm cnm knm
  have bnm := Fnm.binds (ps := ["_law_box_here", "_law_many"]) fun _ _ _ _ _ _ us hl => match us, hl with | [_, _], _ => rfl
  have mnm := PySem.W.mg_of X G anm
  have Ffy := fun_mk (st := sFaulty) lfy cfy kfy
  have bfy := Ffy.binds (ps := ["_law_box_here", "_law_way", "_law_names_here", "_law_lines"]) fun _ _ _ _ _ _ us hl => match us, hl with | [_, _, _, _], _ => rfl
  have mfy := PySem.W.mg_of X G afy
  have Frd := fun_mk (st := sRead) lrd crd krd
  have brd := Frd.binds (ps := ["_law_text"]) fun _ _ _ _ _ _ us hl => match us, hl with | [_], _ => rfl
  have mrd := PySem.W.mg_of X G ard
  have Flr := fun_mk (st := sLineRight) llr clr klr
  have blr := Flr.binds (ps := ["_law_box_here", "_law_lines"]) fun _ _ _ _ _ _ us hl => match us, hl with | [_, _], _ => rfl
  have mlr := PySem.W.mg_of X G alr
  have Fto := fun_mk (st := sLTold) lto cto kto
  have bto := Fto.binds (ps := ["_law_thing"]) fun _ _ _ _ _ _ us hl => match us, hl with | [_], _ => rfl
  have mto := PySem.W.mg_of X G ato
  have Fla := fun_mk (st := sLaw) lla cla kla
  have bla := Fla.binds (ps := ["_law_script"]) fun _ _ _ _ _ _ us hl => match us, hl with | [_], _ => rfl
  have mla := PySem.W.mg_of X G ala
  have Fmo := fun_mk (st := (inClass sPlace 1)) lmo cmo kmo
  have bmo := Fmo.binds (ps := ["cls", "value"]) fun _ _ _ _ _ _ us hl => match us, hl with | [_, _], _ => rfl
  have Fmb := fun_mk (st := (inClass sPlace 2)) lmb cmb kmb
  have bmb := Fmb.binds (ps := ["self"]) fun _ _ _ _ _ _ us hl => match us, hl with | [_], _ => rfl
  have Fms := fun_mk (st := (inClass sPlace 4)) lms cms kms
  have bms := Fms.binds (ps := ["self"]) fun _ _ _ _ _ _ us hl => match us, hl with | [_], _ => rfl
  have Fmx := fun_mk (st := (inClass sInvPlace 0)) lmx cmx kmx
  have bmx := Fmx.binds (ps := ["self", "value"]) fun _ _ _ _ _ _ us hl => match us, hl with | [_, _], _ => rfl
  have Fmi := fun_mk (st := (inClass sInvInt 0)) lmi cmi kmi
  have bmi := Fmi.binds (ps := ["self", "value"]) fun _ _ _ _ _ _ us hl => match us, hl with | [_, _], _ => rfl
  have Fmr := fun_mk (st := (inClass sInvFact 0)) lmr cmr kmr
  have bmr := Fmr.binds (ps := ["self", "value"]) fun _ _ _ _ _ _ us hl => match us, hl with | [_, _], _ => rfl
  have Fmf := fun_mk (st := (inClass sInvFacts 0)) lmf cmf kmf
  have bmf := Fmf.binds (ps := ["self", "value"]) fun _ _ _ _ _ _ us hl => match us, hl with | [_, _], _ => rfl
  have Fmv := fun_mk (st := (inClass sInvProg 0)) lmv cmv kmv
  have bmv := Fmv.binds (ps := ["self", "value"]) fun _ _ _ _ _ _ us hl => match us, hl with | [_, _], _ => rfl
  have Fmj := fun_mk (st := (inClass sInvHand 0)) lmj cmj kmj
  have bmj := Fmj.binds (ps := ["self", "value"]) fun _ _ _ _ _ _ us hl => match us, hl with | [_, _], _ => rfl
  have Fmw := fun_mk (st := (inClass sInvStep 0)) lmw cmw kmw
  have bmw := Fmw.binds (ps := ["self", "value"]) fun _ _ _ _ _ _ us hl => match us, hl with | [_, _], _ => rfl
  have Fml := fun_mk (st := (inClass sInvLine 0)) lml cml kml
  have bml := Fml.binds (ps := ["self", "index"]) fun _ _ _ _ _ _ us hl => match us, hl with | [_, _], _ => rfl
  have Fh0 := fun_mk (st := (inClass sFacts 0)) lh0 ch0 kh0
  have Fh1 := fun_mk (st := (inClass sFacts 1)) lh1 ch1 kh1
  have bh1 := Fh1.binds (ps := ["self"]) fun _ _ _ _ _ _ us hl => match us, hl with | [_], _ => rfl
  have Fh4 := fun_mk (st := (inClass sFacts 4)) lh4 ch4 kh4
  have bh4 := Fh4.binds (ps := ["self", "other"]) fun _ _ _ _ _ _ us hl => match us, hl with | [_, _], _ => rfl
  have Fq0 := fun_mk (st := (inClass sProgram 0)) lq0 cq0 kq0
  have FI : FunD K "__init__" "Place.__init__" (defArgs (inClass sPlace 0)) (defBody (inClass sPlace 0)) (defScope (inClass sPlace 0)) [.str ""] [("shift", .int 0)] fI _ :=
    ⟨⟨ocI, odI, .ref tD, .ref kD, dcI, pmI, anI, cdI, ctI, slI, rfl, lI, cI_, .inr ⟨by simp, tD, _, [.str "" kT], nT, rfl, lT, rfl, .cons ⟨kT, rfl⟩ .nil⟩, .inr ⟨kD, rfl, fun q hq => by
      rw [List.mem_singleton.mp hq]
      exact ⟨_, sD, ⟨kS, rfl⟩⟩⟩⟩, kI⟩
  obtain ⟨ds2, hds2, bI2⟩ := FunD.binds (ps := ["self", "base", "shift"]) FI 2 1 (by simp) rfl (fun T D doc pm an cdv ct us its ks l1 l2 l3 => match us, its, ks, l1, l2, l3 with
    | [_, _], [_], [_], _, _, _ => ⟨_, rfl, ⟨_, _, _, _, _, _, rfl, rfl, rfl⟩⟩) (by simp)
  obtain ⟨its1, mv1, kb1⟩ := FunD.kbinds (ps := ["self", "base", "shift"]) FI 1 ["shift"] [] (fun us its _ ws => us ++ its ++ ws) (by simp) (by simp) (fun q hq => nomatch hq) (fun r1 r2 _ r4 => (r1.append r2).append r4)
    (fun T D doc pm an cdv ct us its mv ws l1 l2 l3 l4 => match us, its, mv, ws, l1, l2, l3, l4 with
    | [_], [_], [], [_], _, _, _, _ => ⟨_, rfl, rfl⟩)
  obtain ⟨its2, mv2, kb2⟩ := FunD.kbinds (ps := ["self", "base", "shift"]) FI 2 ["shift"] [] (fun us _ _ ws => us ++ ws) (by simp) (by simp) (fun q hq => nomatch hq) (fun r1 _ _ r4 => r1.append r4)
    (fun T D doc pm an cdv ct us its mv ws l1 l2 l3 l4 => match us, its, mv, ws, l1, l2, l3, l4 with
    | [_, _], [_], [], [_], _, _, _, _ => ⟨_, rfl, rfl⟩)
  have Z : Cpl K mg cP := ⟨⟨pgP, hdP, pv_P, saP⟩, nB, nS, PySem.W.mg_of X G aCP⟩
  have Y : Pty K cP := ⟨⟨pgP, hdP, pv_P, saP⟩, haP, hn, htk, hmP⟩
  have N1 : Npl K cP := ⟨kit_ref hdP tCP rfl, kit_ref hdP tCP rfl, kit_ref hdP tCP rfl, kit_ref hdP tCP rfl⟩
  have M : Mk K cP fI := ⟨mkP, iI, jI, kcP⟩
  have TF : Fcl K mg cH := ⟨⟨pgH, hdH, pv_H, saH⟩, nRH, nUH, PySem.W.mg_of X G aCH⟩
  have YF : Pty K cH := ⟨⟨pgH, hdH, pv_H, saH⟩, haH, hn, htk, hmH⟩
  have MF : Mk K cH fh0 := ⟨mkH, ah0, jh0, kcH⟩
  have TAnd : Lty K cH .BitAnd fh4 := ⟨sfH, ah4, jh4, _, anH, .inl rfl⟩
  have TX_ : Xcl K mg "InvalidPlace" cX "value" := ⟨⟨⟨nmX, qqX, NNX, bsX, bmX, snX, subX, abX, colX, ddX, k0X, k1X, k2X, k3X, k5X, lXx, rX⟩, saXe, exXe, tyXe, kXe⟩, noXe, PySem.W.mg_of X G aCX, ⟨gaXe, ggXe, exXe, hdXe⟩⟩
  have teX : PySem.W.exmOne K (.ref cX) (.ref cX) = some true := PySem.W.exm_ref exXe hdXe tyXe suXe
  have TI_ : Xcl K mg "InvalidInteger" cI "value" := ⟨⟨⟨nmI, qqI, NNI, bsI, bmI, snI, subI, abI, colI, ddI, k0I, k1I, k2I, k3I, k5I, lIx, rI⟩, saIe, exIe, tyIe, kIe⟩, noIe, PySem.W.mg_of X G aCI, ⟨gaIe, ggIe, exIe, hdIe⟩⟩
  have teI : PySem.W.exmOne K (.ref cI) (.ref cI) = some true := PySem.W.exm_ref exIe hdIe tyIe suIe
  have TR_ : Xcl K mg "InvalidFact" cR "value" := ⟨⟨⟨nmR, qqR, NNR, bsR, bmR, snR, subR, abR, colR, ddR, k0R, k1R, k2R, k3R, k5R, lRx, rR⟩, saRe, exRe, tyRe, kRe⟩, noRe, PySem.W.mg_of X G aCR, ⟨gaRe, ggRe, exRe, hdRe⟩⟩
  have teR : PySem.W.exmOne K (.ref cR) (.ref cR) = some true := PySem.W.exm_ref exRe hdRe tyRe suRe
  have TF_ : Xcl K mg "InvalidFacts" cF "value" := ⟨⟨⟨nmF, qqF, NNF, bsF, bmF, snF, subF, abF, colF, ddF, k0F, k1F, k2F, k3F, k5F, lFx, rF⟩, saFe, exFe, tyFe, kFe⟩, noFe, PySem.W.mg_of X G aCF, ⟨gaFe, ggFe, exFe, hdFe⟩⟩
  have teF : PySem.W.exmOne K (.ref cF) (.ref cF) = some true := PySem.W.exm_ref exFe hdFe tyFe suFe
  have TV_ : Xcl K mg "InvalidProgram" cV "value" := ⟨⟨⟨nmV, qqV, NNV, bsV, bmV, snV, subV, abV, colV, ddV, k0V, k1V, k2V, k3V, k5V, lVx, rV⟩, saVe, exVe, tyVe, kVe⟩, noVe, PySem.W.mg_of X G aCV, ⟨gaVe, ggVe, exVe, hdVe⟩⟩
  have teV : PySem.W.exmOne K (.ref cV) (.ref cV) = some true := PySem.W.exm_ref exVe hdVe tyVe suVe
  have TJ_ : Xcl K mg "InvalidHand" cJ "value" := ⟨⟨⟨nmJ, qqJ, NNJ, bsJ, bmJ, snJ, subJ, abJ, colJ, ddJ, k0J, k1J, k2J, k3J, k5J, lJx, rJ⟩, saJe, exJe, tyJe, kJe⟩, noJe, PySem.W.mg_of X G aCJ, ⟨gaJe, ggJe, exJe, hdJe⟩⟩
  have teJ : PySem.W.exmOne K (.ref cJ) (.ref cJ) = some true := PySem.W.exm_ref exJe hdJe tyJe suJe
  have TW_ : Xcl K mg "InvalidStep" cW "value" := ⟨⟨⟨nmW, qqW, NNW, bsW, bmW, snW, subW, abW, colW, ddW, k0W, k1W, k2W, k3W, k5W, lWx, rW⟩, saWe, exWe, tyWe, kWe⟩, noWe, PySem.W.mg_of X G aCW, ⟨gaWe, ggWe, exWe, hdWe⟩⟩
  have teW : PySem.W.exmOne K (.ref cW) (.ref cW) = some true := PySem.W.exm_ref exWe hdWe tyWe suWe
  have TL_ : Xcl K mg "InvalidLine" cL "index" := ⟨⟨⟨nmL, qqL, NNL, bsL, bmL, snL, subL, abL, colL, ddL, k0L, k1L, k2L, k3L, k5L, lLx, rL⟩, saLe, exLe, tyLe, kLe⟩, noLe, PySem.W.mg_of X G aCL, ⟨gaLe, ggLe, exLe, hdLe⟩⟩
  have teL : PySem.W.exmOne K (.ref cL) (.ref cL) = some true := PySem.W.exm_ref exLe hdLe tyLe suLe
  have pB : PropOf K cP "base" pb fmb := ⟨amb, amb1, amb2, rb, amb3⟩
  subst etn0 etn1 etn2 etn3 ets0 ets1 ets2 ets3 ets4 ets5 etp0 etp1
  have Ttn : Tab K w dtn numS := tab_of (l := [("0", 0, ptn0, qtn0), ("1", 1, ptn1, qtn1), ("2", 2, ptn2, qtn2), ("3", 3, ptn3, qtn3)]) ttn rfl wtn fun z => rfl
  have Tts : Tab K w dts shS := tab_of (l := [("-3", (-3), pts0, qts0), ("-2", (-2), pts1, qts1), ("-1", (-1), pts2, qts2), ("+1", 1, pts3, qts3), ("+2", 2, pts4, qts4), ("+3", 3, pts5, qts5)]) tts rfl wts fun z => rfl
  have Ttp : Tab K w dtp plS := tab_of (l := [("at_most", 2, ptp0, qtp0), ("page", 1, ptp1, qtp1)]) ttp rfl wtp fun z => rfl
  refine ⟨PySem.W.fnOf "law" "law" (defArgs sLaw) (defBody sLaw) (defScope sLaw) .none kVla dcla pmla anla cdla ctla, fun s v => .of_eq rfl, fun base _ _ => ?_⟩
  have gm := PySem.W.mg_of X G gM
  have Gwh : FnOk l.prog w K mg base CX0 1 _ _ ["value"] (spWhole K) := ok_whole Fwh B D
  have Gii : FnOk l.prog w K mg base CX0 2 _ _ ["value", "low", "high"] (spIsInt K) := ok_isInt Fii Gwh mwh kwh bwh
  have Gna : FnOk l.prog w K mg base CX0 1 _ _ ["value"] (spIsName K) := ok_isName Fna B D (PySem.W.mg_of X G gL) (PySem.W.mg_of X G gA)
  have Gle : FnOk l.prog w K mg base CX0 1 _ _ ["base"] spLeast := ok_least Fle gm
  have GIP : FnOk l.prog w K mg base CX0 3 fI _ ["self", "base", "shift"] (spInit cP) := ok_init FI Z Gna mna kna bna Gii mii kii bii Gle mle kle ble gm
  have T : Tk l.prog w K mg base fta _ := ⟨ok_take Fta B, mta, kta, bta⟩
  have Gpt : FnOk l.prog w K mg base CX0 2 _ _ ["text"] spParts := ok_parts Fpt Gna mna kna bna (PySem.W.mg_of X G gtn) (PySem.W.mg_of X G gts) Ttn Tts
  have GXX : FnOk l.prog w K mg base CX0 1 fmx _ ["self", "value"] (spX1 K cX "value") := ok_xinit Fmx TX_ (PySem.W.mg_of X G aCM) ⟨rdM, gaM⟩ fcM
  have XRX : Xr l.prog w K mg base "InvalidPlace" cX fmx _ := ⟨TX_, GXX, amx, tfX, bmx⟩
  have GXI : FnOk l.prog w K mg base CX0 1 fmi _ ["self", "value"] (spX1 K cI "value") := ok_xinitI Fmi TI_ (PySem.W.mg_of X G aCM) ⟨rdM, gaM⟩ fcM
  have XRI : Xr l.prog w K mg base "InvalidInteger" cI fmi _ := ⟨TI_, GXI, ami, tfI, bmi⟩
  have GXR : FnOk l.prog w K mg base CX0 1 fmr _ ["self", "value"] (spX1 K cR "value") := ok_xinitR Fmr TR_ (PySem.W.mg_of X G aCM) ⟨rdM, gaM⟩ fcM
  have XRR : Xr l.prog w K mg base "InvalidFact" cR fmr _ := ⟨TR_, GXR, amr, tfR, bmr⟩
  have GXF : FnOk l.prog w K mg base CX0 1 fmf _ ["self", "value"] (spX1 K cF "value") := ok_xinitFs Fmf TF_ (PySem.W.mg_of X G aCM) ⟨rdM, gaM⟩ fcM
  have XRF : Xr l.prog w K mg base "InvalidFacts" cF fmf _ := ⟨TF_, GXF, amf, tfF, bmf⟩
  have GXV : FnOk l.prog w K mg base CX0 1 fmv _ ["self", "value"] (spX1 K cV "value") := ok_xinitPr Fmv TV_ (PySem.W.mg_of X G aCM) ⟨rdM, gaM⟩ fcM
  have XRV : Xr l.prog w K mg base "InvalidProgram" cV fmv _ := ⟨TV_, GXV, amv, tfV, bmv⟩
  have GXJ : FnOk l.prog w K mg base CX0 1 fmj _ ["self", "value"] (spX1 K cJ "value") := ok_xinitHd Fmj TJ_ (PySem.W.mg_of X G aCM) ⟨rdM, gaM⟩ fcM
  have XRJ : Xr l.prog w K mg base "InvalidHand" cJ fmj _ := ⟨TJ_, GXJ, amj, tfJ, bmj⟩
  have GXW : FnOk l.prog w K mg base CX0 1 fmw _ ["self", "value"] (spX1 K cW "value") := ok_xinitSt Fmw TW_ (PySem.W.mg_of X G aCM) ⟨rdM, gaM⟩ fcM
  have XRW : Xr l.prog w K mg base "InvalidStep" cW fmw _ := ⟨TW_, GXW, amw, tfW, bmw⟩
  have GXL : FnOk l.prog w K mg base CX0 1 fml _ ["self", "index"] (spX1 K cL "index") := ok_xinitLi Fml TL_ (PySem.W.mg_of X G aCM) ⟨rdM, gaM⟩ fcM
  have XRL : XrI l.prog w K mg base "InvalidLine" cL fml _ := ⟨TL_, GXL, aml, tfL, bml⟩
  have GO : FnOk l.prog w K mg base (L2.CX l.prog w) 5 fmo _ ["cls", "value"] (spOf K cP cX) := ok_of Fmo Z Y N1 B D Gii mii kii bii Gpt mpt kpt bpt gm M GIP kb1 kb2 TX_ GXX amx tfX bmx
  have O : OfM l.prog w K mg base cP cX po fmo _ := ⟨GO, ⟨rdP, gaP⟩, ⟨amo, ⟨_, amo2⟩, fo⟩, bmo⟩
  have Gb : FnOk l.prog w K mg base CX0 1 fmb _ ["self"] (spBase cP) := ok_base Fmb Z
  have GS : FnOk l.prog w K mg base CX0 1 fms _ ["self"] (spStr cP) := ok_str Fms Z D
  have Gip : FnOk l.prog w K mg base CX0 6 _ _ ["value"] (spIsPl K cP) := ok_isPl Fip Z O (PySem.W.mg_of X G aCX) teX
  have Gif : FnOk l.prog w K mg base CX0 7 _ _ ["value"] (spIsFact K cP) := ok_isFact Fif_ Gip mip kip bip (PySem.W.mg_of X G gtp) Ttp B D m_tuple
  have Gpl : FnOk l.prog w K mg base CX0 6 _ _ ["row"] (spPlaced K cP) := ok_placed Fpl Z O
  have Gpo : FnOk l.prog w K mg base CX0 1 _ _ ["rows"] (spPlacesOf K cP) := ok_placesOf Fpo_
  have Guo : FnOk l.prog w K mg base CX0 3 _ _ ["places"] (spUnkOf K cP) := ok_unkOf Fuo Z m_sorted pB Gb bmb

  have GIF : FnR l.prog w K mg base (L2.CX l.prog w) 8 fh0 (spMakeF K cP cH cR cF) := ok_initF Fh0 TF XRR XRF B ⟨Gif, mif_, kif_, bif_⟩ ⟨Gpl, mpl, kpl, bpl⟩ ⟨Gpo, mpo_, kpo_, bpo_⟩ ⟨Guo, muo, kuo, buo⟩ (PySem.W.mg_of X G gU) (StX.bind_star1 (B := fun l => bindArgs _ ⟨l, []⟩) (fun a => rfl) (fun a r rs => rfl))

  have GAn : FnOk l.prog w K mg base (L2.CX l.prog w) 10 fh4 _ ["self", "other"] (spAnd K cH cP cF) := ok_and Fh4 TF YF XRF B D MF GIF ⟨Gpo, mpo_, kpo_, bpo_⟩ ⟨Guo, muo, kuo, buo⟩ (PySem.W.mg_of X G gU)
  obtain ⟨kMH, gMH⟩ := gMH
  obtain ⟨kMS, gMS⟩ := gMS
  obtain ⟨kMP, gMP⟩ := gMP
  obtain ⟨kLL, gLL⟩ := gLL
  subst eQ
  have FQ : FunD K "__init__" "Program.__init__" (defArgs (inClass sProgram 0)) (defBody (inClass sProgram 0)) (defScope (inClass sProgram 0)) [] [("facts", .non), ("page", .non)] fq0 _ :=
    ⟨⟨ocq0, odq0, .none, .ref kQ, dcq0, pmq0, anq0, cdq0, ctq0, slq0, rfl, lq0, cq0, .inl ⟨rfl, rfl⟩, .inr ⟨kQ, rfl, fun q hq => by
      rcases List.mem_cons.mp hq with rfl | hq
      · exact ⟨_, sQ1, rfl⟩
      · rw [List.mem_singleton.mp hq]
        exact ⟨_, sQ2, rfl⟩⟩⟩, kq0⟩
  obtain ⟨mvT, kT⟩ := FunD.kbinds0 (ps := ["self", "hands", "first", "facts", "page"]) FQ 2 ["first", "facts", "page"] [] (fun us _ ws => us ++ ws) (by simp) (by simp) (fun h _ hz => h.append hz) (fun D doc pm an cdv ct us mv ws l1 l2 l3 => match us, mv, ws, l1, l2, l3 with
    | [_, _], [], [_, _, _], _, _, _ => rfl)
  have hM : ∀ H, SqT K H pM noMarks := fun H => .inr ⟨_, _, _, lM, rfl, rfl, (by show 7 ≤ sizeLine; decide), .cons ⟨_, rfl⟩ (.cons ⟨_, rfl⟩ (.cons ⟨_, rfl⟩ (.cons ⟨_, rfl⟩ (.cons ⟨_, rfl⟩ (.cons ⟨_, rfl⟩ (.cons ⟨_, rfl⟩ .nil))))))⟩
  have sq0 : ∀ H, SqT K H aF0 ((["place"] : List Str).map V.str) := fun H => .inr ⟨_, _, _, lF0, rfl, rfl, (by show 1 ≤ sizeLine; decide), (.cons ⟨_, rfl⟩ .nil)⟩
  have sq1 : ∀ H, SqT K H aF1 ((["place", "place", "mark"] : List Str).map V.str) := fun H => .inr ⟨_, _, _, lF1, rfl, rfl, (by show 3 ≤ sizeLine; decide), (.cons ⟨_, rfl⟩ (.cons ⟨_, rfl⟩ (.cons ⟨_, rfl⟩ .nil)))⟩
  have sq2 : ∀ H, SqT K H aF2 ((["place"] : List Str).map V.str) := fun H => .inr ⟨_, _, _, lF2, rfl, rfl, (by show 1 ≤ sizeLine; decide), (.cons ⟨_, rfl⟩ .nil)⟩
  have sq3 : ∀ H, SqT K H aF3 ((["place"] : List Str).map V.str) := fun H => .inr ⟨_, _, _, lF3, rfl, rfl, (by show 1 ≤ sizeLine; decide), (.cons ⟨_, rfl⟩ .nil)⟩
  have sq4 : ∀ H, SqT K H aF4 ((["place", "mark"] : List Str).map V.str) := fun H => .inr ⟨_, _, _, lF4, rfl, rfl, (by show 2 ≤ sizeLine; decide), (.cons ⟨_, rfl⟩ (.cons ⟨_, rfl⟩ .nil))⟩
  have sq5 : ∀ H, SqT K H aF5 ((["place"] : List Str).map V.str) := fun H => .inr ⟨_, _, _, lF5, rfl, rfl, (by show 1 ≤ sizeLine; decide), (.cons ⟨_, rfl⟩ .nil)⟩
  have sq6 : ∀ H, SqT K H aF6 ((["place", "place"] : List Str).map V.str) := fun H => .inr ⟨_, _, _, lF6, rfl, rfl, (by show 2 ≤ sizeLine; decide), (.cons ⟨_, rfl⟩ (.cons ⟨_, rfl⟩ .nil))⟩
  have sq7 : ∀ H, SqT K H aF7 ((["name"] : List Str).map V.str) := fun H => .inr ⟨_, _, _, lF7, rfl, rfl, (by show 1 ≤ sizeLine; decide), (.cons ⟨_, rfl⟩ .nil)⟩
  have sq8 : ∀ H, SqT K H aF8 ((["name"] : List Str).map V.str) := fun H => .inr ⟨_, _, _, lF8, rfl, rfl, (by show 1 ≤ sizeLine; decide), (.cons ⟨_, rfl⟩ .nil)⟩
  subst eF0 eF1 eF2 eF3 eF4 eF5 eF6 eF7 eF8
  have TFm : FTab K w dF := by
    refine ftab_of (l := [("cut", aF0, pF0, ["place"]), ("write", aF1, pF1, ["place", "place", "mark"]), ("read", aF2, pF2, ["place"]), ("look", aF3, pF3, ["place"]), ("store", aF4, pF4, ["place", "mark"]), ("test", aF5, pF5, ["place"]), ("sync", aF6, pF6, ["place", "place"]), ("lock", aF7, pF7, ["name"]), ("unlock", aF8, pF8, ["name"])]) tF rfl wF rfl ?_
    intro q hq
    simp only [List.mem_cons, List.not_mem_nil, or_false] at hq
    rcases hq with rfl | rfl | rfl | rfl | rfl | rfl | rfl | rfl | rfl
    · exact sq0
    · exact sq1
    · exact sq2
    · exact sq3
    · exact sq4
    · exact sq5
    · exact sq6
    · exact sq7
    · exact sq8
  have TP : Pcl K mg cQ := ⟨⟨pgQ, hdQ, pv_Q, saQ⟩, nQ0, nQ1, nQ2, nQ3, nQ4, nQ5, PySem.W.mg_of X G aCQ⟩
  have MQ : Mk K cQ fq0 := ⟨mkQ, aq0, jq0, kcQ⟩
  have NI : Npi K cP := ⟨kit_own xiP (by decide +kernel), kit_own xsP (by decide +kernel)⟩
  have Gma : FnOk l.prog w K mg base CX0 2 _ _ ["value"] (spIsMark K) := ok_isMark Fma Gna mna kna bna (PySem.W.mg_of X G gN) hM
  have Gft : FnOk l.prog w K mg base CX0 7 _ _ ["item", "form"] (spFits K cP) := ok_fits Fft Gip mip kip bip Gma mma kma bma Gna mna kna bna
  have Gis_ : FnOk l.prog w K mg base CX0 8 _ _ ["value"] (spIsStep K cP) := ok_isStep Fis_ Gft mft kft bft (PySem.W.mg_of X G gF) TFm B D m_tuple m_zip
  have Gil : FnOk l.prog w K mg base CX0 1 _ _ ["value"] (spIsList K) := ok_isList Fil D m_list m_tuple
  have Gkl_ : FnOk l.prog w K mg base CX0 1 _ _ ["hand"] (spLocks K cP) := ok_locks Fkl_ 
  have Gch : FnOk l.prog w K mg base (L2.CX l.prog w) 9 _ _ ["hand"] (spChk K cP cJ cW) := ok_chk Fch B Y NI (PySem.W.mg_of X G gMS) ⟨Gil, mil, kil, bil⟩ ⟨Gis_, mis_, kis_, bis_⟩ ⟨Gkl_, mkl_, kkl_, bkl_⟩ XRJ XRW
  have Gps : FnOk l.prog w K mg base CX0 6 _ _ ["step"] (spPst K cP) := ok_pst Fps Z O (PySem.W.mg_of X G gF) TFm m_zip
  have Gdf : FnOk l.prog w K mg base CX0 4 _ _ ["places"] (spDiff cP) := ok_diff Fdf D m_list GS bms ams jms
  have GRw : FnOk l.prog w K mg base CX0 1 fh1 _ ["self"] (spRowsF cH cP) := ok_rowsF Fh1 TF m_list
  have Gpz : FnOk l.prog w K mg base CX0 1 _ _ ["step"] (spPos cP) := ok_pos Fpz D Z Y N1
  have Gwp : FnOk l.prog w K mg base CX0 5 _ _ ["places", "facts"] (spWith cH cP) := ok_with Fwp TF ⟨Gdf, mdf, kdf, bdf⟩ ⟨Gpo, mpo_, kpo_, bpo_⟩ GRw bh1 ⟨ah1, jh1, kh1⟩
  have Gtm : FnOk l.prog w K mg base CX0 1 _ _ ["unknowns", "page"] (spTooMany K) := ok_tooMany Ftm B (PySem.W.mg_of X G gU)
  have Gwl : FnOk l.prog w K mg base CX0 4 _ _ ["places", "page"] (spWithin cP) := ok_within Fwl B (PySem.W.mg_of X G gMP) ⟨Gtm, mtm, ktm, btm⟩ ⟨Guo, muo, kuo, buo⟩
  have Gpc : FnOk l.prog w K mg base CX0 3 _ _ ["value"] (spChoice K) := ok_choice Fpc ⟨Gii, mii, kii, bii⟩ (PySem.W.mg_of X G gLL)
  have GIQ : FnOk l.prog w K mg base (L2.CX l.prog w) 10 fq0 _ ["self", "hands", "first", "facts", "page"] (spInitP K cQ cH cP cV cJ cW cX cF cI) := ok_initP FQ B D Z O TP TF YF MF GIF (PySem.W.mg_of X G gMH) nePQ neHQ ⟨Gil, mil, kil, bil⟩ Gch mch kch bch XRV XRF XRI ⟨Gpc, mpc, kpc, bpc⟩ ⟨Gps, mps, kps, bps⟩ ⟨Gdf, mdf, kdf, bdf⟩ ⟨Gpz, mpz, kpz, bpz⟩ ⟨Gwp, mwp, kwp, bwp⟩ ⟨Guo, muo, kuo, buo⟩ ⟨Gwl, mwl, kwl, bwl⟩
  have NG : NoGs K cQ := ⟨kit_ref hdQ tCQ rfl, kit_ref hdQ tCQ rfl, kit_ref hdQ tCQ rfl, kit_ref hdQ tCQ rfl, kit_ref hdQ tCQ rfl⟩
  have eFL : PySem.W.exmOne K (.ref cF) (.ref cL) = some false := PySem.W.exm_ref exLe hdLe tyLe uFL
  have eJL : PySem.W.exmOne K (.ref cJ) (.ref cL) = some false := PySem.W.exm_ref exLe hdLe tyLe uJL
  have eJF : PySem.W.exmOne K (.ref cJ) (.ref cF) = some false := PySem.W.exm_ref exFe hdFe tyFe uJF
  have eVL : PySem.W.exmOne K (.ref cV) (.ref cL) = some false := PySem.W.exm_ref exLe hdLe tyLe uVL
  have eVF : PySem.W.exmOne K (.ref cV) (.ref cF) = some false := PySem.W.exm_ref exFe hdFe tyFe uVF
  have eVJ : PySem.W.exmOne K (.ref cV) (.ref cJ) = some false := PySem.W.exm_ref exJe hdJe tyJe uVJ
  have ARR : ArmsR K cL cF cJ cV := ⟨teL, eFL, teF, eJL, eJF, teJ, eVL, eVF, eVJ, teV⟩
  have Gcp : FnOk l.prog w K mg base (L2.CX l.prog w) 3 _ _ ["value"] (spCkP K cQ cV) := ok_ckP Fcp D TP XRV
  have Gpt_ : FnOk l.prog w K mg base (L2.CX l.prog w) 4 _ _ ["program"] (spCkP K cQ cV) := ok_txt Fpt_ Gcp mcp kcp bcp
  have Gpg_ : FnOk l.prog w K mg base CX0 1 _ _ [] (spPages) := ok_pages Fpg_ B D (PySem.W.mg_of X G gLL)
  have Gwf : FnOk l.prog w K mg base CX0 9 _ _ ["row"] (spWordOf) := ok_wordOf Fwf B N1 ⟨Gis_, mis_, kis_, bis_⟩ ⟨Gif, mif_, kif_, bif_⟩ ⟨Gip, mip, kip, bip⟩ ⟨Gpg_, mpg_, kpg_, bpg_⟩
  have Gcs : FnOk l.prog w K mg base CX0 2 _ _ ["word", "ahead"] (spCan) := ok_can Fcs 
  have Gho : FnOk l.prog w K mg base CX0 1 _ _ ["rows", "words"] (spHands) := ok_hands Fho m_zip
  have Grp : FnOk l.prog w K mg base (L2.CX l.prog w) 12 _ _ ["text"] (spRead cL cF cJ cV) := ok_read Frp B D m_tuple m_enumerate m_zip ⟨Gwf, mwf, kwf, bwf⟩ ⟨Gcs, mcs, kcs, bcs⟩ ⟨Gho, mho, kho, bho⟩ XRL TF MF GIF TP MQ GIQ kT N1
  have Gwo : FnOk l.prog w K mg base CX0 2 _ _ ["_law_box_here"] (spWord K) := ok_word Fwo T B
  have Gnm : FnOk l.prog w K mg base CX0 3 _ _ ["_law_box_here", "_law_many"] (spNames) := ok_names Fnm B ⟨Gwo, mwo, kwo, bwo⟩
  have Gfy : FnOk l.prog w K mg base CX0 3 _ _ ["_law_box_here", "_law_way", "_law_names_here", "_law_lines"] (spFaulty) := ok_faulty Ffy B T ⟨Gwo, mwo, kwo, bwo⟩
  have Grd : FnOk l.prog w K mg base CX0 13 _ _ ["_law_text"] (spLRead) := ok_lread Frd D m_tuple m_list Grp mrp krp brp ARR TL_ TF_ TJ_ TV_
  have Glr : FnOk l.prog w K mg base CX0 14 _ _ ["_law_box_here", "_law_lines"] (spRight69) := ok_right Flr B T ⟨Grd, mrd, krd, brd⟩
  have Gto : FnG l.prog w K mg base CX0 6 _ _ ["_law_thing"] (spTold69 l.prog w K mg base cQ) := ok_told69 Fto m_repr Gpt_ mpt_ kpt_ bpt_ teV TV_
  exact ok_law Fla B D m_repr T ⟨ok_cell Fce B, mce, kce, bce⟩ ⟨ok_box Fbo B, mbo, kbo, bbo⟩ ⟨Gnm, mnm, knm, bnm⟩ ⟨Gfy, mfy, kfy, bfy⟩ ⟨Grd, mrd, krd, brd⟩ ⟨Glr, mlr, klr, blr⟩ Gto mto kto bto NG
theorem walk {l : PySem.W.OpenLaw} {q : Program} {loose : List Str} {XP : (Str → Option Value) → Heap → Prop} {YP : World → Heap → Prop} {d : DefRec} {K : Params → PySem.W.Frag} (hn : l.most = some 63) (hdf : d.params.defaults = [])
    (hY : ∀ (w : World) (h : Heap), YP w h → (K w.params).In h)
    (F : ∀ (w : World) (mg : Str → Option Value) (fa : Addr) (h : Heap), (K w.params).In h → h.Ns mainGlobals mg → mg d.name = some (.ref fa) →
      ∃ fd : FuncData, (∀ (s : Shared) (u : Value), BindsTo s fd ⟨[u], []⟩ [("_law_script", u)]) ∧ ∀ base : Heap, (K w.params).In base → base.Ns mainGlobals mg → FnG l.prog w (K w.params) mg base CX0 15 fa fd ["_law_script"] (spLaw (K w.params))) :
    PySem.W.WalkO q loose XP YP l.row.toRowW d [] (fun f vs => PySem.call f vs) :=
  walk_G (n := 63) (k := 15) (x := "_law_script") (CX := fun _ => CX0) (sp := fun w => spLaw (K w.params)) hn (by decide) hdf ⟨rfl, by decide, by decide⟩ hY F (fun _ _ a ns hl _ _ hS => ⟨a, ns, rfl, hS, hl, fun _ => rfl⟩) fun _ _ _ _ _ z => z
end Mz
set_option Elab.async false
set_option linter.all false
set_option maxRecDepth 100000
/-! the head lays, beside each state of the program's top that it writes, a second text of it with an equation between the two: of the largest states these equations alone would fill the compiled file beyond its limit. Their names are taken here, so the head goes on without them. -/
def PySem.W.Fast.tw1832653219607277713 : Nat := 0
def PySem.W.Fast.tw6822556525843203187 : Nat := 0
def PySem.W.Fast.tw9289486835630456137 : Nat := 0
def PySem.W.Fast.tw4125208563345361565 : Nat := 0
def PySem.W.Fast.tw15246893505919721844 : Nat := 0
def PySem.W.Fast.tw5980432901841004961 : Nat := 0
def PySem.W.Fast.tw2463886747874418154 : Nat := 0
def PySem.W.Fast.tw1178208358721484528 : Nat := 0
def PySem.W.Fast.tw7379934066202152598 : Nat := 0
def PySem.W.Fast.tw16910247599627553641 : Nat := 0
def PySem.W.Fast.tw4442719523496404490 : Nat := 0
open PySem PySem.W PyProof.Rows in
set_option maxRecDepth 100000 in
set_option maxHeartbeats 0 in
theorem PySem.Challenge.cw_mapsizes_k69_texts_of_none_holds : PySem.Challenge.rw_mapsizes_k69_texts_of_none.Holds := by
  w_on; o_law; k_head; (case hw => w_witness2)
  k_fill
  refine Mz.walk (l := PySem.Challenge.rw_mapsizes_k69_texts_of_none) rfl rfl (fun w h Y => PySem.W.kIn_of Y) ?F
  case F =>
    intro w mg fa h KX G hmg
    refine' Mz.all_mk (w := w) KX G hmg ?awh ?lwh ?cwh ?kwh ?aii ?lii ?cii ?kii ?ana ?lna ?cna ?kna ?ama ?lma ?cma ?kma ?aip ?lip ?cip ?kip ?auo ?luo ?cuo ?kuo ?ale ?lle ?cle ?kle ?apt ?lpt ?cpt ?kpt ?aif_ ?lif_ ?cif_ ?kif_ ?apl ?lpl ?cpl ?kpl ?apo_ ?lpo_ ?cpo_ ?kpo_ ?ace ?lce ?cce ?kce ?abo ?lbo ?cbo ?kbo ?ata ?lta ?cta ?kta ?ail ?lil ?cil ?kil ?aft ?lft ?cft ?kft ?ais_ ?lis_ ?cis_ ?kis_ ?aps ?lps ?cps ?kps ?apz ?lpz ?cpz ?kpz ?akl_ ?lkl_ ?ckl_ ?kkl_ ?ach ?lch ?cch ?kch ?adf ?ldf ?cdf ?kdf ?awp ?lwp ?cwp ?kwp ?atm ?ltm ?ctm ?ktm ?awl ?lwl ?cwl ?kwl ?apc ?lpc ?cpc ?kpc ?acp ?lcp ?ccp ?kcp ?apt_ ?lpt_ ?cpt_ ?kpt_ ?arp ?lrp ?crp ?krp ?awf ?lwf ?cwf ?kwf ?apg_ ?lpg_ ?cpg_ ?kpg_ ?acs ?lcs ?ccs ?kcs ?aho ?lho ?cho ?kho ?awo ?lwo ?cwo ?kwo ?anm ?lnm ?cnm ?knm ?afy ?lfy ?cfy ?kfy ?ard ?lrd ?crd ?krd ?alr ?llr ?clr ?klr ?ato ?lto ?cto ?kto ?ala ?lla ?cla ?kla ?aCP ?aCH ?aCQ ?aCX ?aCI ?aCR ?aCF ?aCV ?aCJ ?aCW ?aCL ?aCM ?amo ?amo2 ?lmo ?cmo ?kmo ?amb ?amb1 ?amb2 ?amb3 ?lmb ?cmb ?kmb ?ams ?lms ?cms ?kms ?amx ?lmx ?cmx ?kmx ?ami ?lmi ?cmi ?kmi ?amr ?lmr ?cmr ?kmr ?amf ?lmf ?cmf ?kmf ?amv ?lmv ?cmv ?kmv ?amj ?lmj ?cmj ?kmj ?amw ?lmw ?cmw ?kmw ?aml ?lml ?cml ?kml ?ah0 ?lh0 ?ch0 ?kh0 ?ah1 ?lh1 ?ch1 ?kh1 ?ah4 ?lh4 ?ch4 ?kh4 ?aq0 ?lq0 ?cq0 ?kq0 ?jms ?jh0 ?jh1 ?jh4 ?fo ?tfX ?tfI ?tfR ?tfF ?tfV ?tfJ ?tfW ?tfL ?iI ?jI ?lI ?cI_ ?kI ?lT ?sD ?hn ?htk ?nB ?nS ?rdP ?gaP ?xiP ?xsP ?sf ?pgP ?hdP ?pv_P ?saP ?mkP ?kcP ?haP ?hmP ?tCP ?pgH ?hdH ?pv_H ?saH ?mkH ?kcH ?haH ?hmH ?tCH ?pgQ ?hdQ ?pv_Q ?saQ ?mkQ ?kcQ ?haQ ?hmQ ?tCQ ?nRH ?nUH ?sfH ?anH ?eQ ?sQ1 ?sQ2 ?nQ0 ?nQ1 ?nQ2 ?nQ3 ?nQ4 ?nQ5 ?jq0 ?nePQ ?neHQ ?uFL ?uJL ?uJF ?uVL ?uVF ?uVJ ?gMH ?gMS ?gMP ?gLL ?gN ?lM ?gF ?tF ?eF0 ?eF1 ?eF2 ?eF3 ?eF4 ?eF5 ?eF6 ?eF7 ?eF8 ?wF ?lF0 ?lF1 ?lF2 ?lF3 ?lF4 ?lF5 ?lF6 ?lF7 ?lF8 ?lXx ?rX ?saXe ?exXe ?tyXe ?kXe ?gaXe ?ggXe ?hdXe ?suXe ?noXe ?lIx ?rI ?saIe ?exIe ?tyIe ?kIe ?gaIe ?ggIe ?hdIe ?suIe ?noIe ?lRx ?rR ?saRe ?exRe ?tyRe ?kRe ?gaRe ?ggRe ?hdRe ?suRe ?noRe ?lFx ?rF ?saFe ?exFe ?tyFe ?kFe ?gaFe ?ggFe ?hdFe ?suFe ?noFe ?lVx ?rV ?saVe ?exVe ?tyVe ?kVe ?gaVe ?ggVe ?hdVe ?suVe ?noVe ?lJx ?rJ ?saJe ?exJe ?tyJe ?kJe ?gaJe ?ggJe ?hdJe ?suJe ?noJe ?lWx ?rW ?saWe ?exWe ?tyWe ?kWe ?gaWe ?ggWe ?hdWe ?suWe ?noWe ?lLx ?rL ?saLe ?exLe ?tyLe ?kLe ?gaLe ?ggLe ?hdLe ?suLe ?noLe ?rdM ?gaM ?fcM ?gL ?gA ?gM ?gU ?gtn ?ttn ?etn0 ?etn1 ?etn2 ?etn3 ?wtn ?gts ?tts ?ets0 ?ets1 ?ets2 ?ets3 ?ets4 ?ets5 ?wts ?gtp ?ttp ?etp0 ?etp1 ?wtp ?zlen ?zmax ?zmin ?zint ?zrange ?zisinstance ?zbool ?zstr ?zall ?zrepr ?ztuple ?zsorted ?zlist ?zzip ?zenumerate
    (case awh => k_is)
    (case lwh => k_is)
    (case cwh => k_is)
    (case kwh => k_is)
    (case aii => k_is)
    (case lii => k_is)
    (case cii => k_is)
    (case kii => k_is)
    (case ana => k_is)
    (case lna => k_is)
    (case cna => k_is)
    (case kna => k_is)
    (case ama => k_is)
    (case lma => k_is)
    (case cma => k_is)
    (case kma => k_is)
    (case aip => k_is)
    (case lip => k_is)
    (case cip => k_is)
    (case kip => k_is)
    (case auo => k_is)
    (case luo => k_is)
    (case cuo => k_is)
    (case kuo => k_is)
    (case ale => k_is)
    (case lle => k_is)
    (case cle => k_is)
    (case kle => k_is)
    (case apt => k_is)
    (case lpt => k_is)
    (case cpt => k_is)
    (case kpt => k_is)
    (case aif_ => k_is)
    (case lif_ => k_is)
    (case cif_ => k_is)
    (case kif_ => k_is)
    (case apl => k_is)
    (case lpl => k_is)
    (case cpl => k_is)
    (case kpl => k_is)
    (case apo_ => k_is)
    (case lpo_ => k_is)
    (case cpo_ => k_is)
    (case kpo_ => k_is)
    (case ace => k_is)
    (case lce => k_is)
    (case cce => k_is)
    (case kce => k_is)
    (case abo => k_is)
    (case lbo => k_is)
    (case cbo => k_is)
    (case kbo => k_is)
    (case ata => k_is)
    (case lta => k_is)
    (case cta => k_is)
    (case kta => k_is)
    (case ail => k_is)
    (case lil => k_is)
    (case cil => k_is)
    (case kil => k_is)
    (case aft => k_is)
    (case lft => k_is)
    (case cft => k_is)
    (case kft => k_is)
    (case ais_ => k_is)
    (case lis_ => k_is)
    (case cis_ => k_is)
    (case kis_ => k_is)
    (case aps => k_is)
    (case lps => k_is)
    (case cps => k_is)
    (case kps => k_is)
    (case apz => k_is)
    (case lpz => k_is)
    (case cpz => k_is)
    (case kpz => k_is)
    (case akl_ => k_is)
    (case lkl_ => k_is)
    (case ckl_ => k_is)
    (case kkl_ => k_is)
    (case ach => k_is)
    (case lch => k_is)
    (case cch => k_is)
    (case kch => k_is)
    (case adf => k_is)
    (case ldf => k_is)
    (case cdf => k_is)
    (case kdf => k_is)
    (case awp => k_is)
    (case lwp => k_is)
    (case cwp => k_is)
    (case kwp => k_is)
    (case atm => k_is)
    (case ltm => k_is)
    (case ctm => k_is)
    (case ktm => k_is)
    (case awl => k_is)
    (case lwl => k_is)
    (case cwl => k_is)
    (case kwl => k_is)
    (case apc => k_is)
    (case lpc => k_is)
    (case cpc => k_is)
    (case kpc => k_is)
    (case acp => k_is)
    (case lcp => k_is)
    (case ccp => k_is)
    (case kcp => k_is)
    (case apt_ => k_is)
    (case lpt_ => k_is)
    (case cpt_ => k_is)
    (case kpt_ => k_is)
    (case arp => k_is)
    (case lrp => k_is)
    (case crp => k_is)
    (case krp => k_is)
    (case awf => k_is)
    (case lwf => k_is)
    (case cwf => k_is)
    (case kwf => k_is)
    (case apg_ => k_is)
    (case lpg_ => k_is)
    (case cpg_ => k_is)
    (case kpg_ => k_is)
    (case acs => k_is)
    (case lcs => k_is)
    (case ccs => k_is)
    (case kcs => k_is)
    (case aho => k_is)
    (case lho => k_is)
    (case cho => k_is)
    (case kho => k_is)
    (case awo => k_is)
    (case lwo => k_is)
    (case cwo => k_is)
    (case kwo => k_is)
    (case anm => k_is)
    (case lnm => k_is)
    (case cnm => k_is)
    (case knm => k_is)
    (case afy => k_is)
    (case lfy => k_is)
    (case cfy => k_is)
    (case kfy => k_is)
    (case ard => k_is)
    (case lrd => k_is)
    (case crd => k_is)
    (case krd => k_is)
    (case alr => k_is)
    (case llr => k_is)
    (case clr => k_is)
    (case klr => k_is)
    (case ato => k_is)
    (case lto => k_is)
    (case cto => k_is)
    (case kto => k_is)
    (case ala => k_is)
    (case lla => k_is)
    (case cla => k_is)
    (case kla => k_is)
    (case aCP => k_is)
    (case aCH => k_is)
    (case aCQ => k_is)
    (case aCX => k_is)
    (case aCI => k_is)
    (case aCR => k_is)
    (case aCF => k_is)
    (case aCV => k_is)
    (case aCJ => k_is)
    (case aCW => k_is)
    (case aCL => k_is)
    (case aCM => k_is)
    (case amo => k_is)
    (case amo2 => k_is)
    (case lmo => k_is)
    (case cmo => k_is)
    (case kmo => k_is)
    (case amb => k_is)
    (case amb1 => k_is)
    (case amb2 => k_is)
    (case amb3 => k_is)
    (case lmb => k_is)
    (case cmb => k_is)
    (case kmb => k_is)
    (case ams => k_is)
    (case lms => k_is)
    (case cms => k_is)
    (case kms => k_is)
    (case amx => k_is)
    (case lmx => k_is)
    (case cmx => k_is)
    (case kmx => k_is)
    (case ami => k_is)
    (case lmi => k_is)
    (case cmi => k_is)
    (case kmi => k_is)
    (case amr => k_is)
    (case lmr => k_is)
    (case cmr => k_is)
    (case kmr => k_is)
    (case amf => k_is)
    (case lmf => k_is)
    (case cmf => k_is)
    (case kmf => k_is)
    (case amv => k_is)
    (case lmv => k_is)
    (case cmv => k_is)
    (case kmv => k_is)
    (case amj => k_is)
    (case lmj => k_is)
    (case cmj => k_is)
    (case kmj => k_is)
    (case amw => k_is)
    (case lmw => k_is)
    (case cmw => k_is)
    (case kmw => k_is)
    (case aml => k_is)
    (case lml => k_is)
    (case cml => k_is)
    (case kml => k_is)
    (case ah0 => k_is)
    (case lh0 => k_is)
    (case ch0 => k_is)
    (case kh0 => k_is)
    (case ah1 => k_is)
    (case lh1 => k_is)
    (case ch1 => k_is)
    (case kh1 => k_is)
    (case ah4 => k_is)
    (case lh4 => k_is)
    (case ch4 => k_is)
    (case kh4 => k_is)
    (case aq0 => k_is)
    (case lq0 => k_is)
    (case cq0 => k_is)
    (case kq0 => k_is)
    (case jms => k_is)
    (case jh0 => k_is)
    (case jh1 => k_is)
    (case jh4 => k_is)
    (case fo => k_is)
    (case tfX => k_is)
    (case tfI => k_is)
    (case tfR => k_is)
    (case tfF => k_is)
    (case tfV => k_is)
    (case tfJ => k_is)
    (case tfW => k_is)
    (case tfL => k_is)
    (case iI => k_is)
    (case jI => k_is)
    (case lI => k_is)
    (case cI_ => k_is)
    (case kI => k_is)
    (case lT => k_is)
    (case sD => k_is)
    (case hn => k_is)
    (case htk => k_is)
    (case nB => k_is)
    (case nS => k_is)
    (case rdP => k_is)
    (case gaP => k_is)
    (case xiP => k_is)
    (case xsP => k_is)
    (case sf => k_is)
    (case pgP => k_is)
    (case hdP => k_is)
    (case pv_P => k_is)
    (case saP => k_is)
    (case mkP => k_is)
    (case kcP => k_is)
    (case haP => k_is)
    (case hmP => k_is)
    (case tCP => k_is)
    (case pgH => k_is)
    (case hdH => k_is)
    (case pv_H => k_is)
    (case saH => k_is)
    (case mkH => k_is)
    (case kcH => k_is)
    (case haH => k_is)
    (case hmH => k_is)
    (case tCH => k_is)
    (case pgQ => k_is)
    (case hdQ => k_is)
    (case pv_Q => k_is)
    (case saQ => k_is)
    (case mkQ => k_is)
    (case kcQ => k_is)
    (case haQ => k_is)
    (case hmQ => k_is)
    (case tCQ => k_is)
    (case nRH => k_is)
    (case nUH => k_is)
    (case sfH => k_is)
    (case anH => k_is)
    (case eQ => rfl)
    (case sQ1 => k_is)
    (case sQ2 => k_is)
    (case nQ0 => k_is)
    (case nQ1 => k_is)
    (case nQ2 => k_is)
    (case nQ3 => k_is)
    (case nQ4 => k_is)
    (case nQ5 => k_is)
    (case jq0 => k_is)
    (case nePQ => decide)
    (case neHQ => decide)
    (case uFL => k_is)
    (case uJL => k_is)
    (case uJF => k_is)
    (case uVL => k_is)
    (case uVF => k_is)
    (case uVJ => k_is)
    (case gMH => exact ⟨_, by k_is⟩)
    (case gMS => exact ⟨_, by k_is⟩)
    (case gMP => exact ⟨_, by k_is⟩)
    (case gLL => exact ⟨_, by k_is⟩)
    (case gN => k_is)
    (case lM => k_is)
    (case gF => k_is)
    (case tF => k_is)
    (case eF0 => rfl)
    (case eF1 => rfl)
    (case eF2 => rfl)
    (case eF3 => rfl)
    (case eF4 => rfl)
    (case eF5 => rfl)
    (case eF6 => rfl)
    (case eF7 => rfl)
    (case eF8 => rfl)
    (case wF => first | rfl | k_is)
    (case lF0 => k_is)
    (case lF1 => k_is)
    (case lF2 => k_is)
    (case lF3 => k_is)
    (case lF4 => k_is)
    (case lF5 => k_is)
    (case lF6 => k_is)
    (case lF7 => k_is)
    (case lF8 => k_is)
    (case lXx => k_is)
    (case rX => rfl)
    (case saXe => k_is)
    (case exXe => k_is)
    (case tyXe => k_is)
    (case kXe => k_is)
    (case gaXe => k_is)
    (case ggXe => k_is)
    (case hdXe => k_is)
    (case suXe => k_is)
    (case noXe => k_is)
    (case lIx => k_is)
    (case rI => rfl)
    (case saIe => k_is)
    (case exIe => k_is)
    (case tyIe => k_is)
    (case kIe => k_is)
    (case gaIe => k_is)
    (case ggIe => k_is)
    (case hdIe => k_is)
    (case suIe => k_is)
    (case noIe => k_is)
    (case lRx => k_is)
    (case rR => rfl)
    (case saRe => k_is)
    (case exRe => k_is)
    (case tyRe => k_is)
    (case kRe => k_is)
    (case gaRe => k_is)
    (case ggRe => k_is)
    (case hdRe => k_is)
    (case suRe => k_is)
    (case noRe => k_is)
    (case lFx => k_is)
    (case rF => rfl)
    (case saFe => k_is)
    (case exFe => k_is)
    (case tyFe => k_is)
    (case kFe => k_is)
    (case gaFe => k_is)
    (case ggFe => k_is)
    (case hdFe => k_is)
    (case suFe => k_is)
    (case noFe => k_is)
    (case lVx => k_is)
    (case rV => rfl)
    (case saVe => k_is)
    (case exVe => k_is)
    (case tyVe => k_is)
    (case kVe => k_is)
    (case gaVe => k_is)
    (case ggVe => k_is)
    (case hdVe => k_is)
    (case suVe => k_is)
    (case noVe => k_is)
    (case lJx => k_is)
    (case rJ => rfl)
    (case saJe => k_is)
    (case exJe => k_is)
    (case tyJe => k_is)
    (case kJe => k_is)
    (case gaJe => k_is)
    (case ggJe => k_is)
    (case hdJe => k_is)
    (case suJe => k_is)
    (case noJe => k_is)
    (case lWx => k_is)
    (case rW => rfl)
    (case saWe => k_is)
    (case exWe => k_is)
    (case tyWe => k_is)
    (case kWe => k_is)
    (case gaWe => k_is)
    (case ggWe => k_is)
    (case hdWe => k_is)
    (case suWe => k_is)
    (case noWe => k_is)
    (case lLx => k_is)
    (case rL => rfl)
    (case saLe => k_is)
    (case exLe => k_is)
    (case tyLe => k_is)
    (case kLe => k_is)
    (case gaLe => k_is)
    (case ggLe => k_is)
    (case hdLe => k_is)
    (case suLe => k_is)
    (case noLe => k_is)
    (case rdM => k_is)
    (case gaM => k_is)
    (case fcM => k_is)
    (case gL => k_is)
    (case gA => k_is)
    (case gM => k_is)
    (case gU => k_is)
    (case gtn => k_is)
    (case ttn => k_is)
    (case etn0 => rfl)
    (case etn1 => rfl)
    (case etn2 => rfl)
    (case etn3 => rfl)
    (case wtn => first | rfl | k_is)
    (case gts => k_is)
    (case tts => k_is)
    (case ets0 => rfl)
    (case ets1 => rfl)
    (case ets2 => rfl)
    (case ets3 => rfl)
    (case ets4 => rfl)
    (case ets5 => rfl)
    (case wts => first | rfl | k_is)
    (case gtp => k_is)
    (case ttp => k_is)
    (case etp0 => rfl)
    (case etp1 => rfl)
    (case wtp => first | rfl | k_is)
    (case zlen => k_is)
    (case zmax => k_is)
    (case zmin => k_is)
    (case zint => k_is)
    (case zrange => k_is)
    (case zisinstance => k_is)
    (case zbool => k_is)
    (case zstr => k_is)
    (case zall => k_is)
    (case zrepr => k_is)
    (case ztuple => k_is)
    (case zsorted => k_is)
    (case zlist => k_is)
    (case zzip => k_is)
    (case zenumerate => k_is)
