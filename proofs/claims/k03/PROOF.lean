import PyProof.Rows.All
import Wide.All
import OpenK.AllK
import Wide.FinOn
import PyProof.ReprRoads
import HandS.ForMost
import HandS.EndBits
import HandS.ForExc
import HandS.TryMany
import HandS.ExcInit
import HandS.ExcField
import HandS.ClsMeth
import HandS.IsInst
import KE.KCallOwn
import KE.KFmtOwn
import KE.KOpsOwn
import HandS.FStr
import KE.KxField
import HandS.MakeKwOnly
import HandS.ExcOwn
import HandS.Wide
import HandS.Walk
import HandS.Property
import PySem.Challenge.RW_mapsizes_k03_places_made
import HandS.More
import PyProof.StrLawsRepr
import HandS.Style
import HandS.ExcIs
set_option Elab.async false
set_option linter.all false
set_option maxRecDepth 100000
set_option maxHeartbeats 4000000
/-! calls under which no container is being shown: the promises of defs that show lists -/
namespace Mz
open PySem PySem.Spec PyProof.Rows L2
section
variable {P : Program} {w : World} {K : PySem.W.Frag} {mg : Str → Option Value} {base : Heap} {CX : CXT} {k : Nat} {f : Addr} {fd : FuncData} {ps : List Str} {sp : Sp}
theorem quiet_deeper {A : Around} {env : Env} (h : A.guards = some []) : (A.deeper env).guards = some [] := h
theorem quiet_make {A : Around} {c : Addr} {us : List Value} {kw : List (Str × Value)} (h : A.guards = some []) : (A.under (.builtin "type.__call__" ⟨.ref c :: us, kw⟩)).guards = some [] := by
  have e : (Code.builtin "type.__call__" ⟨.ref c :: us, kw⟩).guards = [] := by
    have e2 : (Code.builtin "type.__call__" ⟨.ref c :: us, kw⟩).isGuard = false := by
      show guardIds.contains "type.__call__" = false
      decide +kernel
    unfold Code.guards
    rw [e2]
    rfl
  show pushGuards (Code.builtin "type.__call__" ⟨.ref c :: us, kw⟩).guards A.guards = some []
  rw [e, h]
  rfl
/-- a def's promise where nothing is being shown around it -/
structure FnG (P : Program) (w : World) (K : PySem.W.Frag) (mg : Str → Option Value) (base : Heap) (CX : CXT) (k : Nat) (f : Addr) (fd : FuncData) (ps : List Str) (sp : Sp) : Prop where
  lenG : ∀ vs H Q E, sp vs H Q E → vs.length = ps.length
  runG : ∀ (A : Around) (outer : List Env) (s : Shared) (H : Hp) (args : Args) (us : List Value) (vs : List V) (Q : VK) (E : XK),
    A.guards = some [] → Room k A → Env0 P w K mg base A outer s H → BindsTo s fd args (ps.zip us) → Vals vs us → sp vs H Q E →
    codeAny (model P w) A (.call (.ref f) args) (CR CX outer P w H s Q E) s
theorem FnG.of (F : FnOk P w K mg base CX k f fd ps sp) : FnG P w K mg base CX k f fd ps sp :=
  ⟨F.len, fun A outer s H args us vs Q E _ => F.run A outer s H args us vs Q E⟩
theorem FnG.mono {j : Nat} (F : FnG P w K mg base CX j f fd ps sp) (h : j ≤ k) : FnG P w K mg base CX k f fd ps sp :=
  ⟨F.lenG, fun A outer s H args us vs Q E g r => F.runG A outer s H args us vs Q E g (r.mono h)⟩
/-- the def by its body, told that nothing is being shown -/
theorem fnG_of {name qual : Str} {params : Arguments} {body : List Stmt} {scope : Scope} {dV kV doc pm cdv ct oc : Value} {an od : Option Addr} {osl : Array (Option Value)} {N : List Str}
    (lk : K.lookup f = some ⟨oc, od, .func (PySem.W.fnOf name qual params body scope dV kV doc pm an cdv ct), osl⟩) (hcd : PySem.W.codeIn K cdv qual = true) (S : FnScope N ps scope)
    (len : ∀ vs H Q E, sp vs H Q E → vs.length = ps.length)
    (hb : ∀ (A : Around) (outer : List Env) (s : Shared) (H : Hp) (vs : List V) (Q : VK) (E : XK), A.guards = some [] → Room k (A.deeper (envOfC qual scope s.heap.objs.size f cdv)) → sp vs H Q E →
      ∃ t, PSs (cxOf CX P w K mg base N qual scope f cdv A outer s H E) body t ∧ t { nx := fun _ H' => Q .non H', rt := Q } (start N vs) H) :
    FnG P w K mg base CX (k + 1) f (PySem.W.fnOf name qual params body scope dV kV doc pm an cdv ct) ps sp := by
  refine ⟨len, fun A outer s H args us vs Q E hg hr e0 hbi r hsp => ?_⟩
  -- the promise of the same def at this very place alone: whoever runs it stands at A
  have spA : ∀ (A2 : Around), A2 = A → A2.guards = some [] := fun A2 e => by
    rw [e]
    exact hg
  have lenv := len _ _ _ _ hsp
  have KX : K.In s.heap := e0.mod.kin.keeps fun b o e => (e0.bs b o e).1
  have lim : s.heap.NoLimit := e0.mod.nolimit.keeps fun b o e => (e0.bs b o e).1
  have kinds : ∀ y ∈ ps.zip us, scope.names.lookup y.1 = some .local ∨ (scope.names.lookup y.1 = some .cell ∧ ((cellsFrom (s.heap.objs.size + 1) scope.names []).lookup y.1).isSome = true) := by
    intro y hy
    obtain ⟨n, v⟩ := y
    rcases S.par n (List.of_mem_zip hy).1 with q | q
    · exact .inl q
    · exact .inr ⟨q, PySem.W.cellsFrom_some _ _ _ (.inl q)⟩
  refine codeAny_call_function hr.depth (KX _ _ lk) rfl S.co S.gen rfl (PySem.W.codeRec_of KX hcd) (hbi _ _ _ _ ?_)
  refine wpAny_newFunctionEnv_cells S.kind kinds fun env he s1 x => ?_
  subst he
  refine ⟨lim.keeps x.toInCall.keep, codeAny_func ?_⟩
  obtain ⟨t, ht, hq⟩ := hb A outer s H vs Q E hg (hr.deeper _) hsp
  have I : Inv (cxOf CX P w K mg base N qual scope f cdv A outer s H E) [] (start N vs) H s1 := inv_start S hr.hd e0 lenv r x
  refine wpAny_mono (ht.run [] s1 (start N vs) H _ I hq) (fun fl s' hs => ?_) fun e s' hs => hs
  cases fl with
  | ret u =>
    obtain ⟨v, σ', H', J, rv, q⟩ := hs
    exact ⟨v, H', J.os, J.bare, J.base, J.hok, rv, q⟩
  | next =>
    obtain ⟨σ', H', J, q⟩ := hs
    exact ⟨V.non, H', J.os, J.bare, J.base, J.hok, rfl, q⟩
  | brk =>
    obtain ⟨_, _, _, q⟩ := hs
    exact q.elim
  | cont =>
    obtain ⟨_, _, _, q⟩ := hs
    exact q.elim
end
section
variable {P : Program} {w : World} {K : PySem.W.Frag} {mg : Str → Option Value} {base : Heap}
theorem fun_okG {x qual : Str} {st : Stmt} {f : Addr} {fd : FuncData} {N ps : List Str} {k : Nat} {sp : Sp} (F : Fun K x qual st f fd) (S : FnScope N ps (defScope st)) (len : ∀ vs H Q E, sp vs H Q E → vs.length = ps.length)
    (hb : ∀ (cdv : Value) (A : Around) (outer : List Env) (s : Shared) (H : Hp) (vs : List V) (Q : VK) (E : XK), A.guards = some [] → Room k (A.deeper (envOfC qual (defScope st) s.heap.objs.size f cdv)) → sp vs H Q E →
      ∃ t, PSs (cxOf CX0 P w K mg base N qual (defScope st) f cdv A outer s H E).nox (defBody st) t ∧ t { nx := fun _ H' => Q .non H', rt := Q } (start N vs) H) : FnG P w K mg base CX0 (k + 1) f fd ps sp := by
  obtain ⟨oc, od, kV, doc, pm, an, cdv, ct, osl, rfl, lk, hcd⟩ := F.ex
  refine fnG_of lk hcd S len fun A outer s H vs Q E hg hr hsp => ?_
  obtain ⟨t, h, q⟩ := hb cdv A outer s H vs Q E hg hr hsp
  exact ⟨t, h.nox, q⟩
end
section
variable {X : Cx} {CX : CXT} {k : Nat} {f : Addr} {fd : FuncData} {ps : List Str} {sp : Sp} {dvs : List V} {ds : List Value} {E : XK} {x : Str} {p pos : Pos} {e : Expr} {es : List Expr} {t : TA}
/-- a call of such a def -/
theorem pe_callG (F : FnG X.prog X.w X.K X.mg X.base CX k f fd ps sp) (g0 : X.A.guards = some []) (hr : Room k X.A) (hg : Gl X x) (hm : X.mg x = some (.ref f)) (hk : PySem.W.keepIn X.K (.ref f) = true) (hb : Binds X.K fd ps ds) (hd : Vals dvs ds) (hx : Passes CX X E)
    (ha : PA X (e :: es) t) (hdb : (x == ("__debug__" : Str)) = false := by decide) (he : starEach (e :: es) X.env = (false, eval e X.env) :: starEach es X.env := by rfl) (hpl : (backTo pos (starEach es X.env)).any (·.1) = false := by rfl) :
    PE X (.Call (.Name x p) (e :: es) [] pos) (tCall sp dvs E t) := by
  refine ⟨fun pins s σ H Q I h => wpAny_Call_Name_kw (ld_glob I hg hm ?_ hdb)⟩
  refine PySem.W.callWith_K (h₀ := X.base) I.ok.mod.kin hk (thn (ha.run pos pins s σ H _ I h) fun us s1 hv => ?_) he hpl
  obtain ⟨vs, H1, I1, r, q⟩ := hv
  refine ⟨I1.kIn, ?_⟩
  have r2 : Vals (vs ++ dvs) (us ++ ds) := r.append hd
  have hl : (us ++ ds).length = ps.length := r2.length.symm.trans (F.lenG _ _ _ _ q)
  refine wpAny_call (codeAny_mono (F.runG X.A X.stack s1 H1 ⟨us, []⟩ (us ++ ds) (vs ++ dvs) Q E g0 hr I1.env0 (hb s1 us I1.kIn hl) r2 q) fun r s' hq => ?_)
  cases r with
  | error e => exact hx pins σ H1 s1 e s' I1 hq
  | ok fl =>
    cases fl with
    | ret u => exact I1.after hq
    | next => exact hq.elim
    | brk => exact hq.elim
    | cont => exact hq.elim
end
/-! ### repr of data -/
section
variable {X : Cx}
/-- repr(x), x a bool, None, an int of some size, a text, a list or a tuple of these -/
def rReprD (K : PySem.W.Frag) : List V → Hp → VK → Prop := fun xs H Q => ∃ x d, xs = [x] ∧ Dp K H x d ∧ PyData.showable d = true ∧ PyData.hasDict d = false ∧ PyData.depth d < 60 ∧ (PyData.shown d).length ≤ sizeLine ∧ Q (.str (PyData.shown d)) H
theorem call_reprD (g0 : X.A.guards = some []) (hu : X.A.units + 64 < cLine) : CallR X (.builtin "repr") (rReprD X.K) := by
  intro pins s σ H xs us Q I r h
  obtain ⟨x, d, rfl, hd, hs, hno, hdp, hz, q⟩ := h
  obtain ⟨u, rfl, rx⟩ := vals1 r
  have ends : ∀ h' t tk, (∀ b o, s.heap.get? b = some o → h'.get? b = some o) → EP X pins σ Q (.str (PyData.shown d) t) { s with heap := h', toks := tk } :=
    fun h' t tk hk => ⟨.str _, H, I.kept hk, ⟨_, rfl⟩, q⟩
  have keep : ∀ b o, s.heap.get? b = some o → s.heap.get? b = some o := fun _ _ z => z
  obtain ⟨as, rd⟩ := Dp.reads I d x u hd rx
  cases hd with
  | non =>
    cases rx
    exact PySem.P.repr_of_none (by simpa only [PyData.shown] using ends s.heap _ _ keep)
  | bl b =>
    cases rx
    exact PySem.P.repr_of_bool (by simpa only [PyData.shown] using ends s.heap _ _ keep)
  | int i =>
    obtain ⟨t, rfl⟩ := rx
    have hs' : i.natAbs.log2 < 1920 := by simpa [PyData.showable] using hs
    exact PySem.P.repr_of_int hs' (by simpa only [PyData.shown] using ends s.heap _ _ keep)
  | str z =>
    obtain ⟨t, rfl⟩ := rx
    exact PySem.P.repr_of_str (by simpa only [PyData.shown] using ends s.heap _ _ keep) (by simpa only [PyData.shown] using hz)
  | lst h1 h2 =>
    cases rx
    exact repr_of_reads' rd hs (fun z => by rw [hno] at z; cases z) g0 (by omega) keep (fun h' t tk hk => ends h' t tk hk) hz
  | tup h1 h2 =>
    cases rx
    exact repr_of_reads' rd hs (fun z => by rw [hno] at z; cases z) g0 (by omega) keep (fun h' t tk hk => ends h' t tk hk) hz
end
end Mz
set_option Elab.async false
set_option linter.all false
set_option maxRecDepth 100000
set_option maxHeartbeats 4000000
/-! the end of a row for a law whose promise wants that nothing is being shown -/
namespace Mz
open PySem PySem.Spec PyProof.Rows L2
theorem law_callG {P : Program} {w : World} {K : PySem.W.Frag} {mg mb : Str → Option Value} {CX : CXT} {k : Nat} {fa a : Addr} {fd : FuncData} {x : Str} {sp : Sp} {s1 : Shared} {vs : List Value} {ns : List Int}
    (KX : K.In s1.heap) (hns : s1.heap.Ns mainGlobals mg) (hb : s1.heap.Ns builtinsNs mb) (hbb : ∀ x : Str, x ≠ "__name__" → mb x = bootBuiltins x) (hlim : s1.heap.NoLimit) (hgen : s1.gens = #[])
    (ha : s1.heap.get? a = some { cls := .type "list", data := .seq vs.toArray }) (hi : IntsAre vs ns) (hl : ns.length ≤ sizeLine) (hr : Room k callerA)
    (F : ∀ base : Heap, K.In base → base.Ns mainGlobals mg → FnG P w K mg base CX k fa fd [x] sp) (hbind : ∀ (s : Shared) (u : Value), BindsTo s fd ⟨[u], []⟩ [(x, u)])
    (hsp : ∀ H : Hp, Only H → SqL K H a (ns.map V.int) → sp [.ref a] H (fun v _ => v = .bl true) fun _ _ _ => False)
    (hCX : ∀ H e s', CX [] H s1 (fun _ _ _ => False) e s' → False) :
    codeAny (model P w) callerA (.call (.ref fa) ⟨[.ref a], []⟩) (fun r s' => r = .ok (.ret (.bool true)) ∧ OldK s1.heap s'.heap ∧ s'.os = s1.os ∧ AllBare s'.gens) s1 := by
  have rv := vals_ints hi
  have lenV := hi.length
  have way : ∀ H : Hp, Only H → SqL K H a (ns.map V.int) → HOk P w H s1.heap → (∀ b u, H b = some u → b = a) → (∀ u, H a = some u → K.lookup a = none) →
      codeAny (model P w) callerA (.call (.ref fa) ⟨[.ref a], []⟩) (fun r s' => r = .ok (.ret (.bool true)) ∧ OldK s1.heap s'.heap ∧ s'.os = s1.os ∧ AllBare s'.gens) s1 := by
    intro H hO hS hok hA hK
    have untr : ∀ {b : Addr} {o : Obj} {es : Array DictEntry} {ep : Nat}, s1.heap.get? b = some o → o.data = .dict es ep → H b = none := by
      intro b o es ep e d
      rcases q : H b with _ | u
      · rfl
      · obtain rfl := hA b u q
        rw [ha] at e
        cases e
        exact nomatch (show Data.seq vs.toArray _ = Data.dict es ep from d)
    have nsK : ∀ {b : Addr} {m : Str → Option Value}, s1.heap.Ns b m → (hidT s1.heap H).Ns b m := by
      rintro b m ⟨o, es, ep, e, d, r⟩
      exact ⟨o, es, ep, hidT_get e (untr e d), d, r⟩
    have hKb : K.In (hidT s1.heap H) := by
      intro b o e
      refine hidT_get (KX b o e) ?_
      rcases q : H b with _ | u
      · rfl
      · obtain rfl := hA b u q
        have z := hK u q
        rw [z] at e
        cases e
    have hM : Mod K mg (hidT s1.heap H) := by
      obtain ⟨mc, h1, h2⟩ := hlim
      exact ⟨hKb, nsK hns, ⟨mb, nsK hb, hbb⟩, ⟨mc, nsK h1, h2⟩⟩
    have e0 : Env0 P w K mg (hidT s1.heap H) callerA [] s1 H :=
      ⟨rfl, hM, fun b o e => of_hidT e, Nat.le_of_eq (hidT_size _ _), trivial, fun b z => (nomatch (show b ∈ ([] : List Addr) from z)), hok, .of_eq hgen⟩
    have run := (F _ hKb (nsK hns)).runG callerA [] s1 H ⟨[.ref a], []⟩ [.ref a] [.ref a] _ _ rfl hr e0 (hbind s1 (.ref a)) (.cons rfl .nil) (hsp H hO hS)
    refine codeAny_mono run fun r s' h => ?_
    match r, h with
    | .error e, h => exact (hCX H e s' h).elim
    | .ok .next, h => exact h.elim
    | .ok .brk, h => exact h.elim
    | .ok .cont, h => exact h.elim
    | .ok (.ret u), h =>
      obtain ⟨v, H', os, bare, un, hok2, r2, q⟩ := h
      obtain rfl : v = .bl true := q
      obtain rfl : u = Value.bool true := r2
      refine ⟨rfl, OldK.of_keep fun b o e => ?_, os, bare⟩
      rcases q : H b with _ | u
      · exact un.keep b o e q (fun z => (nomatch (show b ∈ ([] : List Addr) from z))) (by simp)
      · rcases hO b with z | ⟨ob, xs, z⟩
        · rw [q] at z
          cases z
        · have z2 := un.frzs b ob _ z
          obtain ⟨e1, _⟩ := hok b _ z
          obtain ⟨e2, _⟩ := hok2 b _ z2
          rw [e] at e1
          cases e1
          exact e2
  rcases hk : K.lookup a with _ | o
  · have at_a : ∀ {b : Addr} {u : HO}, (if b = a then some (HO.frz { cls := .type "list", data := .seq vs.toArray } (.lst (ns.map V.int))) else none) = some u → b = a ∧ u = .frz { cls := .type "list", data := .seq vs.toArray } (.lst (ns.map V.int)) := by
      intro b u z
      by_cases hba : b = a
      · rw [if_pos hba] at z
        exact ⟨hba, (Option.some.inj z).symm⟩
      · rw [if_neg hba] at z
        cases z
    refine way (fun b => if b = a then some (.frz { cls := .type "list", data := .seq vs.toArray } (.lst (ns.map V.int))) else none) (fun b => ?_) (.inl (.inr ⟨{ cls := .type "list", data := .seq vs.toArray }, if_pos rfl⟩)) (fun b u z => ?_) (fun b u z => (at_a z).1) fun u _ => hk
    · by_cases hba : b = a
      · exact .inr ⟨_, _, if_pos hba⟩
      · exact .inl (if_neg hba)
    · obtain ⟨rfl, rfl⟩ := at_a z
      exact ⟨ha, by rw [List.length_map]; exact hl, vs, _, rv, ha⟩
  · have e := KX a o hk
    rw [ha] at e
    cases e
    refine way (fun _ => none) (fun _ => .inl rfl) (.inr ⟨_, vs.toArray, _, hk, rfl, rfl, rfl, by rw [List.size_toArray, lenV]; exact hl, by simpa using rv⟩) (fun b u z => ?_) (fun b u z => ?_) fun u z => ?_
    · exact nomatch (show (none : Option HO) = some u from z)
    · exact nomatch (show (none : Option HO) = some u from z)
    · exact nomatch (show (none : Option HO) = some u from z)
theorem walk_G {l : PySem.W.OpenLaw} {n k : Nat} {q : Program} {loose : List Str} {XP : (Str → Option Value) → Heap → Prop} {YP : World → Heap → Prop} {d : DefRec} {K : Params → PySem.W.Frag} {CX : World → CXT} {sp : World → Sp} {x : Str}
    (hn : l.most = some n) (hn2 : n ≤ sizeLine) (hdf : d.params.defaults = []) (hr : Room k callerA)
    (hY : ∀ (w : World) (h : Heap), YP w h → (K w.params).In h)
    (F : ∀ (w : World) (mg : Str → Option Value) (fa : Addr) (h : Heap), (K w.params).In h → h.Ns mainGlobals mg → mg d.name = some (.ref fa) →
      ∃ fd : FuncData, (∀ (s : Shared) (u : Value), BindsTo s fd ⟨[u], []⟩ [(x, u)]) ∧ ∀ base : Heap, (K w.params).In base → base.Ns mainGlobals mg → FnG l.prog w (K w.params) mg base (CX w) k fa fd [x] (sp w))
    (hsp : ∀ (w : World) (H : Hp) (a : Addr) (ns : List Int), ns.length ≤ n → (∀ z ∈ ns, Builtin.Int.intBits z ≤ 1048576) → Only H → SqL (K w.params) H a (ns.map V.int) → sp w [.ref a] H (fun v _ => v = .bl true) fun _ _ _ => False)
    (hCX : ∀ (w : World) (H : Hp) (s : Shared) (e : Value) (s' : Shared), CX w [] H s (fun _ _ _ => False) e s' → False) :
    PySem.W.WalkO q loose XP YP l.row.toRowW d [] (fun f vs => PySem.call f vs) := by
  refine Att.attach_callB hn hdf fun w s0 s1 mg mb fa o pm cd doc a vs ns G Y ho hd hcd hmg hobj hints hlen hbits hgen => ?_
  obtain ⟨fd, hb, hF⟩ := F w mg fa _ (hY w _ Y) G.T.g hmg
  exact law_callG (hY w _ Y) G.T.g G.T.b G.T.builtins G.T.nolimit hgen hobj hints (Nat.le_trans hlen hn2) hr hF hb (fun H hO hS => hsp w H a ns hlen hbits hO hS) fun H e s' => hCX w H s1 e s'
end Mz
set_option Elab.async false
set_option linter.all false
set_option maxRecDepth 100000
set_option maxHeartbeats 4000000
/-! try with several clauses «except X as n», the exception met by one of them; what else stands behind these clauses is never looked at -/
namespace Mz
open PySem PySem.Spec PyProof.Rows L2
/-- a clause: the class, the slot of its name, its suite -/
abbrev Cl := Value × Nat × (Addr → Value → Option Addr → TS)
def endsAs (i : Nat) (D : Ends) : Ends := { nx := fun t G => D.nx (t.set i none) G, rt := D.rt, bk := fun t G => D.bk (t.set i none) G, ct := fun t G => D.ct (t.set i none) G }
def wNam (K : PySem.W.Frag) (D : Ends) : List Cl → WX
  | [] => fun _ _ _ _ => False
  | (c, i, ts) :: r => fun cls d t G => ∃ b, PySem.W.exmOne K cls c = some b ∧ (b = true → ∀ a, G a = none → ts a cls d (endsAs i D) (t.set i (some (.ref a))) G) ∧ (b = false → wNam K D r cls d t G)
inductive Cls_ (X : Cx) : List ExceptHandler → List Cl → Prop
  | any (l : List ExceptHandler) : Cls_ X l []
  | one {x n : Str} {c : Value} {i : Nat} {ts : Addr → Value → Option Addr → TS} {st : Stmt} {suite : List Stmt} {p1 p2 : Pos} {hs : List ExceptHandler} {l : List Cl} (hi : X.N[i]? = some n) (hl : X.env.kindOf n = some .local) (hc : Names X x c)
      (hsu : ∀ (a : Addr) (oe : Obj) (cls : Value) (d : Option Addr) (pn : List (Addr × Obj)), Zc cls d oe → (∃ vs, oe.data = .fields vs) → PSs (X.suite a ((a, oe) :: pn)) (st :: suite) (ts a cls d)) (r : Cls_ X hs l) :
      Cls_ X (.ExceptHandler (some (.Name x p1)) (some n) (st :: suite) p2 :: hs) ((c, i, ts) :: l)
section
variable {X : Cx} {body : List Stmt} {hd0 : ExceptHandler} {hds : List ExceptHandler} {tb : WX → TS} {l : List Cl} {pos : Pos}
theorem ps_try_named (hst : X.stack = X.env :: X.outer) (hfr : X.env.frame = some X.env.locals) (hN : X.N.Nodup)
    (hb : ∀ (W : WX) (pn : List (Addr × Obj)) (xe : Value → Shared → Prop), Takes (X.tr pn xe) W → PassesOwn (model X.prog X.w) X.A X.env xe → PSs (X.tr pn xe) body (tb W))
    (hh : Cls_ X (hd0 :: hds) l) : PS X (.Try body (hd0 :: hds) [] [] pos) (fun D σ H => tb (wNam X.K D l) D σ H) := by
  refine ⟨fun pins s σ H D I h => ?_⟩
  have ok := I.ok
  have frames : X.A.frames = some (X.env :: X.outer) := ok.frames.trans (congrArg some hst)
  refine wpAny_Try_except (wpAny_mono ((hb (wNam X.K D l) (X.pn ++ pins) (fun e q1 => wpAny (model X.prog X.w) X.A (noteFrame e X.env) (fun _ q2 => wpAny (model X.prog X.w) X.A (setFlight e none) (fun _ q3 =>
    wpAny (model X.prog X.w) X.A (handleBy e X.env (hd0 :: hds)) (SP X pins D) X.xe q3) X.xe q2) X.xe q1) (fun u s' xx => ?_) PassesOwn.looking).run [] s σ H D (I.toTry _) h) (fun f q1 hsp => ?_) fun e q1 he => he)
  · obtain ⟨a, B, sI, pins2, t, G, cls, d, rfl, JT, nb, up, sky, na, os, ag, wish⟩ := xx
    have J : Inv X pins t G sI := JT.ofTry ok
    have sky2 : Sky B (X.env :: X.outer) a (Zc cls d) X.env.locals s'.heap := hst ▸ sky
    show wpAny (model X.prog X.w) X.A (noteFrame (.ref a) X.env) _ _ _
    refine Sky.land Zc.steady frames hfr sky2 fun g3 fl3 up3 => ?_
    have J3 : Inv X pins t G { s' with heap := g3 } := J.landed nb fl3.1 (up.trans up3) os ag
    obtain ⟨oe3, vs3, he3, hz3, hd3⟩ := fl3.there
    have off : a ∉ frs (X.env :: X.outer) := by
      intro hm
      obtain ⟨_, o2, e2, hnf⟩ := fl3.2.2.1.mem hm
      rw [he3] at e2
      cases e2
      exact hnf _ hd3
    have nL : a ≠ X.env.locals := fun z => off (List.mem_filterMap.mpr ⟨X.env, List.mem_cons_self, by rw [hfr, z]⟩)
    have nF : a ∉ X.fs := by
      intro hm
      obtain ⟨e, he, q⟩ := List.mem_filterMap.mp hm
      exact off (List.mem_filterMap.mpr ⟨e, List.mem_cons_of_mem _ he, q⟩)
    have S3 := J3.suite he3 hd3 na nL nF
    have go : ∀ {k : List ExceptHandler} {m : List Cl}, Cls_ X k m → wNam X.K D m cls d t G → wpAny (model X.prog X.w) X.A (handleBy (.ref a) X.env k) (SP X pins D) X.xe { s' with heap := g3 } := by
      intro k m hk
      induction hk with
      | any k => exact fun z => z.elim
      | @one x n c i ts st suite p1 p2 k2 m2 hi hl hc hsu r ih =>
        rintro ⟨b, hb1, hyes, hno⟩
        have locn : Loc X.env.scope n := .inl hl
        refine wpAny_handleBy_cons (codeAny_handlers_test ?_) (by intro q; cases q)
        have typ : PySem.W.Looks (model X.prog X.w) g3 (typeOf (.ref a)) cls := fun A Q E s k q => wpAny_typeOf_ref (k _ _ he3) (by rw [hz3.1]; exact q)
        have met := PySem.W.exm_one (M := model X.prog X.w) (J3.kIn) typ hb1
        have load : ∀ {Q : Value → Shared → Prop} {E : Value → Shared → Prop}, Q c { s' with heap := g3 } → wpAny (model X.prog X.w) (X.A.mark (some (.ref a))) (eval (.Name x p1) X.env) Q E { s' with heap := g3 } := by
          intro Q E q
          obtain ⟨h1, h2, h3 | ⟨h3, h4, h5⟩⟩ := hc
          · exact ld_glob (X := X.suite a ((a, oe3) :: (X.pn ++ pins))) S3 h1 h3 q h2
          · exact ld_blt (X := X.suite a ((a, oe3) :: (X.pn ++ pins))) S3 h1 h3 h4 q h5 h2
        refine load (met.here ?_)
        cases b with
        | false => exact ih (hno rfl)
        | true =>
          refine codeAny_handlers_suite_as (HandSPX.lands_againZ fl3 fun g4 fl4 up4 => ?_)
          have J4 : Inv X pins t G { s' with heap := g4 } := J.landed nb fl4.1 ((up.trans up3).trans up4) os ag
          obtain ⟨oe4, vs4, he4, hz4, hd4⟩ := fl4.there
          have S4 := J4.suite he4 hd4 na nL nF
          refine store_ok (X := X.suite a ((a, oe4) :: (X.pn ++ pins))) (v := .ref a) S4 hN hi locn rfl (fun q5 S5 => ?_) (.inr hl)
          refine wpAny_mono ((hsu a oe4 cls d (X.pn ++ pins) hz4 ⟨_, hd4⟩).run [] q5 _ G _ S5 (hyes rfl a na)) (fun f q6 hsp => ?_) (fun _ _ z => z.elim)
          have fin : ∀ {t6 : L2.St} {G6 : Hp} {Q : Shared → Prop}, Inv (X.suite a ((a, oe4) :: (X.pn ++ pins))) [] t6 G6 q6 → (∀ q7, Inv X pins (t6.set i none) G6 q7 → Q q7) →
              wpAny (model X.prog X.w) X.A (do bindName X.env n .none; unbindBehindTheSuite X.env n p2) (fun _ q7 => Q q7) X.xe q6 := fun S6 hq => gone_ok (S6.unsuite ok) hN hi hl hq
          match f, hsp with
          | .next, ⟨t6, G6, S6, q6⟩ => exact fin S6 fun _ J7 => ⟨_, _, J7, q6⟩
          | .brk, ⟨t6, G6, S6, q6⟩ => exact fin S6 fun _ J7 => ⟨_, _, J7, q6⟩
          | .cont, ⟨t6, G6, S6, q6⟩ => exact fin S6 fun _ J7 => ⟨_, _, J7, q6⟩
          | .ret u, ⟨v6, t6, G6, S6, r6, q6⟩ => exact fin S6 fun _ J7 => ⟨_, _, _, J7, r6, q6⟩
    first
      | exact go hh wish
      | exact HandSPX.setFlight_upZ fl3 fun h4 hh4 up4 => go hh wish
  · match f, hsp with
    | .next, ⟨t, G, J, q⟩ => exact wpAny_execs_nil ⟨t, G, J.ofTry ok, q⟩
    | .brk, ⟨t, G, J, q⟩ => exact ⟨t, G, J.ofTry ok, q⟩
    | .cont, ⟨t, G, J, q⟩ => exact ⟨t, G, J.ofTry ok, q⟩
    | .ret u, ⟨v, t, G, J, r, q⟩ => exact ⟨v, t, G, J.ofTry ok, r, q⟩
end
end Mz
set_option Elab.async false
set_option linter.all false
set_option maxRecDepth 100000
set_option maxHeartbeats 4000000
/-! own exceptions whose __init__ calls the __init__ of an own base by its name -/
namespace Mz
open PySem PySem.Spec PyProof.Rows L2
section
variable {X : Cx} {o e : Expr} {es : List Expr} {ta : TA} {x : Str} {cM : Addr} {p1 p2 pos : Pos}
/-- MapError.__init__(self, ..): what stands there is the built-in one -/
theorem pe_meinit {pl : Sem Bool} (hg : Gl X x) (hm : X.mg x = some (.ref cM)) (rd : ClX.CRead X.K cM (.type "type")) (fc : PySem.W.findCls X.K (.ref cM) (.type "type") "__init__" = some (.val (.builtin "ValueError.__init__"))) (ha : PA X (e :: es) ta)
    (hc : eval (.Call (.Attribute (.Name x p1) "__init__" p2) (e :: es) [] pos) X.env = (do
      let ov ← eval (.Name x p1) X.env
      standAt p2.atName
      let (f, first) ← holding [ov] (getMethod ov "__init__" pl)
      callWith pos f first (backTo pos (starEach (e :: es) X.env)) (backToKw pos (keywordEach [] X.env))) := by rfl)
    (hdb : (x == ("__debug__" : Str)) = false := by decide) (he : starEach (e :: es) X.env = (false, eval e X.env) :: starEach es X.env := by rfl) (hpl : (backTo pos (starEach es X.env)).any (·.1) = false := by rfl) :
    PE X (.Call (.Attribute (.Name x p1) "__init__" p2) (e :: es) [] pos) (tVeI X.K ta) := by
  refine ⟨fun pins s σ H Q I h => PySem.W.methodCall_KW (ld_glob I hg hm ?_ hdb) hc⟩
  refine PySem.W.method_cls I.kIn rd.ga (PySem.W.cls_value I.kIn rd.rd fc (by decide +kernel) ?_)
  show wpAny _ _ (callWith pos (Value.builtin "ValueError.__init__") [] (backTo pos (starEach (e :: es) X.env)) []) _ _ _
  refine PyProof.Rows.callWith_method1 (thn (ha.run pos pins _ σ H _ (I.tok _) h) fun us s1 hv => ?_) he hpl
  obtain ⟨vs, H1, I1, r1, a, C, ws, rfl, hl, T, ea, q⟩ := hv
  cases r1 with
  | @cons _ u0 _ ur ra rw2 =>
    obtain rfl : u0 = Value.ref a := ra
    have short : ur.length ≤ sizeLine := by
      have e2 := Paired.length rw2
      have e3 := sizeLine_eq
      omega
    exact oinit_ok T I1 ea short fun s2 J => ⟨.non, H1, J, rfl, q⟩
end
/-- an exception of one field that is being made: it is at a, no dict as yet; behind __init__ its dict holds the field -/
def spX1 (K : PySem.W.Frag) (C : Addr) (f : Str) : Sp := fun vs H Q _ => ∃ (a : Addr) (v : V), vs = [.ref a, v] ∧ H a = some (exo a C none) ∧
  ∀ dx, H dx = none → dx ≠ a → Q .non (upd (upd H dx (exd dx [(f, v)])) a (exo a C (some dx)))
end Mz
set_option Elab.async false
set_option linter.all false
set_option maxRecDepth 100000
set_option maxHeartbeats 4000000
/-! what an own class says of str, ==, !=, + -/
namespace Mz
open PySem PySem.Spec PyProof.Rows L2
section
variable {X : Cx} {CX : CXT} {k : Nat} {f C : Addr} {fd : FuncData} {ps : List Str} {sp : Sp} {E : XK}
/-- a def of the text called at another place of the same run -/
theorem run_at {pins : List (Addr × Obj)} {σ : L2.St} {H : Hp} {s : Shared} {A : Around} {Q : VK} {us : List Value} {vs : List V} {E2 : Value → Shared → Prop} (F : FnOk X.prog X.w X.K X.mg X.base CX k f fd ps sp) (hr : Room k A) (e0 : Env0 X.prog X.w X.K X.mg X.base A X.stack s H)
    (hb : Binds X.K fd ps []) (hx : ∀ e s2, CX X.stack H s E e s2 → E2 e s2) (I : Inv X pins σ H s) (r : Vals vs us) (h : sp vs H Q E) : wpAny (model X.prog X.w) A (call (.ref f) us) (EP X pins σ Q) E2 s := by
  have hl : (us ++ []).length = ps.length := by
    rw [List.append_nil]
    exact r.length.symm.trans (F.len _ _ _ _ h)
  have hbi := hb s us I.kIn hl
  rw [List.append_nil] at hbi
  refine wpAny_call (codeAny_mono (F.run A X.stack s H ⟨us, []⟩ us vs Q E hr e0 hbi r h) fun r s2 hq => ?_)
  match r, hq with
  | .error e, hq => exact hx e s2 hq
  | .ok (.ret u), hq => exact I.after hq
  | .ok .next, hq => exact hq.elim
  | .ok .brk, hq => exact hq.elim
  | .ok .cont, hq => exact hq.elim
/-- str(x) by the own __str__ -/
theorem call_strO (F : FnOk X.prog X.w X.K X.mg X.base CX0 k f fd ps sp) (hr : Room (k + 2) X.A) (hb : Binds X.K fd ps []) (hs : PySem.W.findIn X.K (.ref C) "__str__" = some (some (.ref f))) (hf : PySem.W.isFn X.K (.ref f) = true) :
    CallR X (.type "str") (fun xs H Q => ∃ a dx fs, xs = [.ref a] ∧ H a = some (.ins C dx fs) ∧ sp [.ref a] H (fun v H2 => ∃ z : Str, v = .str z ∧ Q (.str z) H2) E0) := by
  intro pins s σ H xs us Q I r h
  obtain ⟨a, dx, fs, rfl, ha, q⟩ := h
  obtain ⟨u, rfl, rx⟩ := vals1 r
  obtain rfl : u = Value.ref a := rx
  obtain ⟨mA, O, _⟩ := ins_get I.hok ha
  obtain ⟨od, J, _⟩ := O.look
  refine PySem.W.kso_call hr.in1.in1.units0 I.kIn J hs hf (wpAny_mono (run_at (E := E0) (vs := [.ref a]) (us := [.ref a]) F hr.in1.in1 I.env0.in1.in1 hb (fun _ _ z => z.elim) I (.cons rfl .nil) q) (fun u s2 hv => ?_) fun _ _ z => z)
  obtain ⟨v, H2, I2, rv, z, rfl, q2⟩ := hv
  obtain ⟨t, rfl⟩ := rv
  exact ⟨.str z, H2, I2, ⟨t, rfl⟩, q2⟩
/-- what stands on the other side of == : its type, no class below C -/
def Oth (K : PySem.W.Frag) (C : Addr) (H : Hp) (y : V) : Prop := ∃ t, TyX K H y t ∧ PySem.W.notFirst K C t = true
theorem op_eqO (F : FnOk X.prog X.w X.K X.mg X.base CX0 k f fd ps sp) (hr : Room k X.A) (hb : Binds X.K fd ps []) (hs : PySem.W.findIn X.K (.ref C) "__eq__" = some (some (.ref f))) (hf : PySem.W.isFn X.K (.ref f) = true) :
    OpR X (compareOp .Eq) (fun x y H Q => ∃ a dx fs, x = .ref a ∧ H a = some (.ins C dx fs) ∧ Oth X.K C H y ∧ sp [.ref a, y] H (fun v H2 => ∃ b : Bool, v = .bl b ∧ Q (.bl b) H2) E0) := by
  intro pins s σ H x y v u Q I rx ry h
  obtain ⟨a, dx, fs, rfl, ha, ⟨t, ty, nf⟩, q⟩ := h
  obtain rfl : v = Value.ref a := rx
  obtain ⟨mA, O, _⟩ := ins_get I.hok ha
  obtain ⟨od, J, _⟩ := O.look
  obtain ⟨m, hF⟩ := I.fr
  obtain ⟨P, Z, hp, _⟩ := kit_of I ry ty
  refine PySem.W.cmp_ofEq (PySem.W.cmp_K (op := .Eq) hr.units0 hF I.ok.mod.kin J (Z.ty _ _ I.kIn hp) nf hs hf (wpAny_mono (run_at (E := E0) (vs := [.ref a, y]) (us := [.ref a, u]) F hr I.env0 hb (fun _ _ z => z.elim) I (.cons rfl (.cons ry .nil)) q) (fun u s2 hv => ?_) fun _ _ z => z))
  obtain ⟨v, H2, I2, rv, b, rfl, q2⟩ := hv
  obtain rfl : u = Value.bool b := rv
  exact ⟨.bl b, H2, I2, rfl, q2⟩
/-- object.__ne__ by the own __eq__ -/
theorem op_neO (F : FnOk X.prog X.w X.K X.mg X.base CX0 k f fd ps sp) (hr : Room (k + 1) X.A) (hb : Binds X.K fd ps []) (hs : PySem.W.findIn X.K (.ref C) "__eq__" = some (some (.ref f))) (hf : PySem.W.isFn X.K (.ref f) = true)
    (hn : PySem.W.findIn X.K (.ref C) "__ne__" = some (some (.builtin "object.__ne__"))) (hm : PySem.W.mroIn X.K C (.type "object") = some true) :
    OpR X (compareOp .NotEq) (fun x y H Q => ∃ a dx fs, x = .ref a ∧ H a = some (.ins C dx fs) ∧ Oth X.K C H y ∧ sp [.ref a, y] H (fun v H2 => ∃ b : Bool, v = .bl b ∧ Q (.bl (!b)) H2) E0) := by
  intro pins s σ H x y v u Q I rx ry h
  obtain ⟨a, dx, fs, rfl, ha, ⟨t, ty, nf⟩, q⟩ := h
  obtain rfl : v = Value.ref a := rx
  obtain ⟨mA, O, _⟩ := ins_get I.hok ha
  obtain ⟨od, J, _⟩ := O.look
  obtain ⟨m, hF⟩ := I.fr
  obtain ⟨P, Z, hp, _⟩ := kit_of I ry ty
  have back : wpAny (model X.prog X.w) X.A.in1 (call (.ref f) [.ref a, u]) (fun r s2 => ∃ b, r = .bool b ∧ EP X pins σ Q (.bool (!b)) s2) X.xe s :=
    wpAny_mono (run_at (E := E0) (vs := [.ref a, y]) (us := [.ref a, u]) F hr.in1 I.env0.in1 hb (fun _ _ z => z.elim) I (.cons rfl (.cons ry .nil)) q) (fun r s2 hv => by
      obtain ⟨v, H2, I2, rv, b, rfl, q2⟩ := hv
      obtain rfl : r = Value.bool b := rv
      exact ⟨b, rfl, .bl (!b), H2, I2, rfl, q2⟩) fun _ _ z => z
  have body : wpAny (model X.prog X.w) X.A.in1 (Builtin.«object.__ne__» ⟨[.ref a, u], []⟩) (fun fin s2 => ∃ b : Bool, fin = .done (.ret (.bool b)) ∧ EP X pins σ Q (.bool b) s2) X.xe s := by
    unfold Builtin.«object.__ne__»
    refine wpAny_bind (m := slotArgs "__ne__" 1 _) (wpAny_pure ?_)
    refine wpAny_bind (m := cRoomFor _ _) (wpAny_cRoomFor hr.in1.units0 ?_)
    refine wpAny_bind (m := callSpecialIfBound? (.ref a) "__eq__" [u]) (PySem.W.ifBound_K I.kIn J hs hf (wpAny_mono back (fun r s2 hv => ?_) fun _ _ z => z))
    obtain ⟨b, rfl, e⟩ := hv
    exact wpAny_bind (wpAny_pure (wpAny_pure ⟨!b, rfl, e⟩))
  have sub : PySem.W.Looks (model X.prog X.w) s.heap (isInstance (.ref a) (.type "object")) true := J.type.andThen (PySem.W.looks_mroIn I.kIn hm)
  have ran : wpAny (model X.prog X.w) X.A (call (.builtin "object.__ne__") [.ref a, u]) (fun r s2 => ∃ b : Bool, r = .bool b ∧ EP X pins σ Q (.bool b) s2) X.xe s := by
    refine wpAny_call (codeAny_call_builtin PySem.F.slot_object_ne.plain PySem.F.entry_object_ne (PySem.W.check_slot (i := "object.__ne__") (owner := "object") (n := "__ne__") (by decide +kernel) (by decide +kernel) sub (PySem.F.args_object_ne_2 _ _) ?_))
    refine wpAny_mono body (fun fin s2 hv => ?_) fun _ _ z => z
    obtain ⟨b, rfl, e⟩ := hv
    exact ⟨b, rfl, e⟩
  have ask : wpAny (model X.prog X.w) X.A (callSpecialIfBound? (.ref a) "__ne__" [u]) (fun r s2 => ∃ b : Bool, r = some (.bool b) ∧ EP X pins σ Q (.bool b) s2) X.xe s := by
    simp only [callSpecialIfBound?, bindSpecialIfBound?]
    refine wpAny_holding (wpAny_bind (wpAny_bind (wpAny_bind (J.type.here ((PySem.W.looks_findIn I.kIn hn).here ?_)))))
    refine wpAny_bind (wpAny_askSetting (wpAny_ite ?_))
    have fin : wpAny (model X.prog X.w) X.A (call (.builtin "object.__ne__") ([.ref a] ++ [u]) >>= fun v => pure (some v)) (fun r s2 => ∃ b : Bool, r = some (.bool b) ∧ EP X pins σ Q (.bool b) s2) X.xe s :=
      wpAny_bind (wpAny_mono ran (fun v s2 hv => by
        obtain ⟨b, rfl, e⟩ := hv
        exact wpAny_pure ⟨b, rfl, e⟩) fun _ _ z => z)
    split
    · exact wpAny_bind ((PySem.W.Looks.of_pure (PySem.F.slot_object_ne.bind _)).here (wpAny_pure (by exact fin)))
    · exact wpAny_tryCatch (wpAny_bind ((PySem.W.Looks.of_pure (PySem.F.slot_object_ne.bind _)).here (wpAny_pure (by exact fin))))
  have one : wpAny (model X.prog X.w) X.A (tryCompare (.ref a) (cmpInfo .NotEq).2.1 u) (fun r s2 => ∃ v, r = some v ∧ EP X pins σ Q v s2) X.xe s := by
    unfold tryCompare
    refine wpAny_bind (wpAny_mono ask (fun r s2 hv => ?_) fun _ _ z => z)
    obtain ⟨b, rfl, e⟩ := hv
    exact wpAny_pure ⟨_, rfl, e⟩
  refine PySem.W.cmp_ofNotEq ?_
  unfold richCompare
  simp only [oneThing_ref]
  refine wpAny_holding (wpAny_bind (wpAny_cRoomFor (Nat.lt_of_lt_of_le hr.in1.units0 (Nat.le_refl _) |> fun z => Nat.lt_of_le_of_lt (Nat.le_succ _) z) ?_))
  refine wpAny_bind (J.type.here (wpAny_bind ((Z.ty _ _ I.kIn hp).here ?_)))
  have last : wpAny (model X.prog X.w) X.A (tryCompare (.ref a) (cmpInfo .NotEq).2.1 u) (fun r s2 => ∃ v, r = some v ∧ EP X pins σ Q v s2) X.xe s := one
  split
  · rename_i qn
    have e : PySem.W.subIn X.K t (.ref C) = some false := by
      rcases Bool.or_eq_true_iff.mp nf with e | e
      · rw [beq_iff_eq.mp e] at qn
        simp at qn
      · exact beq_iff_eq.mp e
    refine wpAny_bind ((PySem.W.looks_subIn I.kIn e).here ?_)
    simp only [Bool.false_eq_true, if_false]
    refine wpAny_bind (wpAny_mono last (fun r s2 z => ?_) fun _ _ e => e)
    obtain ⟨v, rfl, hq⟩ := z
    exact wpAny_pure hq
  · refine wpAny_bind (wpAny_pure ?_)
    simp only [Bool.false_eq_true, if_false]
    refine wpAny_bind (wpAny_mono last (fun r s2 z => ?_) fun _ _ e => e)
    obtain ⟨v, rfl, hq⟩ := z
    exact wpAny_pure hq
/-- what the class says of +, - with an int on the right -/
structure Arith (K : PySem.W.Frag) (C : Addr) (op : Operator) (f : Addr) : Prop where
  first : PySem.W.selfFirst K C = true
  own : PySem.W.findIn K (.ref C) (PySem.dunder op.info.2) = some (some (.ref f))
  fn : PySem.W.isFn K (.ref f) = true
  back : ∃ rc, PySem.W.findIn K (.ref C) (dunderR op.info.2) = some rc ∧ (rc = none ∨ ∃ g : Addr, rc = some (.ref g))
  io : ∃ fo, PySem.W.findIn K (.type "int") (PySem.dunder op.info.2) = some fo
  ir : ∃ ro, PySem.W.findIn K (.type "int") (dunderR op.info.2) = some ro
  sub : PySem.W.subIn K (.type "int") (.ref C) = some false
theorem op_binO {op : Operator} (F : FnOk X.prog X.w X.K X.mg X.base CX0 k f fd ps sp) (hr : Room k X.A) (hb : Binds X.K fd ps []) (T : Arith X.K C op f) :
    OpR X (binaryOp op) (fun x y H Q => ∃ a dx fs i, x = .ref a ∧ y = .int i ∧ H a = some (.ins C dx fs) ∧ sp [.ref a, y] H (fun v H2 => (∃ p, v = .ref p) ∧ Q v H2) E0) := by
  intro pins s σ H x y v u Q I rx ry h
  obtain ⟨a, dx, fs, i, rfl, rfl, ha, q⟩ := h
  obtain rfl : v = Value.ref a := rx
  obtain ⟨t, rfl⟩ := ry
  obtain ⟨mA, O, _⟩ := ins_get I.hok ha
  obtain ⟨od, J, _⟩ := O.look
  obtain ⟨m, hF⟩ := I.fr
  obtain ⟨rc, b1, b2⟩ := T.back
  obtain ⟨fo, c1⟩ := T.io
  obtain ⟨ro, c2⟩ := T.ir
  refine PySem.W.ksp_binT (T := "int") hF I.ok.mod.kin J rfl T.first T.own T.fn b1 b2 c1 c2 T.sub (wpAny_mono (run_at (E := E0) (vs := [.ref a, .int i]) (us := [.ref a, .int i t]) F hr I.env0 hb (fun _ _ z => z.elim) I (.cons rfl (.cons ⟨t, rfl⟩ .nil)) q) (fun r s2 hv => ?_) fun _ _ z => z)
  obtain ⟨v, H2, I2, rv, ⟨p, rfl⟩, q2⟩ := hv
  obtain rfl : r = Value.ref p := rv
  exact ⟨.ref p, H2, I2, rfl, q2⟩
end
end Mz
set_option Elab.async false
set_option linter.all false
set_option maxRecDepth 100000
set_option maxHeartbeats 4000000
/-! a small int in a field of an f-string with its sign written -/
namespace Mz
open PySem PySem.Spec PyProof.Rows L2 PySem.W
def signS (i : Int) : Str := if i = 1 then "+1" else if i = 2 then "+2" else if i = 3 then "+3" else if i = -1 then "-1" else if i = -2 then "-2" else "-3"
theorem small_six {i : Int} (h0 : -3 ≤ i) (h1 : i ≤ 3) (h : i ≠ 0) : i = 1 ∨ i = 2 ∨ i = 3 ∨ i = -1 ∨ i = -2 ∨ i = -3 := by omega
theorem fmt_plus {prog : Program} {w : World} {A : Around} {E : Value → Shared → Prop} {s : Shared} {i : Int} {t : Tok} {Q : Value → Shared → Prop} (h0 : -3 ≤ i) (h1 : i ≤ 3) (hz : i ≠ 0) (h : ∀ u k, Q (.str (signS i) u) { s with toks := k }) :
    wpAny (model prog w) A (formatField (.int i t) ("+d" : Str)) Q E s := by
  rcases small_six h0 h1 hz with rfl | rfl | rfl | rfl | rfl | rfl
  · exact KXf.field_int (y := "+1") rfl (by decide +kernel) (by decide +kernel) (by kxf_run_i) h
  · exact KXf.field_int (y := "+2") rfl (by decide +kernel) (by decide +kernel) (by kxf_run_i) h
  · exact KXf.field_int (y := "+3") rfl (by decide +kernel) (by decide +kernel) (by kxf_run_i) h
  · exact KXf.field_int (y := "-1") rfl (by decide +kernel) (by decide +kernel) (by kxf_run_i) h
  · exact KXf.field_int (y := "-2") rfl (by decide +kernel) (by decide +kernel) (by kxf_run_i) h
  · exact KXf.field_int (y := "-3") rfl (by decide +kernel) (by decide +kernel) (by kxf_run_i) h
section
variable {X : Cx}
theorem pe_fmtP {e : Expr} {te : TE} {j : Nat} {p1 p2 pos : Pos} (he : PE X e te) : PE X (.FormattedValue e (-1) (some (.JoinedStr [.Constant (.str "+d") j p1] p2)) pos)
    (fun σ H Q => te σ H fun x H1 => ∃ i : Int, x = .int i ∧ -3 ≤ i ∧ i ≤ 3 ∧ i ≠ 0 ∧ Q (.str (signS i)) H1) := by
  refine ⟨fun pins s σ H Q I h => ?_⟩
  refine wpAny_FormattedValue_spec (thn (he.run pins s σ H _ I h) fun v s1 hv => ?_)
  obtain ⟨x, H1, I1, r1, i, rfl, h0, h1, hz, q⟩ := hv
  obtain ⟨t, rfl⟩ := r1
  have sp : PE X (.JoinedStr [.Constant (.str "+d") j p1] p2) (tC (.str "+d")) := pe_joined1 pe_str
  refine wpAny_mono (sp.run pins s1 σ H1 (fun y H2 => y = .str "+d" ∧ Q (.str (signS i)) H2) I1 ⟨rfl, q⟩) (fun u s2 hv => ?_) fun _ _ z => z
  obtain ⟨y, H2, I2, r2, rfl, q2⟩ := hv
  obtain ⟨u2, rfl⟩ := r2
  exact ⟨_, u2, rfl, fmt_plus h0 h1 hz fun u k => ⟨.str (signS i), H2, I2.tok _, ⟨u, rfl⟩, q2⟩⟩
end
end Mz
set_option Elab.async false
set_option linter.all false
set_option maxRecDepth 100000
set_option maxHeartbeats 4000000
/-! a class held by a parameter, called; a classmethod called by keywords alone -/
namespace Mz
open PySem PySem.Spec PyProof.Rows L2
section
variable {X : Cx} {CX : CXT} {k n i : Nat} {f C : Addr} {fd : FuncData} {ps ks : List Str} {sp : Sp} {E : XK} {x : Str} {p pos : Pos} {e : Expr} {es : List Expr} {kws : List Keyword} {t tk : TA} {g : List Value → List Value → List Value} {gV : List V → List V → List V}
/-- cls(k = v, ..), cls a local name that holds the class at C -/
theorem pe_makeL0 (hN : X.N[i]? = some x) (hv : Vis X.env.scope x) (M : Mk X.K C f) (F : FnOk X.prog X.w X.K X.mg X.base CX k f fd ps sp) (hr : Room (k + 1) X.A) (hb : KBn X.K fd ps 1 ks g gV) (hx : Passes CX X E) (hkw : PK X kws tk)
    (hall : (backToKw pos (keywordEach kws X.env)).all (·.1.isSome) = true := by rfl) (hks : (backToKw pos (keywordEach kws X.env)).filterMap (·.1) = ks := by rfl) (hdb : (x == ("__debug__" : Str)) = false := by decide) (hcd : (x == ("__classdict__" : Str)) = false := by decide)
    (hpl : ((backTo pos (starEach [] X.env)).any (·.1) || (backToKw pos (keywordEach kws X.env)).any (·.1.isNone)) = false := by rfl) :
    PE X (.Call (.Name x p) [] kws pos) (fun σ H Q => σ[i]? = some (some (.ref C)) ∧ tMakeK C 0 ks.length sp gV E tNil tk σ H Q) := by
  refine ⟨fun pins s σ H Q I h => ?_⟩
  obtain ⟨hσ, h⟩ := h
  have ld : PE X (.Name x p) (tVar i) := pe_var hN hv hdb hcd
  refine wpAny_Call_Name_kw (wpAny_mono (ld.run pins s σ H (fun v H2 => v = .ref C ∧ tMakeK C 0 ks.length sp gV E tNil tk σ H2 Q) I ⟨_, hσ, rfl, h⟩) (fun u s1 hv => ?_) fun _ _ z => z)
  obtain ⟨v, H1, I1, rv, rfl, q⟩ := hv
  obtain rfl : u = Value.ref C := rv
  refine PySem.W.callWith_KW0 (h₀ := X.base) I.ok.mod.kin M.kp hall (thn (hkw.run pos pins s1 σ H1 _ I1 q) fun ws s2 hw => ?_) hpl
  obtain ⟨zs, H2, I2, rz, l1, l2, q2⟩ := hw
  rw [hks]
  exact ⟨I2.kIn, run_makeK (us := []) (vs := []) M F hr hb hx I2 .nil rz rfl l2 q2⟩
/-- cls(e, .., k = v, ..) -/
theorem pe_makeL (hN : X.N[i]? = some x) (hv : Vis X.env.scope x) (M : Mk X.K C f) (F : FnOk X.prog X.w X.K X.mg X.base CX k f fd ps sp) (hr : Room (k + 1) X.A) (hb : KBn X.K fd ps (n + 1) ks g gV) (hx : Passes CX X E) (ha : PA X (e :: es) t) (hkw : PK X kws tk)
    (hall : (backToKw pos (keywordEach kws X.env)).all (·.1.isSome) = true := by rfl) (hks : (backToKw pos (keywordEach kws X.env)).filterMap (·.1) = ks := by rfl) (hdb : (x == ("__debug__" : Str)) = false := by decide) (hcd : (x == ("__classdict__" : Str)) = false := by decide)
    (he : starEach (e :: es) X.env = (false, eval e X.env) :: starEach es X.env := by rfl) (hpl : ((backTo pos (starEach (e :: es) X.env)).any (·.1) || (backToKw pos (keywordEach kws X.env)).any (·.1.isNone)) = false := by rfl) :
    PE X (.Call (.Name x p) (e :: es) kws pos) (fun σ H Q => σ[i]? = some (some (.ref C)) ∧ tMakeK C n ks.length sp gV E t tk σ H Q) := by
  refine ⟨fun pins s σ H Q I h => ?_⟩
  obtain ⟨hσ, h⟩ := h
  have ld : PE X (.Name x p) (tVar i) := pe_var hN hv hdb hcd
  refine wpAny_Call_Name_kw (wpAny_mono (ld.run pins s σ H (fun v H2 => v = .ref C ∧ tMakeK C n ks.length sp gV E t tk σ H2 Q) I ⟨_, hσ, rfl, h⟩) (fun u s1 hv => ?_) fun _ _ z => z)
  obtain ⟨v, H1, I1, rv, rfl, q⟩ := hv
  obtain rfl : u = Value.ref C := rv
  refine PySem.W.callWith_KW (h₀ := X.base) I.ok.mod.kin M.kp hall (thn (ha.run pos pins s1 σ H1 _ I1 q) fun us s2 hw => ?_) hpl he
  obtain ⟨vs, H2, I2, r2, q2⟩ := hw
  refine thn (hkw.run pos pins s2 σ H2 _ I2 q2) fun ws s3 hw => ?_
  obtain ⟨zs, H3, I3, rz, l1, l2, q3⟩ := hw
  rw [hks]
  exact ⟨I3.kIn, run_makeK M F hr hb hx I3 r2 rz l1 l2 q3⟩
/-- C.m(k = v, ..), m a classmethod, keywords alone -/
theorem pe_cmethK0 {o : Expr} {ta : TE} {m : Str} {q g0 : Addr} {mc : Value} {apos : Pos} {pl : Sem Bool} {ES : L2.St → XK} (ho : PE X o ta) (r : ClX.CRead X.K C mc) (c : ClX.CMet X.K C mc m q g0) (F : FnOk X.prog X.w X.K X.mg X.base CX k g0 fd ps sp) (hr : Room k X.A) (hb : KBn X.K fd ps 1 ks g gV) (hx : ∀ σ, PassesAt CX X σ (ES σ)) (hkw : PK X kws tk)
    (hall : (backToKw pos (keywordEach kws X.env)).all (·.1.isSome) = true := by rfl) (hks : (backToKw pos (keywordEach kws X.env)).filterMap (·.1) = ks := by rfl)
    (hpl : ((backTo pos (starEach [] X.env)).any (·.1) || (backToKw pos (keywordEach kws X.env)).any (·.1.isNone)) = false := by rfl)
    (ht : eval (.Call (.Attribute o m apos) [] kws pos) X.env = (do
      let ov ← eval o X.env
      standAt apos.atName
      let (f, first) ← holding [ov] (getMethod ov m pl)
      callWith pos f first (backTo pos (starEach [] X.env)) (backToKw pos (keywordEach kws X.env))) := by rfl) :
    PE X (.Call (.Attribute o m apos) [] kws pos) (fun σ H Q => ta σ H fun x H1 => x = .ref C ∧ tk σ H1 fun zs H2 => zs.length = ks.length ∧ sp (gV [.ref C] zs) H2 Q (ES σ)) := by
  refine ⟨fun pins s σ H Q I h => PySem.W.methodCall_KW (pl := pl) (thn (ho.run pins s σ H _ I h) fun u s1 hv => ?_) ht⟩
  obtain ⟨x, H1, I1, rx, rfl, q1⟩ := hv
  obtain rfl : u = Value.ref C := rx
  refine ClX.getmethcm_ok I1 r c fun s2 I2 => ?_
  refine PySem.W.callWith_of (P := PySem.W.MethP X.K s1.heap.objs.size g0 (.ref C)) hpl (PySem.W.keeps_M c.fi) (evalArgs_kw2_nil hall (thn (hkw.run pos _ s2 σ H1 _ I2 q1) fun ws s3 hw => ?_))
  obtain ⟨zs, H2, I3, rz, l2, q2⟩ := hw
  refine ⟨⟨ClX.pin_at I3, I3.kIn⟩, ?_⟩
  rw [hks]
  have r1 : Vals [V.ref C] [Value.ref C] := .cons rfl .nil
  have z : wpAny (model X.prog X.w) X.A (call (.ref s1.heap.objs.size) [] (ks.zip ws)) (EP X ((s1.heap.objs.size, PySem.W.methodObj (.ref g0) (.ref C)) :: pins) σ Q) X.xe s3 := by
    refine wpAny_call (PySem.W.method_call (ClX.pin_at I3) (codeAny_mono (F.run X.A X.stack s3 H2 ⟨[.ref C], ks.zip ws⟩ (g [.ref C] ws) (gV [.ref C] zs) Q (ES σ) hr I3.env0 (hb.to s3 [.ref C] ws I3.kIn rfl (rz.length.symm.trans l2)) (hb.rel r1 rz) q2) fun r s4 hq => ?_))
    cases r with
    | error e => exact hx σ _ H2 s3 e s4 I3 hq
    | ok fl =>
      cases fl with
      | ret u => exact I3.after hq
      | next => exact hq.elim
      | brk => exact hq.elim
      | cont => exact hq.elim
  exact thn z fun _ _ y => ClX.unpinE y
/-- C.m(e, ..), m a classmethod; what is raised is wished for at the caller's slots -/
theorem pe_cmethS {o : Expr} {ta : TE} {m : Str} {q g0 : Addr} {mc : Value} {apos : Pos} {pl : Sem Bool} {ES : L2.St → XK} (ho : PE X o ta) (r : ClX.CRead X.K C mc) (c : ClX.CMet X.K C mc m q g0) (F : FnOk X.prog X.w X.K X.mg X.base CX k g0 fd ps sp) (hr : Room k X.A) (hb : Binds X.K fd ps [])
    (hx : ∀ σ, PassesAt CX X σ (ES σ)) (ha : PA X (e :: es) t) (hst : starEach (e :: es) X.env = (false, eval e X.env) :: starEach es X.env := by rfl) (hpl : (backTo pos (starEach es X.env)).any (·.1) = false := by rfl)
    (ht : eval (.Call (.Attribute o m apos) (e :: es) [] pos) X.env = (do
      let ov ← eval o X.env
      standAt apos.atName
      let (f, first) ← holding [ov] (getMethod ov m pl)
      callWith pos f first (backTo pos (starEach (e :: es) X.env)) (backToKw pos (keywordEach [] X.env))) := by rfl) :
    PE X (.Call (.Attribute o m apos) (e :: es) [] pos) (fun σ H Q => ta σ H fun x H1 => x = .ref C ∧ t σ H1 fun vs H2 => sp (.ref C :: vs) H2 Q (ES σ)) := by
  refine ⟨fun pins s σ H Q I h => PySem.W.methodCall_KW (pl := pl) (thn (ho.run pins s σ H _ I h) fun u s1 hv => ?_) ht⟩
  obtain ⟨x, H1, I1, rx, rfl, q1⟩ := hv
  obtain rfl : u = Value.ref C := rx
  refine ClX.getmethcm_ok I1 r c fun s2 I2 => ?_
  refine ClX.callwith_cm I2 (ClX.base_none I1 (Nat.le_refl _)) c.fi (thn (ha.run pos _ s2 σ H1 _ I2 q1) fun us s3 hw => ?_) hst hpl
  obtain ⟨vs, H2, I3, rv, q2⟩ := hw
  refine ⟨⟨ClX.pin_at I3, I3.kIn⟩, ?_⟩
  have r1 : Vals (V.ref C :: vs) (Value.ref C :: us) := .cons rfl rv
  have hl : (Value.ref C :: us ++ []).length = ps.length := by
    rw [List.append_nil]
    exact r1.length.symm.trans (F.len _ _ _ _ q2)
  have hbi := hb s3 (Value.ref C :: us) I3.kIn hl
  rw [List.append_nil] at hbi
  have z : wpAny (model X.prog X.w) X.A (call (.ref s1.heap.objs.size) us) (EP X ((s1.heap.objs.size, PySem.W.methodObj (.ref g0) (.ref C)) :: pins) σ Q) X.xe s3 := by
    refine wpAny_call (PySem.W.method_call (ClX.pin_at I3) (codeAny_mono (F.run X.A X.stack s3 H2 ⟨Value.ref C :: us, []⟩ (Value.ref C :: us) (V.ref C :: vs) Q (ES σ) hr I3.env0 hbi r1 q2) fun r s4 hq => ?_))
    cases r with
    | error e => exact hx σ _ H2 s3 e s4 I3 hq
    | ok fl =>
      cases fl with
      | ret u => exact I3.after hq
      | next => exact hq.elim
      | brk => exact hq.elim
      | cont => exact hq.elim
  exact thn z fun _ _ y => ClX.unpinE y
end
end Mz
set_option Elab.async false
set_option linter.all false
set_option maxRecDepth 100000
set_option maxHeartbeats 4000000
/-! repr of lists that hold instances with an own __repr__ -/
namespace Mz
open PySem PySem.Spec PyProof.Rows L2
/-- v is shown as t, under the containers as -/
def ShV (X : Cx) (k : Nat) (as : List Addr) (Pre : Hp → Prop) (v : V) (t : Str) : Prop :=
  ∀ (base : Nat), base + t.length ≤ sizeLine → ∀ (A : Around) (g : List Code) (pins : List (Addr × Obj)) (σ : L2.St) (H : Hp) (s : Shared) (u : Value) (Q : Str → Shared → Prop), A.frames = some X.stack → A.guards = some g → (∀ b ∈ as, Clear g b) → Room k A →
    Inv X pins σ H s → Pre H → RelV v u → (∀ H' s', Inv X pins σ H' s' → Same H H' → Q t s') → wpAny (model X.prog X.w) A (pyReprUnder base u) Q X.xe s
section
variable {X : Cx} {k : Nat} {as : List Addr} {Pre : Hp → Prop}
theorem shv_is {v : V} {t : Str} (h : ∀ u, RelV v u → ReprIs X.prog X.w u t) : ShV X k as Pre v t :=
  fun base hb A g pins σ H s u Q _ _ _ _ I _ r q => (h u r) base hb A X.xe s Q fun tk => q H _ (I.tok _) (Same.refl H)
theorem shv_str {z : Str} (h : (reprText z).length ≤ sizeLine) : ShV X k as Pre (.str z) (reprText z) := shv_is fun u r => by
  obtain ⟨t, rfl⟩ := r
  exact ReprIs.str z t h
theorem shv_int {i : Int} (h : i.natAbs.log2 < 1920) : ShV X k as Pre (.int i) (Str.ofString (toString i)) := shv_is fun u r => by
  obtain ⟨t, rfl⟩ := r
  exact ReprIs.int t h
theorem ifBoundBy_K {M : Model} {A : Around} {E : Value → Shared → Prop} {s : Shared} {K : PySem.W.Frag} {x C f : Addr} {ox : Obj} {od : Option Obj} {name : Str} {last : Value → List Value → Sem Value} {Q : Option Value → Shared → Prop} (KX : K.In s.heap) (I : PySem.W.InstAt s.heap x ox C od)
    (hs : PySem.W.findIn K (.ref C) name = some (some (.ref f))) (hf : PySem.W.isFn K (.ref f) = true)
    (h : wpAny M A (last (.ref f) [.ref x]) (fun v => Q (some v)) E s) : wpAny M A (callSpecialIfBoundBy? last (.ref x) name) Q E s := by
  simp only [callSpecialIfBoundBy?, bindSpecialIfBound?]
  refine wpAny_holding (wpAny_bind (wpAny_bind (wpAny_bind (I.type.here ((PySem.W.looks_findIn KX hs).here ?_)))))
  refine wpAny_bind (wpAny_askSetting (wpAny_ite ?_))
  have fin : wpAny M A (last (.ref f) [.ref x] >>= fun v => pure (some v)) Q E s := wpAny_bind (wpAny_mono h (fun v s' h' => wpAny_pure h') fun _ _ h' => h')
  split
  · exact wpAny_bind ((PySem.W.bind_fn KX _ (beq_iff_eq.mp hf)).here (wpAny_pure (by exact fin)))
  · exact wpAny_tryCatch (wpAny_bind ((PySem.W.bind_fn KX _ (beq_iff_eq.mp hf)).here (wpAny_pure (by exact fin))))
theorem env_at {pins : List (Addr × Obj)} {σ : L2.St} {H : Hp} {s : Shared} {A : Around} (I : Inv X pins σ H s) (h : A.frames = some X.stack) : Env0 X.prog X.w X.K X.mg X.base A X.stack s H := by
  have e := I.env0
  exact ⟨h, e.mod, e.bs, e.bsz, e.funs, e.frf, e.hok, e.bare⟩
theorem shv_own {j : Nat} {f C p : Addr} {fd : FuncData} {sp : Sp} {t : Str} (F : FnOk X.prog X.w X.K X.mg X.base CX0 k f fd ["self"] sp) (hb : Binds X.K fd ["self"] []) (hs : PySem.W.findIn X.K (.ref C) "__repr__" = some (some (.ref f))) (hf : PySem.W.isFn X.K (.ref f) = true)
    (hp : ∀ H, Pre H → ∃ dx fs, H p = some (.ins C dx fs) ∧ sp [.ref p] H (fun v H2 => v = .str t ∧ Same H H2) E0) : ShV X k as Pre (.ref p) t := by
  intro base hbs A g pins σ H s u Q hfr hg hcl hr I pre r q
  obtain rfl : u = Value.ref p := r
  obtain ⟨dx, fs, ha, hsp⟩ := hp H pre
  obtain ⟨mA, O, _⟩ := ins_get I.hok ha
  obtain ⟨od, J, _⟩ := O.look
  refine wpAny_pyReprUnder_ref (by omega) ?_
  unfold pyReprObjUnder pyReprObjBy
  refine wpAny_bind (wpAny_cRoomFor hr.units0 ?_)
  refine wpAny_bind (wpAny_bind (J.type.here ((PySem.W.looks_findIn I.kIn hs).here ?_)))
  refine wpAny_bind (ifBoundBy_K I.kIn J hs hf ?_)
  have run := run_at (Q := fun v H2 => v = .str t ∧ Same H H2) (E := E0) (E2 := X.xe) (vs := [.ref p]) (us := [.ref p]) F hr (env_at I hfr) hb (fun _ _ z => z.elim) I (.cons rfl .nil) hsp
  refine wpAny_mono run (fun v s2 hv => ?_) fun _ _ z => z
  obtain ⟨w, H2, I2, rv, rfl, sm⟩ := hv
  obtain ⟨tk, rfl⟩ := rv
  exact wpAny_bind (wpAny_isInstance (T := "str") (b := true) rfl isSubtype_str_str (wpAny_pure ⟨_, _, rfl, q _ _ I2 sm⟩))
/-- texts, as a tracked list has them -/
theorem strs_done : ∀ {l : List Str} {us : List Value}, Vals (l.map V.str) us → ∃ done : List (Str × Tok), us = strValues done ∧ done.map (·.1) = l
  | [], _, .nil => ⟨[], rfl, rfl⟩
  | z :: l, _, .cons ⟨t, e⟩ r => by
    obtain ⟨done, rfl, e2⟩ := strs_done r
    exact ⟨(z, t) :: done, by rw [e]; rfl, by rw [List.map_cons, e2]⟩
theorem frames_list_loop {A : Around} {l : List Env} {args : Args} (h : A.frames = some l) : (A.under (.builtin "list.__repr__.loop" args)).frames = some l := by
  first | exact h | (simpa [Around.under, Code.envs, Code.isFrame, pushEnvs] using h)
theorem loop_depth {A : Around} {args : Args} : (A.under (.builtin "list.__repr__.loop" args)).depth ≤ A.depth + 1 := by
  first | exact Nat.le_refl _ | (simp [Around.under, Code.weight, Code.isCreation, Code.isGuard, Code.isCaller, Code.frames, Code.isFrame, guardIds])
theorem _root_.L2.Room.list_loop {A : Around} {k : Nat} (r : Room (k + 1) A) (args : Args) : Room k (A.under (.builtin "list.__repr__.loop" args)) :=
  ⟨r.hd, by have := r.dp; have := loop_depth (A := A) (args := args); omega, by have := r.un; rw [units_under_list_loop]; omega⟩
/-- the loop of list.__repr__ -/
theorem loop_own {A : Around} {g : List Code} {pins : List (Addr × Obj)} {σ : L2.St} {a P : Addr} {vs : List V} {ts : List Str} {base : Nat} {R : Result → Shared → Prop} (hfr : A.frames = some X.stack) (hg : A.guards = some g) (hcl : ∀ b ∈ as, Clear g b) (hr : Room (k + 1) A) (hna : a ∉ as)
    (mono : ∀ H H', Same H H' → Pre H → Pre H') (hne : a ≠ P) (hlen : ts.length = vs.length) (hT : ∀ (i : Nat) (v : V), vs[i]? = some v → ∃ t, ts[i]? = some t ∧ ShV X k as Pre v t) (hsz : base + (listText ts).length ≤ sizeLine) (hE : ∀ e s', X.xe e s' → R (.error e) s') :
    ∀ (n i : Nat) (H : Hp) (s : Shared), vs.length - i = n → i ≤ vs.length → Inv X pins σ H s → (∀ H', (∀ p o, p ≠ P → H p = some o → H' p = some o) → Pre H') → H a = some (.lst vs) → H P = some (.lst ((ts.take i).map V.str)) →
    (∀ H' s' u, Inv X pins σ H' s' → (∀ p o, p ≠ P → H p = some o → H' p = some o) → R (.ok (.ret (.str (listText ts) u))) s') →
    codeAny (model X.prog X.w) A (.builtin "list.__repr__.loop" ⟨[.ref a, rawInt i, .ref P, rawInt ((base + piled (ts.take i) : Nat) : Int)], []⟩) R s := by
  have hL := textFrom_len ts 0 "["
  have hX : (listText ts).length = (textFrom 0 "[" ts).length + 1 := by
    show (textFrom 0 "[" ts ++ "]").length = _
    rw [strLen_append]; rfl
  have hsz1 : vs.length ≤ sizeLine := by
    have h1 := hL.1
    rw [if_neg (Nat.lt_irrefl 0)] at h1
    omega
  have hsz2 : ∀ t ∈ ts, t.length ≤ sizeLine := fun t ht => by
    have h2 := hL.2.1 t ht
    omega
  have hsz3 : (listText ts).length ≤ sizeLine := by omega
  have hp3 := piled_le_listText ts
  intro n
  induction n with
  | zero =>
    intro i H s hk hi I pre hA hP q
    obtain ⟨_, its, na, rv, l1, ha⟩ := I.lstM hA
    obtain ⟨_, its2, nc, rv2, l2, hP2⟩ := I.lstM hP
    obtain ⟨done, rfl, hdone⟩ := strs_done rv2
    have hin : i = vs.length := by omega
    refine codeAny_builtin PySem.F.entry_list_repr_loop ?_
    show wpAny _ _ (Builtin.«list.__repr__.loop» ⟨[.ref a, .int i 0, .ref P, .int ((base + piled (ts.take i) : Nat) : Int) 0], []⟩) _ _ s
    rw [repr_loop_tree]
    refine wpAny_bind (wpAny_listItems ha rfl ?_)
    have hnone : its.toArray[(i : Int).toNat]? = none := by simp [hin, l1]
    simp only [hnone]
    unfold reprEnd
    refine wpAny_bind (wpAny_listItems hP2 rfl ?_)
    rw [show (strValues done).toArray.toList = strValues done from rfl, repr_fold]
    refine wpAny_bind (wpAny_pure ?_)
    have hall : done.map (·.1) = ts := by rw [hdone, hin, ← hlen, List.take_length]
    rw [hall]
    refine wpAny_bind (wpAny_mkStr (wpAny_pure ?_) hsz3)
    exact q H _ _ (I.tok _) fun _ _ _ e => e
  | succ n ih =>
    intro i H s hk hi I pre hA hP q
    obtain ⟨_, its, na, rv, l1, ha⟩ := I.lstM hA
    have hlt : i < vs.length := by omega
    obtain ⟨t, ht, hrep⟩ := hT i vs[i] (List.getElem?_eq_getElem hlt)
    obtain ⟨u, hu, rel⟩ := rv.get (List.getElem?_eq_getElem hlt)
    have hp1 := piled_take_succ ht
    have hp2 := piled_take_le ts (i + 1)
    refine codeAny_builtin PySem.F.entry_list_repr_loop ?_
    show wpAny _ _ (Builtin.«list.__repr__.loop» ⟨[.ref a, .int i 0, .ref P, .int ((base + piled (ts.take i) : Nat) : Int) 0], []⟩) _ _ s
    rw [repr_loop_tree]
    refine wpAny_bind (wpAny_listItems ha rfl ?_)
    have hsome : its.toArray[(i : Int).toNat]? = some u := by simpa using hu
    simp only [hsome]
    rw [Int.toNat_natCast]
    have hpre : Pre H := pre H fun _ _ _ e => e
    refine wpAny_bind (wpAny_holding (wpAny_mono (hrep (base + piled (ts.take i) + 1) (by omega) _ _ pins σ H s u (fun t' s' => t' = t ∧ ∃ H', Inv X pins σ H' s' ∧ Same H H') (frames_list_loop hfr) (guards_under_guard (isGuard_list_loop _) hg) (fun b hb => (hcl b hb).cons (a := a) fun e => hna (e ▸ hb)) (hr.list_loop _) I hpre rel fun H' s' I' sm => ⟨rfl, H', I', sm⟩) (fun t' s' hh => ?_) fun e s' z => hE e s' z))
    obtain ⟨rfl, H', I', sm⟩ := hh
    refine wpAny_bind (wpAny_mkStr ?_ (hsz2 t' (List.mem_of_getElem? ht)))
    refine wpAny_bind ?_
    show wpAny _ _ (updateSeq P _) _ _ _
    have hP' := sm _ _ hP
    obtain ⟨_, its2, nc, rv2, l2, hP2⟩ := I'.lstM hP'
    have take_len : (ts.take i).length ≤ i := by rw [List.length_take]; omega
    have asz : its2.toArray.size ≤ sizeLine := by
      rw [List.size_toArray, ← l2, List.length_map]
      omega
    refine wpAny_updateSeq hP2 rfl (wpAny_pure ⟨PySem.F.quiet_list_repr_loop _, ?_⟩) asz
    have e1 : ((i : Int) + 1) = ((i + 1 : Nat) : Int) := by omega
    have e2 : base + piled (ts.take i) + (t'.length + 2) = base + piled (ts.take (i + 1)) := by omega
    rw [e1, e2]
    have e3 : (ts.take i).map V.str ++ [V.str t'] = (ts.take (i + 1)).map V.str := by
      rw [List.take_add_one, ht, List.map_append]
      rfl
    have I2 : Inv X pins σ (upd H' P (.lst ((ts.take (i + 1)).map V.str))) _ := I'.lset (its' := its2 ++ [.str t' s'.toks]) (f := fun xs => xs.push (.str t' s'.toks)) (t' := s'.toks + 1) hP' hP2 (by simp) (by rw [← e3]; exact rv2.append (.cons ⟨_, rfl⟩ .nil)) (by rw [List.length_map, List.length_take]; omega)
    have keepP : ∀ p o, p ≠ P → H p = some o → (upd H' P (.lst ((ts.take (i + 1)).map V.str))) p = some o := fun p o np e => by
      rw [upd_ne np]
      exact sm p o e
    refine ih (i + 1) _ _ (by omega) hlt I2 (fun H2 k2 => pre H2 fun p o np e => k2 p o np (keepP p o np e)) (keepP a _ hne hA) upd_same fun H2 s2 u2 I3 k3 => ?_
    exact q H2 s2 u2 I3 fun p o np e => k3 p o np (keepP p o np e)
/-- repr of a list some of whose items are instances -/
def rReprO (X : Cx) (k : Nat) : List V → Hp → VK → Prop := fun xs H Q => ∃ (a : Addr) (v0 : V) (vr : List V) (ts : List Str) (Pre : Hp → Prop), xs = [.ref a] ∧ H a = some (.lst (v0 :: vr)) ∧ (∀ H H', Same H H' → Pre H → Pre H') ∧ Pre H ∧ ts.length = (v0 :: vr).length ∧
  (∀ (i : Nat) (v : V), (v0 :: vr)[i]? = some v → ∃ t, ts[i]? = some t ∧ ShV X k [] Pre v t) ∧ (listText ts).length ≤ sizeLine ∧ ∀ H', Same H H' → Q (.str (listText ts)) H'
theorem call_reprO (g0 : X.A.guards = some []) (hr : Room (k + 2) X.A) : CallR X (.builtin "repr") (rReprO X k) := by
  intro pins s σ H xs us Q I r h
  obtain ⟨a, v0, vr, ts, Pre, rfl, hA, mono, pre, hlen, hT, hsz, q⟩ := h
  obtain ⟨u, rfl, rx⟩ := vals1 r
  obtain rfl : u = Value.ref a := rx
  obtain ⟨z, its, n, rv, l1, ha⟩ := I.lstM hA
  match its, rv with
  | x :: l, rv =>
  refine call_repr_slot (T := "list") (by have := hr.units; omega) ⟨_, ha, rfl⟩ PySem.F.slot_list_repr.toG ?_
  refine wpAny_call (codeAny_call_builtin PySem.F.slot_list_repr.plain PySem.F.entry_list_repr (PySem.F.slot_list_repr.check _ _ _ _ _ _ _ _ ⟨_, ha, rfl⟩ (PySem.F.args_list_repr_1 _) ?_))
  refine wpAny_list_repr_head (A := X.A.in1.in1) (g := []) (b := 0) g0 (fun v rest kw hm => nomatch hm) ha rfl ?_
  refine wpAny_bind (m := newList []) (wpAny_newObj_type ?_)
  refine wpAny_pure ⟨PySem.F.quiet_list_repr_loop _, ?_⟩
  have I1 := I.lnew (ys := []) (its := []) (t' := s.toks) .nil (Nat.zero_le _)
  have nP : H s.heap.objs.size = none := I.hok.fresh (Nat.le_refl _)
  have neP : a ≠ s.heap.objs.size := ne_of_none hA nP
  have same : ∀ {H' : Hp}, (∀ p o, p ≠ s.heap.objs.size → (upd H s.heap.objs.size (.lst [])) p = some o → H' p = some o) → Same H H' := fun k2 p o e => k2 p o (ne_of_none e nP) (by rw [upd_ne (ne_of_none e nP)]; exact e)
  have pz : piled (ts.take 0) = 0 := rfl
  refine loop_own (X := X) (k := k) (as := []) (Pre := Pre) (A := X.A.in1) (g := []) (pins := pins) (σ := σ) (a := a) (P := s.heap.objs.size) (vs := v0 :: vr) (ts := ts) (base := 0) I.env0.frames g0 (fun b hb => nomatch hb) hr.in1 (fun hb => nomatch hb) mono neP hlen hT (by omega) (fun e s' z => z) _ 0 (upd H s.heap.objs.size (.lst [])) _ rfl (Nat.zero_le _) I1
    (fun H' k2 => mono H H' (same k2) pre) (by rw [upd_ne neP]; exact hA) upd_same fun H' s' u2 I2 k2 => ?_
  exact ⟨_, _, rfl, .str _, H', I2, ⟨u2, rfl⟩, q H' (same k2)⟩
end
end Mz
set_option Elab.async false
set_option linter.all false
set_option maxRecDepth 100000
set_option maxHeartbeats 4000000
namespace Mz
open PySem L2
/-! the text by places -/
def top (i : Nat) : Stmt := PySem.Challenge.pw_mapsizes_k03_places_made.main.body.getD i (.Pass ⟨0, 0, 0, 0⟩)
abbrev sMapError : Stmt := top 1
abbrev sInvPlace : Stmt := top 5
abbrev sWhole : Stmt := top 13
abbrev sIsInt : Stmt := top 14
abbrev sIsName : Stmt := top 15
abbrev sIsPlace : Stmt := top 16
abbrev sLeast : Stmt := top 17
abbrev sParts : Stmt := top 18
abbrev sPlace : Stmt := top 19
abbrev sCell : Stmt := top 22
abbrev sBox : Stmt := top 23
abbrev sTake : Stmt := top 24

abbrev sInvInt : Stmt := top 3
abbrev sInvName : Stmt := top 4
abbrev sBase3 : Stmt := top 25
abbrev sShifts : Stmt := top 26
abbrev sNameDue : Stmt := top 27
abbrev sMade : Stmt := top 28
abbrev sText3 : Stmt := top 29
abbrev sDue3 : Stmt := top 30
abbrev sLaw : Stmt := top 31
end Mz
set_option Elab.async false
set_option linter.all false
set_option maxRecDepth 100000
set_option maxHeartbeats 4000000
/-! the draws: a cell of the script, its box, a digit out of the box -/
namespace Mz
open PySem PySem.Spec PyProof.Rows L2
/-- all that was tracked, but what stands at b, stands as it stood -/
def Kp (b : Addr) (H H' : Hp) : Prop := ∀ p o, p ≠ b → H p = some o → H' p = some o
theorem Kp.refl {b : Addr} {H : Hp} : Kp b H H := fun _ _ _ e => e
theorem Kp.trans {b : Addr} {H H1 H2 : Hp} (x : Kp b H H1) (y : Kp b H1 H2) : Kp b H H2 := fun p o n e => y p o n (x p o n e)
theorem Kp.fresh {b p : Addr} {H : Hp} {o : HO} (h : H p = none) : Kp b H (upd H p o) := fun q u _ e => by
  rw [upd_ne (ne_of_none e h)]
  exact e
theorem Kp.here {b : Addr} {H : Hp} {o : HO} : Kp b H (upd H b o) := fun q u n e => by
  rw [upd_ne n]
  exact e
/-- a box: what is left of the cell, its seed, how many digits were mixed (at most n) -/
def Bx (H : Hp) (b : Addr) (n : Nat) : Prop := ∃ x y z : Int, H b = some (.lst [.int x, .int y, .int z]) ∧ 0 ≤ x ∧ 0 ≤ y ∧ y < 2147483563 ∧ 0 ≤ z ∧ z ≤ (n : Int)
theorem Bx.upd {H : Hp} {b p : Addr} {n : Nat} {o : HO} (h : Bx H b n) (hp : H p = none) : Bx (upd H p o) b n := by
  obtain ⟨x, y, z, e, r⟩ := h
  exact ⟨x, y, z, by rw [upd_ne (ne_of_none e hp)]; exact e, r⟩
theorem Bx.more {H : Hp} {b : Addr} {n m : Nat} (h : Bx H b n) (le : n ≤ m) : Bx H b m := by
  obtain ⟨x, y, z, e, h1, h2, h3, h4, h5⟩ := h
  exact ⟨x, y, z, e, h1, h2, h3, h4, by omega⟩
def spCell (K : PySem.W.Frag) : Sp := fun vs H Q _ => ∃ (a : Addr) (ns : List Int) (k : Nat), vs = [.ref a, .int k] ∧ SqL K H a (ns.map V.int) ∧ k < 1000 ∧ ∀ i : Int, Q (.int i) H
def spBox : Sp := fun vs H Q _ => ∃ i : Int, vs = [.int i] ∧ ∀ (b : Addr) (H' : Hp), H b = none → Bx H' b 0 → Kp b H H' → Q (.ref b) H'
def spTake : Sp := fun vs H Q _ => ∃ (b : Addr) (n : Nat) (m : Int), vs = [.ref b, .int m] ∧ Bx H b n ∧ n ≤ 1000000 ∧ 0 < m ∧ m < 2 ^ 64 ∧
  ∀ (r : Int) (H' : Hp), 0 ≤ r → r < m → Bx H' b (n + 1) → Kp b H H' → Q (.int r) H'
/-- the built-ins that the draws call -/
structure Blt (mg : Str → Option Value) : Prop where
  len : mg "len" = none
  max : mg "max" = none
  min : mg "min" = none
  int : mg "int" = none
  range : mg "range" = none
section
variable {P : Program} {w : World} {K : PySem.W.Frag} {mg : Str → Option Value} {base : Heap}
theorem scCell : FnScope ["_law_script", "_law_k"] ["_law_script", "_law_k"] (defScope sCell) := ⟨rfl, rfl, rfl, by decide +kernel, rfl, by decide +kernel, by decide +kernel⟩
theorem ok_cell {f : Addr} {fd : FuncData} (F : Fun K "_law_cell" "_law_cell" sCell f fd) (B : Blt mg) : FnOk P w K mg base CX0 1 f fd ["_law_script", "_law_k"] (spCell K) := by
  refine F.ok scCell (fun vs H Q E h => ?_) (fun cdv A outer s H vs Q E hr h => ?_)
  · obtain ⟨a, ns, k, rfl, _⟩ := h
    rfl
  · obtain ⟨a, ns, k, rfl, hS, hk, q⟩ := h
    refine ⟨_, pss_one (ps_ret (pe_ifExp (pt_cmpR op_lt (pv 1) (pe_callB call_len_seq (by rfl) B.len PySem.boot_len (pa_cons (pv 0) pa_nil)) (nomark _))
      (pe_ix ix_list (pv 0) (pv 1) (fun _ _ => rfl)) (pe_op op_add (pe_op op_mul pe_int (pv 1)) pe_int))), ?_⟩
    refine ⟨_, rfl, _, rfl, a, _, rfl, .inl hS, _, _, rfl, rfl, _, rfl, ?_⟩
    refine ite2 (fun hc => ?_) (fun _ => ?_)
    · have hlt : k < ns.length := by
        have z := of_decide_eq_true hc
        rw [List.length_map] at z
        omega
      exact ⟨_, rfl, _, rfl, a, _, _, _, rfl, rfl, hS, atI_nat (v := V.int (ns[k])) (by rw [List.getElem?_map, List.getElem?_eq_getElem hlt]; rfl), q _⟩
    · exact ⟨_, rfl, _, _, rfl, rfl, .inl ⟨by decide, by decide⟩, _, _, rfl, rfl, q _⟩
theorem scBox : FnScope ["_law_cell_here"] ["_law_cell_here"] (defScope sBox) := ⟨rfl, rfl, rfl, by decide +kernel, rfl, by decide +kernel, by decide +kernel⟩
theorem ok_box {f : Addr} {fd : FuncData} (F : Fun K "_law_box" "_law_box" sBox f fd) (B : Blt mg) : FnOk P w K mg base CX0 1 f fd ["_law_cell_here"] spBox := by
  refine F.ok scBox (fun vs H Q E h => ?_) (fun cdv A outer s H vs Q E hr h => ?_)
  · obtain ⟨i, rfl, _⟩ := h
    rfl
  · obtain ⟨i, rfl, q⟩ := h
    refine ⟨_, pss_one (ps_ret (pe_lst (pa_cons (pe_callB (call_max2 rfl) (by rfl) B.max (by decide +kernel) (pa_cons pe_int (pa_cons (pe_op op_sub (pv 0) (pe_op op_pow pe_int pe_int)) pa_nil)))
      (pa_cons (pe_op op_mod (pe_callTy call_int1 (by rfl) B.int (by decide +kernel) (pa_cons (pv 0) pa_nil)) pe_int) (pa_cons pe_int pa_nil))))), ?_⟩
    refine ⟨_, rfl, _, _, rfl, rfl, ⟨by decide, by decide, by decide⟩, _, _, rfl, rfl, _, _, rfl, ?_⟩
    refine ⟨_, rfl, .inl ⟨_, rfl, _, _, rfl, rfl, (by show (0 : Int) < 2147483563; decide), ?_⟩⟩
    refine ⟨(by show 3 ≤ sizeLine; decide), fun p np => q p _ np ⟨_, _, _, upd_same, ?_, ?_, ?_, by decide, by decide⟩ (Kp.fresh np)⟩
    · split <;> omega
    · exact Int.emod_nonneg _ (by decide)
    · exact Int.emod_lt_of_pos _ (by decide)
theorem scTake : FnScope ["_law_box_here", "_law_many", "_law_digit", "_law_mixed"] ["_law_box_here", "_law_many"] (defScope sTake) := ⟨rfl, rfl, rfl, by decide +kernel, rfl, by decide +kernel, by decide +kernel⟩
theorem fmod_low {i j : Int} (h : 0 < j) : 0 ≤ i.fmod j := Int.fmod_nonneg_of_pos i h
theorem fmod_high {i j : Int} (h : 0 < j) : i.fmod j < j := Int.fmod_lt_of_pos i h
theorem small_log {m : Int} (h0 : 0 < m) (h : m < 2 ^ 64) : m.natAbs.log2 < 9000 := by
  have h1 : m.natAbs < 2 ^ 64 := by omega
  exact Nat.lt_of_lt_of_le (PySem.Flt.log2_lt_of (by decide) h1) (by decide)
theorem ok_take {f : Addr} {fd : FuncData} (F : Fun K "_law_take" "_law_take" sTake f fd) (B : Blt mg) : FnOk P w K mg base CX0 1 f fd ["_law_box_here", "_law_many"] spTake := by
  refine F.ok scTake (fun vs H Q E h => ?_) (fun cdv A outer s H vs Q E hr h => ?_)
  · obtain ⟨b, n, m, rfl, _⟩ := h
    rfl
  · obtain ⟨b, n, m, rfl, ⟨x, y, z, hb, x0, y0, y1, z0, z1⟩, hn, m0, m1, q⟩ := h
    have nd := scTake.nd
    refine ⟨_, pss_cons (ps_if (pt_cmpR op_gt (pe_ix ix_list (pv 0) pe_int (fun _ _ => rfl)) pe_int (nomark _))
        (pss_cons (ps_set (i := 2) nd rfl (Or.inl rfl) (pe_op op_modN (pe_callTy call_int1 (by rfl) B.int (by decide +kernel) (pa_cons (pe_ix ix_list (pv 0) pe_int (fun _ _ => rfl)) pa_nil)) (pv 1)))
        (pss_cons (ps_asg (pe_op op_fdivW (pe_ix ix_list (pv 0) pe_int (fun _ _ => rfl)) (pv 1)) (pg_sub (pv 0) pe_int set_list))
        (pss_one (ps_ret (pv 2))))) pss_nil)
      (pss_cons (ps_asg (pe_op op_add (pe_ix ix_list (pv 0) pe_int (fun _ _ => rfl)) pe_int) (pg_sub (pv 0) pe_int set_list))
      (pss_cons (ps_set (i := 3) nd rfl (Or.inl rfl) (pe_op op_mod (pe_op op_pow (pe_callTy call_int1 (by rfl) B.int (by decide +kernel) (pa_cons (pe_op op_add (pe_op op_add (pe_ix ix_list (pv 0) pe_int (fun _ _ => rfl)) (pe_op op_mul pe_int (pe_ix ix_list (pv 0) pe_int (fun _ _ => rfl)))) pe_int) pa_nil)) pe_int) pe_int))
      (pss_cons (ps_set (i := 3) nd rfl (Or.inl rfl) (pe_op op_mod (pe_op op_pow (pe_callTy call_int1 (by rfl) B.int (by decide +kernel) (pa_cons (pe_op op_add (pv 3) (pe_op op_mul pe_int (pe_ix ix_list (pv 0) pe_int (fun _ _ => rfl)))) pa_nil)) pe_int) pe_int))
      (pss_one (ps_ret (pe_op op_modN (pe_op op_fdiv (pv 3) pe_int) (pv 1))))))), ?_⟩
    have a0 : ∀ {u v t : V}, atI [u, v, t] (0 : Int) = some u := rfl
    refine ⟨_, rfl, b, _, _, _, rfl, rfl, SqL.of hb, a0, _, _, rfl, rfl, _, rfl, ?_⟩
    refine ite2 (fun hc => ?_) (fun _ => ?_)
    · refine ⟨_, rfl, b, _, _, _, rfl, rfl, SqL.of hb, a0, .inl ⟨_, rfl, _, rfl, _, _, rfl, rfl, by omega, ?_⟩⟩
      refine ⟨_, rfl, b, _, _, _, rfl, rfl, SqL.of hb, a0, _, rfl, _, _, rfl, rfl, ⟨m0, small_log m0 m1⟩, ?_⟩
      refine ⟨_, rfl, b, _, _, _, rfl, rfl, hb, rfl, ?_⟩
      refine ⟨_, rfl, q _ _ (fmod_low m0) (fmod_high m0) ⟨_, y, z, upd_same, Int.ediv_nonneg x0 (by omega), y0, y1, z0, by omega⟩ Kp.here⟩
    · refine ⟨_, rfl, b, _, _, _, rfl, rfl, SqL.of hb, rfl, _, _, rfl, rfl, _, rfl, b, _, _, _, rfl, rfl, hb, rfl, ?_⟩
      have hb1 : upd H b (.lst [.int x, .int y, .int (z + 1)]) b = some (.lst [.int x, .int y, .int (z + 1)]) := upd_same
      refine ⟨_, rfl, b, _, _, _, rfl, rfl, SqL.of hb1, rfl, ?_⟩
      refine ⟨_, rfl, b, _, _, _, rfl, rfl, SqL.of hb1, rfl, ?_⟩
      refine ⟨_, _, rfl, rfl, .inl ⟨by decide, by decide⟩, _, _, rfl, rfl, _, _, rfl, rfl, .inl ⟨_, rfl, _, _, rfl, rfl, ⟨by decide, by decide, by omega⟩, ?_⟩⟩
      refine ⟨_, _, rfl, rfl, (by show (0 : Int) < 2147483647; decide), ?_⟩
      refine ⟨_, rfl, _, rfl, b, _, _, _, rfl, rfl, SqL.of hb1, rfl, ?_⟩
      have l1 := Int.emod_nonneg ((y + 7351 * (z + 1) + 227) ^ (5 : Int).toNat) (b := 2147483647) (by decide)
      have h1 := Int.emod_lt_of_pos ((y + 7351 * (z + 1) + 227) ^ (5 : Int).toNat) (b := 2147483647) (by decide)
      refine ⟨_, _, rfl, rfl, .inl ⟨by decide, by decide⟩, _, _, rfl, rfl, .inl ⟨_, rfl, _, _, rfl, rfl, ⟨by decide, by decide, by omega⟩, ?_⟩⟩
      refine ⟨_, _, rfl, rfl, (by show (0 : Int) < 2147483587; decide), ?_⟩
      refine ⟨_, rfl, _, _, rfl, rfl, ⟨by decide, by decide⟩, _, rfl, _, _, rfl, rfl, by omega, ?_⟩
      exact q _ _ (fmod_low m0) (fmod_high m0) ⟨x, y, z + 1, upd_same, x0, y0, y1, by omega, by omega⟩ Kp.here
end
end Mz
set_option Elab.async false
set_option linter.all false
set_option maxRecDepth 100000
set_option maxHeartbeats 4000000
/-! the program's own defs: integers, names, marks -/
namespace Mz
open PySem PySem.Spec PyProof.Rows L2
/-- any value, by what isinstance says of it -/
inductive Kd (K : PySem.W.Frag) (H : Hp) : V → Prop
  | int (i : Int) : Kd K H (.int i)
  | bl (b : Bool) : Kd K H (.bl b)
  | str (z : Str) (h : z.length ≤ 1000) (ok : PyData.strOk z = true) : Kd K H (.str z)
  | non : Kd K H .non
  | oth (a : Addr) (t : Value) (ty : TyX K H (.ref a) t) (ki : PySem.W.kitOne K t (.type "int") = some false) (ks : PySem.W.kitOne K t (.type "str") = some false) : Kd K H (.ref a)
def wholeV : V → Bool
  | .int _ => true
  | _ => false
def inB (lo hi : Int) : V → Bool
  | .int i => decide (lo ≤ i) && decide (i ≤ hi)
  | _ => false
abbrev abc : Str := "abcdefghijklmnopqrstuvwxyz"
/-- a name, as the program says it -/
def nameS (z : Str) : Bool := (decide (1 ≤ (z.length : Int)) && decide ((z.length : Int) ≤ 6)) && z.cps.toList.all fun c => decide (c ∈ abc.cps.toList)
def nameV : V → Bool
  | .str z => nameS z
  | _ => false
def noMarks : List V := [.str "old", .str "zero", .str "end", .str "fails", .str "more", .str "done", .str "none"]
def markV : V → Bool
  | .str z => nameS z && !inV (.str z) noMarks
  | _ => false
def spWhole (K : PySem.W.Frag) : Sp := fun vs H Q _ => ∃ v, vs = [v] ∧ Kd K H v ∧ Q (.bl (wholeV v)) H
def spIsInt (K : PySem.W.Frag) : Sp := fun vs H Q _ => ∃ v lo hi, vs = [v, .int lo, .int hi] ∧ Kd K H v ∧ Q (.bl (inB lo hi v)) H
/-- the list of the letters' answers is left behind -/
def spIsName (K : PySem.W.Frag) : Sp := fun vs H Q _ => ∃ v, vs = [v] ∧ Kd K H v ∧ ∀ H', Same H H' → Q (.bl (nameV v)) H'
def spIsMark (K : PySem.W.Frag) : Sp := fun vs H Q _ => ∃ v, vs = [v] ∧ Kd K H v ∧ ∀ H', Same H H' → Q (.bl (markV v)) H'
structure Blp (mg : Str → Option Value) : Prop where
  isi : mg "isinstance" = none
  bool : mg "bool" = none
  str : mg "str" = none
  all : mg "all" = none
section
variable {P : Program} {w : World} {K : PySem.W.Frag} {mg : Str → Option Value} {base : Heap}
theorem scWhole : FnScope ["value"] ["value"] (defScope sWhole) := ⟨rfl, rfl, rfl, by decide +kernel, rfl, by decide +kernel, by decide +kernel⟩
theorem ok_whole {f : Addr} {fd : FuncData} (F : Fun K "_is_whole" "_is_whole" sWhole f fd) (B : Blt mg) (D : Blp mg) : FnOk P w K mg base CX0 1 f fd ["value"] (spWhole K) := by
  refine F.ok scWhole (fun vs H Q E h => ?_) (fun cdv A outer s H vs Q E hr h => ?_)
  · obtain ⟨v, rfl, _⟩ := h
    rfl
  · obtain ⟨v, rfl, hk, q⟩ := h
    refine ⟨_, pss_one (ps_ret (pe_and (pe_callB call_isi (by rfl) D.isi (by decide +kernel) (pa_cons (pv 0) (pa_cons (pe_bltn (v := .ty "int") (by rfl) B.int (by decide +kernel) rfl) pa_nil)))
      (pe_one (pe_not (pe_callB call_isi (by rfl) D.isi (by decide +kernel) (pa_cons (pv 0) (pa_cons (pe_bltn (v := .ty "bool") (by rfl) D.bool (by decide +kernel) rfl) pa_nil))))))), ?_⟩
    refine ⟨_, rfl, ?_⟩
    cases hk with
    | int i => exact ⟨_, _, _, _, true, rfl, .ty _, .base (.int i), kit_ty (by decide +kernel), true, rfl, iteT ⟨_, rfl, _, _, _, _, false, rfl, .ty _, .base (.int i), kit_ty (by decide +kernel), false, rfl, q⟩⟩
    | bl b => exact ⟨_, _, _, _, true, rfl, .ty _, .base (.bl b), kit_ty (by decide +kernel), true, rfl, iteT ⟨_, rfl, _, _, _, _, true, rfl, .ty _, .base (.bl b), kit_ty (by decide +kernel), true, rfl, q⟩⟩
    | str z _ _ => exact ⟨_, _, _, _, false, rfl, .ty _, .base (.str z), kit_ty (by decide +kernel), false, rfl, iteF q⟩
    | non => exact ⟨_, _, _, _, false, rfl, .ty _, .base .non, kit_ty (by decide +kernel), false, rfl, iteF q⟩
    | oth a t ty ki ks => exact ⟨_, _, _, _, false, rfl, .ty _, ty, ki, false, rfl, iteF q⟩
theorem scIsInt : FnScope ["value", "low", "high"] ["value", "low", "high"] (defScope sIsInt) := ⟨rfl, rfl, rfl, by decide +kernel, rfl, by decide +kernel, by decide +kernel⟩
theorem ok_isInt {f f1 : Addr} {fd fd1 : FuncData} (F : Fun K "is_integer" "is_integer" sIsInt f fd) (G : FnOk P w K mg base CX0 1 f1 fd1 ["value"] (spWhole K)) (m1 : mg "_is_whole" = some (.ref f1)) (k1 : PySem.W.keepIn K (.ref f1) = true) (b1 : Binds K fd1 ["value"] []) :
    FnOk P w K mg base CX0 2 f fd ["value", "low", "high"] (spIsInt K) := by
  refine F.ok scIsInt (fun vs H Q E h => ?_) (fun cdv A outer s H vs Q E hr h => ?_)
  · obtain ⟨v, lo, hi, rfl, _⟩ := h
    rfl
  · obtain ⟨v, lo, hi, rfl, hk, q⟩ := h
    refine ⟨_, pss_one (ps_ret (pe_and (pe_call G hr (by rfl) m1 k1 b1 .nil pass0 (pa_cons (pv 0) pa_nil)) (pe_one (pe_chain op_le op_le (pv 1) (pv 0) (pv 2))))), ?_⟩
    refine ⟨_, rfl, v, rfl, hk, _, rfl, ?_⟩
    cases hk with
    | int i =>
      refine iteT ⟨_, rfl, _, rfl, _, _, rfl, rfl, _, rfl, ite2 (fun hc => ?_) (fun hc => ?_)⟩
      · refine ⟨_, rfl, _, _, rfl, rfl, ?_⟩
        have e : inB lo hi (.int i) = decide (i ≤ hi) := by
          show (decide (lo ≤ i) && decide (i ≤ hi)) = _
          rw [hc, Bool.true_and]
        rw [e] at q
        exact q
      · have e : inB lo hi (.int i) = false := by
          show (decide (lo ≤ i) && decide (i ≤ hi)) = _
          rw [Bool.eq_false_iff.mpr hc, Bool.false_and]
        rw [e] at q
        exact q
    | bl b => exact iteF q
    | str z _ _ => exact iteF q
    | non => exact iteF q
    | oth a t ty ki ks => exact iteF q
theorem scIsName : FnScope ["value", "letter"] ["value"] (defScope sIsName) := ⟨rfl, rfl, rfl, by decide +kernel, rfl, by decide +kernel, by decide +kernel⟩
theorem ok_isName {f : Addr} {fd : FuncData} {t1 t2 : Tok} (F : Fun K "is_name" "is_name" sIsName f fd) (B : Blt mg) (D : Blp mg) (mL : mg "_LONGEST_NAME" = some (.int 6 t1)) (mA : mg "_LETTERS" = some (.str abc t2)) : FnOk P w K mg base CX0 1 f fd ["value"] (spIsName K) := by
  refine F.ok scIsName (fun vs H Q E h => ?_) (fun cdv A outer s H vs Q E hr h => ?_)
  · obtain ⟨v, rfl, _⟩ := h
    rfl
  · obtain ⟨v, rfl, hk, q⟩ := h
    have nd := scIsName.nd
    refine ⟨_, pss_cons (ps_if (PW.pt (pw_or (pt_not (pt_val (pe_callB call_isi (by rfl) D.isi (by decide +kernel) (pa_cons (pv 0) (pa_cons (pe_bltn (v := .ty "str") (by rfl) D.str (by decide +kernel) rfl) pa_nil)))))
        (pw_or1 (pt_not (pt_chain op_le op_le pe_int (pe_callB call_len_str (by rfl) B.len PySem.boot_len (pa_cons (pv 0) pa_nil)) (pe_glob (v := .int 6) rfl mL ⟨_, rfl⟩)))))) (pss_one (ps_ret pe_bl)) pss_nil)
      (pss_one (ps_ret (pe_callB (cr_all rfl) (by rfl) D.all (by decide +kernel) (pa_cons (pe_lc (own := [("letter", 1)]) (g := gName 1) (tt := tYes) rfl nd (pi_str (pv 0)) (blkOk_by (N := ["value", "letter"]) (sc := defScope sIsName) (by decide +kernel))
        (fun _ _ _ _ _ => pg_name (i := 1) nd rfl (Or.inl rfl)) (fun _ _ _ _ _ => pts_nil) (fun _ _ _ _ _ => pe_cmpR op_in_sign (pv 1) (pe_glob (v := .str abc) rfl mA ⟨_, rfl⟩) (by rfl))) pa_nil)))), ?_⟩
    refine ⟨_, rfl, ?_⟩
    have no : ∀ {v : V}, nameV v = false → (∀ H', Same H H' → Q (.bl (nameV v)) H') → Q (.bl false) H := fun e q => by
      rw [← e]
      exact q _ fun _ _ z => z
    cases hk with
    | int i => exact ⟨_, _, _, _, false, rfl, .ty _, .base (.int i), kit_ty (by decide +kernel), false, rfl, iteT (iteT (no rfl q))⟩
    | bl b => exact ⟨_, _, _, _, false, rfl, .ty _, .base (.bl b), kit_ty (by decide +kernel), false, rfl, iteT (iteT (no rfl q))⟩
    | non => exact ⟨_, _, _, _, false, rfl, .ty _, .base .non, kit_ty (by decide +kernel), false, rfl, iteT (iteT (no rfl q))⟩
    | oth a t ty ki ks => exact ⟨_, _, _, _, false, rfl, .ty _, ty, ks, false, rfl, iteT (iteT (no rfl q))⟩
    | str z hz ok =>
      refine ⟨_, _, _, _, true, rfl, .ty _, .base (.str z), kit_ty (by decide +kernel), true, rfl, iteF ?_⟩
      have zl : z.length ≤ sizeLine := Nat.le_trans hz (by decide)
      refine ⟨_, rfl, _, rfl, zl, _, _, rfl, rfl, _, rfl, ite2 (fun h1 => ?_) (fun h1 => ?_)⟩
      · refine ⟨_, _, rfl, rfl, _, rfl, ?_⟩
        cases h6 : decide ((z.length : Int) ≤ 6) with
        | false =>
          refine iteT ?_
          have e : nameV (.str z) = false := by
            show ((decide (1 ≤ (z.length : Int)) && decide ((z.length : Int) ≤ 6)) && z.cps.toList.all fun c => decide (c ∈ abc.cps.toList)) = false
            rw [h6, Bool.and_false, Bool.false_and]
          exact no e q
        | true =>
          refine iteF ?_
          refine ⟨_, rfl, z, rfl, fun p np => lc_it walk_str (fun i H' => H' = upd H p (.lst ((z.cps.toList.take i).map fun c => V.bl (decide (c ∈ abc.cps.toList))))) rfl (fun _ _ _ _ => trivial) ?_ ?_⟩
          · rintro i x H0 H' hi rfl ⟨rfl, c, hc, rfl⟩
            refine ⟨rfl, ?_⟩
            unfold tYes
            refine iteT ⟨_, rfl, c, abc, rfl, rfl, _, upd_same, ?_, ?_⟩
            · rw [List.length_map, List.length_take]
              exact Nat.lt_of_le_of_lt (Nat.min_le_left _ _) (Nat.lt_of_lt_of_le hi zl)
            · rw [upd_upd]
              have hc2 : z.cps.toList[i]? = some c := by
                rw [Array.getElem?_toList]
                exact hc
              rw [List.take_succ, hc2, List.map_append]
              rfl
          · rintro H' rfl
            have sz : z.cps.toList.take z.cps.size = z.cps.toList := by
              rw [← Array.length_toList, List.take_length]
            refine ⟨p, (z.cps.toList.take z.cps.size).map fun c => decide (c ∈ abc.cps.toList), rfl, SqL.of (by rw [List.map_map]; exact upd_same), ?_⟩
            have e : nameV (.str z) = ((z.cps.toList.take z.cps.size).map fun c => decide (c ∈ abc.cps.toList)).all id := by
              show ((decide (1 ≤ (z.length : Int)) && decide ((z.length : Int) ≤ 6)) && z.cps.toList.all fun c => decide (c ∈ abc.cps.toList)) = _
              rw [h1, h6, sz, List.all_map]
              rfl
            rw [← e]
            refine q _ fun b o z => ?_
            rw [upd_ne (ne_of_none z np)]
            exact z
      · have e : nameV (.str z) = false := by
          show ((decide (1 ≤ (z.length : Int)) && decide ((z.length : Int) ≤ 6)) && z.cps.toList.all fun c => decide (c ∈ abc.cps.toList)) = false
          rw [Bool.eq_false_iff.mpr h1, Bool.false_and, Bool.false_and]
        exact ⟨_, rfl, iteT (no e q)⟩
end
end Mz
set_option Elab.async false
set_option linter.all false
set_option maxRecDepth 100000
set_option maxHeartbeats 4000000
namespace Mz
open PySem PySem.Spec PyProof.Rows L2
def lowS (z : Str) : Int := if z = "" then 0 else -3
def spLeast : Sp := fun vs H Q _ => ∃ z : Str, vs = [.str z] ∧ Q (.int (lowS z)) H
/-- a place's fields -/
def plF (z : Str) (k : Int) : List (Str × V) := putF "_shift" (.int k) (putF "_base" (.str z) [])
/-- a place that can be made: no error -/
def spInit (C : Addr) : Sp := fun vs H Q _ => ∃ (p dx : Addr) (z : Str) (k : Int), vs = [.ref p, .str z, .int k] ∧ H p = some (.ins C dx []) ∧ z.length ≤ 1000 ∧ PyData.strOk z = true ∧ (z = "" ∨ nameS z = true) ∧ lowS z ≤ k ∧ k ≤ 3 ∧
  ∀ H', (∀ q o, q ≠ p → H q = some o → H' q = some o) → H' p = some (.ins C dx (plF z k)) → Q .non H'
structure Cpl (K : PySem.W.Frag) (mg : Str → Option Value) (C : Addr) : Prop where
  cl : Cls K C
  nB : NoAttr K C "_base"
  nS : NoAttr K C "_shift"
  mgC : mg "Place" = some (.ref C)
section
variable {P : Program} {w : World} {K : PySem.W.Frag} {mg : Str → Option Value} {base : Heap}
theorem scLeast : FnScope ["base"] ["base"] (defScope sLeast) := ⟨rfl, rfl, rfl, by decide +kernel, rfl, by decide +kernel, by decide +kernel⟩
theorem ok_least {f : Addr} {fd : FuncData} {t : Tok} (F : Fun K "_least_shift" "_least_shift" sLeast f fd) (mM : mg "_MOST" = some (.int 3 t)) : FnOk P w K mg base CX0 1 f fd ["base"] spLeast := by
  refine F.ok scLeast (fun vs H Q E h => ?_) (fun cdv A outer s H vs Q E hr h => ?_)
  · obtain ⟨z, rfl, _⟩ := h
    rfl
  · obtain ⟨z, rfl, q⟩ := h
    refine ⟨_, pss_one (ps_ret (pe_ifExp (pt_cmpR op_eq (pv 0) pe_str (nomark _)) pe_int (pe_un un_neg (pe_glob (v := .int 3) rfl mM ⟨_, rfl⟩)))), ?_⟩
    refine ⟨_, rfl, rfl, _, rfl, ite2 (fun hc => ?_) (fun hc => ?_)⟩
    · have e : lowS z = 0 := if_pos (V.str.inj (of_decide_eq_true hc))
      rw [e] at q
      exact q
    · have e : lowS z = -3 := if_neg fun x => hc (decide_eq_true (by rw [x]))
      rw [e] at q
      exact ⟨_, rfl, q⟩
theorem scInit : FnScope ["self", "base", "shift"] ["self", "base", "shift"] (defScope (inClass sPlace 0)) := ⟨rfl, rfl, rfl, by decide +kernel, rfl, by decide +kernel, by decide +kernel⟩
theorem ok_init {f f1 f2 f3 C : Addr} {fd fd1 fd2 fd3 : FuncData} {t : Tok} {dvs : List V} {kws : List (Str × V)} {pa : Arguments} (F : FunD K "__init__" "Place.__init__" pa (defBody (inClass sPlace 0)) (defScope (inClass sPlace 0)) dvs kws f fd) (T : Cpl K mg C)
    (G1 : FnOk P w K mg base CX0 1 f1 fd1 ["value"] (spIsName K)) (m1 : mg "is_name" = some (.ref f1)) (k1 : PySem.W.keepIn K (.ref f1) = true) (b1 : Binds K fd1 ["value"] [])
    (G2 : FnOk P w K mg base CX0 2 f2 fd2 ["value", "low", "high"] (spIsInt K)) (m2 : mg "is_integer" = some (.ref f2)) (k2 : PySem.W.keepIn K (.ref f2) = true) (b2 : Binds K fd2 ["value", "low", "high"] [])
    (G3 : FnOk P w K mg base CX0 1 f3 fd3 ["base"] spLeast) (m3 : mg "_least_shift" = some (.ref f3)) (k3 : PySem.W.keepIn K (.ref f3) = true) (b3 : Binds K fd3 ["base"] [])
    (mM : mg "_MOST" = some (.int 3 t)) : FnOk P w K mg base CX0 3 f fd ["self", "base", "shift"] (spInit C) := by
  refine F.ok scInit (fun vs H Q E h => ?_) (fun cdv A outer s H vs Q E hr h => ?_)
  · obtain ⟨p, dx, z, k, rfl, _⟩ := h
    rfl
  · obtain ⟨p, dx, z, k, rfl, hp, hz, ok, hn, h1, h2, q⟩ := h
    refine ⟨_, PSs.nox (pss_cons (ps_if (PW.pt (pw_and (pt_cmpR op_ne (pv 1) pe_str (nomark _)) (pw_and1 (pt_not (pt_val (pe_call G1 (hr.mono (by decide)) (by rfl) m1 k1 b1 .nil pass0 (pa_cons (pv 1) pa_nil))))))) (pss_one ps_never) pss_nil)
      (pss_cons (ps_if (pt_not (pt_val (pe_call G2 hr (by rfl) m2 k2 b2 .nil pass0 (pa_cons (pv 2) (pa_cons (pe_call G3 (hr.mono (by decide)) (by rfl) m3 k3 b3 .nil pass0 (pa_cons (pv 1) pa_nil)) (pa_cons (pe_glob (v := .int 3) rfl mM ⟨_, rfl⟩) pa_nil)))))) (pss_one ps_never) pss_nil)
      (pss_cons (ps_fld (pv 0) (pv 1) rfl) (pss_one (ps_fld (pv 0) (pv 2) rfl))))), ?_⟩
    generalize hT : tSeq (tIfS (tNot _) _ _) (tSeq (sFld _ _ _ _) (sFld _ _ _ _)) = T2
    have rest : ∀ H1, Same H H1 → T2 { nx := fun _ H' => Q .non H', rt := Q } (start ["self", "base", "shift"] [V.ref p, V.str z, V.int k]) H1 := by
      intro H1 sm
      rw [← hT]
      have hp1 := sm _ _ hp
      refine ⟨_, rfl, _, rfl, z, rfl, .int k, lowS z, 3, rfl, Kd.int k, _, rfl, ?_⟩
      have e : inB (lowS z) 3 (.int k) = true := by
        show (decide (lowS z ≤ k) && decide (k ≤ 3)) = true
        rw [decide_eq_true h1, decide_eq_true h2]
        rfl
      rw [e]
      refine iteF ⟨_, rfl, _, rfl, p, C, dx, [], rfl, hp1, T.cl, T.nB, (by show 0 < 1000; decide), _, rfl, _, rfl, p, C, dx, _, rfl, upd_same, T.cl, T.nS, (by show 1 < 1000; decide), ?_⟩
      refine q _ (fun r o n e => ?_) upd_same
      rw [upd_ne n, upd_ne n]
      exact sm _ _ e
    have kd : Kd K H (.str z) := .str z hz ok
    by_cases hz0 : z = ""
    · subst hz0
      exact ⟨_, rfl, rfl, _, rfl, iteF (iteF (rest H (Same.refl H)))⟩
    · have hnm : nameS z = true := hn.resolve_left hz0
      have e : decide (V.str z = V.str "") = false := decide_eq_false fun x => hz0 (V.str.inj x)
      refine ⟨_, rfl, rfl, _, rfl, ?_⟩
      rw [e]
      refine iteT ⟨_, rfl, .str z, rfl, kd, fun H1 sm => ⟨_, rfl, ?_⟩⟩
      have e2 : nameV (.str z) = true := hnm
      rw [e2]
      exact iteF (rest H1 sm)
end
end Mz
set_option Elab.async false
set_option linter.all false
set_option maxRecDepth 100000
set_option maxHeartbeats 4000000
namespace Mz
open PySem PySem.Spec PyProof.Rows L2
theorem plF_base {z : Str} {k : Int} : (plF z k).lookup ("_base" : Str) = some (.str z) := by
  unfold plF
  rw [lookup_putF, if_neg (by decide +kernel), lookup_putF, if_pos rfl]
theorem plF_shift {z : Str} {k : Int} : (plF z k).lookup ("_shift" : Str) = some (.int k) := by
  unfold plF
  rw [lookup_putF, if_pos rfl]
/-- a place stands at a -/
def Pl (C : Addr) (H : Hp) (a : Addr) (z : Str) (k : Int) : Prop := ∃ dx, H a = some (.ins C dx (plF z k))
/-- a base and a shift that go together -/
def Good (z : Str) (k : Int) : Prop := z.length ≤ 1000 ∧ PyData.strOk z = true ∧ (z = "" ∨ nameS z = true) ∧ lowS z ≤ k ∧ k ≤ 3
theorem Good.lo {z : Str} {k : Int} (g : Good z k) : -3 ≤ k := by
  have h := g.2.2.2.1
  unfold lowS at h
  split at h <;> omega
theorem Good.hi {z : Str} {k : Int} (g : Good z k) : k ≤ 3 := g.2.2.2.2
theorem int_small {k : Int} (h0 : -3 ≤ k) (h1 : k ≤ 3) : k.natAbs.log2 < 1920 := by
  have h : k.natAbs < 2 ^ 3 := by omega
  exact Nat.lt_trans (PySem.Flt.log2_lt_of (by decide) h) (by decide)
/-- str of a place -/
def strP (z : Str) (k : Int) : Str := if z = "" then Str.ofString (toString k) else if k = 0 then z else "" ++ z ++ signS k
def spBase (C : Addr) : Sp := fun vs H Q _ => ∃ a z k, vs = [.ref a] ∧ Pl C H a z k ∧ Q (.str z) H
def spShift (C : Addr) : Sp := fun vs H Q _ => ∃ a z k, vs = [.ref a] ∧ Pl C H a z k ∧ Q (.int k) H
def spStr (C : Addr) : Sp := fun vs H Q _ => ∃ a z k, vs = [.ref a] ∧ Pl C H a z k ∧ Good z k ∧ Q (.str (strP z k)) H
/-- a value that is no place -/
def Oty (K : PySem.W.Frag) (C : Addr) (H : Hp) (y : V) : Prop := ∃ t, TyX K H y t ∧ PySem.W.kitOne K t (.ref C) = some false
def spEq (K : PySem.W.Frag) (C : Addr) : Sp := fun vs H Q _ => ∃ a z k, Pl C H a z k ∧ ((∃ b y i, vs = [.ref a, .ref b] ∧ Pl C H b y i ∧ Q (.bl (decide (z = y) && decide (k = i))) H) ∨ (∃ y, vs = [.ref a, y] ∧ Oty K C H y ∧ Q (.bl false) H))
def spAdd (C : Addr) : Sp := fun vs H Q _ => ∃ a z k i, vs = [.ref a, .int i] ∧ Pl C H a z k ∧ Good z k ∧ Good z (k + i) ∧ ∀ p H', H p = none → Same H H' → Pl C H' p z (k + i) → Q (.ref p) H'
theorem strlen_sign {k : Int} : (signS k).length = 2 := by
  unfold signS
  repeat' split
  all_goals decide +kernel
section
variable {P : Program} {w : World} {K : PySem.W.Frag} {mg : Str → Option Value} {base : Heap}
theorem scBase : FnScope ["self"] ["self"] (defScope (inClass sPlace 2)) := ⟨rfl, rfl, rfl, by decide +kernel, rfl, by decide +kernel, by decide +kernel⟩
theorem ok_base {f C : Addr} {fd : FuncData} (F : Fun K "base" "Place.base" (inClass sPlace 2) f fd) (T : Cpl K mg C) : FnOk P w K mg base CX0 1 f fd ["self"] (spBase C) := by
  refine F.ok scBase (fun vs H Q E h => ?_) (fun cdv A outer s H vs Q E hr h => ?_)
  · obtain ⟨a, z, k, rfl, _⟩ := h
    rfl
  · obtain ⟨a, z, k, rfl, ⟨dx, ha⟩, q⟩ := h
    exact ⟨_, pss_one (ps_ret (pe_fld (pv 0) rfl)), _, rfl, a, C, dx, _, _, rfl, ha, T.cl, T.nB, plF_base, q⟩
theorem scShift : FnScope ["self"] ["self"] (defScope (inClass sPlace 3)) := ⟨rfl, rfl, rfl, by decide +kernel, rfl, by decide +kernel, by decide +kernel⟩
theorem ok_shift {f C : Addr} {fd : FuncData} (F : Fun K "shift" "Place.shift" (inClass sPlace 3) f fd) (T : Cpl K mg C) : FnOk P w K mg base CX0 1 f fd ["self"] (spShift C) := by
  refine F.ok scShift (fun vs H Q E h => ?_) (fun cdv A outer s H vs Q E hr h => ?_)
  · obtain ⟨a, z, k, rfl, _⟩ := h
    rfl
  · obtain ⟨a, z, k, rfl, ⟨dx, ha⟩, q⟩ := h
    exact ⟨_, pss_one (ps_ret (pe_fld (pv 0) rfl)), _, rfl, a, C, dx, _, _, rfl, ha, T.cl, T.nS, plF_shift, q⟩
theorem scStr : FnScope ["self"] ["self"] (defScope (inClass sPlace 4)) := ⟨rfl, rfl, rfl, by decide +kernel, rfl, by decide +kernel, by decide +kernel⟩
theorem ok_str {f C : Addr} {fd : FuncData} (F : Fun K "__str__" "Place.__str__" (inClass sPlace 4) f fd) (T : Cpl K mg C) (D : Blp mg) : FnOk P w K mg base CX0 1 f fd ["self"] (spStr C) := by
  refine F.ok scStr (fun vs H Q E h => ?_) (fun cdv A outer s H vs Q E hr h => ?_)
  · obtain ⟨a, z, k, rfl, _⟩ := h
    rfl
  · obtain ⟨a, z, k, rfl, ⟨dx, ha⟩, g, q⟩ := h
    refine ⟨_, pss_cons (ps_if (pt_cmpR op_eq (pe_fld (pv 0) rfl) pe_str (nomark _)) (pss_one (ps_ret (pe_callTy call_str_int (by rfl) D.str (by decide +kernel) (pa_cons (pe_fld (pv 0) rfl) pa_nil)))) pss_nil)
      (pss_cons (ps_if (pt_cmpR op_eq (pe_fld (pv 0) rfl) pe_int (nomark _)) (pss_one (ps_ret (pe_joined1 (pe_fmt (pe_fld (pv 0) rfl))))) pss_nil)
      (pss_one (ps_ret (pe_joined (.cons (pe_fmt (pe_fld (pv 0) rfl)) (.cons (pe_fmtP (pe_fld (pv 0) rfl)) .nil)))))), ?_⟩
    have zl : z.length ≤ 1000 := g.1
    refine ⟨_, rfl, a, C, dx, _, _, rfl, ha, T.cl, T.nB, plF_base, rfl, _, rfl, ite2 (fun h1 => ?_) (fun h1 => ?_)⟩
    · have e : strP z k = Str.ofString (toString k) := if_pos (V.str.inj (of_decide_eq_true h1))
      rw [e] at q
      exact ⟨_, rfl, a, C, dx, _, _, rfl, ha, T.cl, T.nS, plF_shift, _, rfl, int_small g.lo g.hi, q⟩
    · have n1 : ¬ z = "" := fun x => h1 (decide_eq_true (by rw [x]))
      refine ⟨_, rfl, a, C, dx, _, _, rfl, ha, T.cl, T.nS, plF_shift, rfl, _, rfl, ite2 (fun h2 => ?_) (fun h2 => ?_)⟩
      · have e : strP z k = z := by
          unfold strP
          rw [if_neg n1, if_pos (V.int.inj (of_decide_eq_true h2))]
        rw [e] at q
        exact ⟨_, rfl, a, C, dx, _, _, rfl, ha, T.cl, T.nB, plF_base, .inl ⟨z, rfl, Nat.le_trans zl (by decide), q⟩⟩
      · have n2 : ¬ k = 0 := fun x => h2 (decide_eq_true (by rw [x]))
        have e : strP z k = "" ++ z ++ signS k := by
          unfold strP
          rw [if_neg n1, if_neg n2]
        rw [e] at q
        refine ⟨_, rfl, a, C, dx, _, _, rfl, ha, T.cl, T.nB, plF_base, .inl ⟨z, rfl, Nat.le_trans zl (by decide), z, rfl, ?_, ?_⟩⟩
        · rw [strLen_append]
          exact Nat.le_trans (Nat.add_le_add (show ("" : Str).length ≤ 0 by decide +kernel) zl) (by decide)
        · refine ⟨_, rfl, a, C, dx, _, _, rfl, ha, T.cl, T.nS, plF_shift, k, rfl, g.lo, g.hi, n2, signS k, rfl, ?_, q⟩
          rw [strLen_append, strLen_append, strlen_sign]
          exact Nat.le_trans (Nat.add_le_add_right (Nat.add_le_add (show ("" : Str).length ≤ 0 by decide +kernel) zl) 2) (by decide)
end
end Mz
set_option Elab.async false
set_option linter.all false
set_option maxRecDepth 100000
set_option maxHeartbeats 4000000
namespace Mz
open PySem PySem.Spec PyProof.Rows L2
section
variable {P : Program} {w : World} {K : PySem.W.Frag} {mg : Str → Option Value} {base : Heap}
/-- isinstance of a place and of no place -/
structure Pty (K : PySem.W.Frag) (C : Addr) : Prop where
  cl : Cls K C
  ha : PySem.W.findIn K (.ref C) "__class__" = some (some (.builtin "object.__class__"))
  hn : PySem.W.specialIn K (.builtin "object.__class__") "__get__" = some (some (.builtin "getset_descriptor.__get__"))
  htk : PySem.W.takesIn K (.builtin "object.__class__") = some true
  hm : PySem.W.mroIn K C (.type "object") = some true
theorem Pl.ty {C : Addr} {H : Hp} {a : Addr} {z : Str} {k : Int} (T : Pty K C) (h : Pl C H a z k) : TyX K H (.ref a) (.ref C) := by
  obtain ⟨dx, ha⟩ := h
  exact .base (.ins ha T.cl T.ha T.hn T.htk T.hm)
theorem kit_self {C : Addr} : PySem.W.kitOne K (.ref C) (.ref C) = some true := by
  unfold PySem.W.kitOne
  rw [if_pos (by simp)]
theorem scEq : FnScope ["self", "other"] ["self", "other"] (defScope (inClass sPlace 6)) := ⟨rfl, rfl, rfl, by decide +kernel, rfl, by decide +kernel, by decide +kernel⟩
theorem ok_eq {f C : Addr} {fd : FuncData} (F : Fun K "__eq__" "Place.__eq__" (inClass sPlace 6) f fd) (T : Cpl K mg C) (Y : Pty K C) (D : Blp mg) : FnOk P w K mg base CX0 1 f fd ["self", "other"] (spEq K C) := by
  refine F.ok scEq (fun vs H Q E h => ?_) (fun cdv A outer s H vs Q E hr h => ?_)
  · obtain ⟨a, z, k, _, ⟨b, y, i, rfl, _⟩ | ⟨y, rfl, _⟩⟩ := h
    · rfl
    · rfl
  · obtain ⟨a, z, k, pa, h⟩ := h
    refine ⟨_, pss_one (ps_ret (pe_and (pe_callB call_isi (by rfl) D.isi (by decide +kernel) (pa_cons (pv 1) (pa_cons (pe_glob (v := .ref C) rfl T.mgC rfl) pa_nil)))
      (pe_and (pe_cmpR op_eq (pe_fld (pv 0) rfl) (pe_fld (pv 1) rfl) (nomark _)) (pe_one (pe_cmpR op_eq (pe_fld (pv 0) rfl) (pe_fld (pv 1) rfl) (nomark _)))))), ?_⟩
    obtain ⟨dx, ha⟩ := id pa
    rcases h with ⟨b, y, i, rfl, pb, q⟩ | ⟨y, rfl, ⟨t, ty, kt⟩, q⟩
    · obtain ⟨dy, hb⟩ := id pb
      refine ⟨_, rfl, .ref b, .ref C, .ref C, .ref C, true, rfl, .own C, pb.ty Y, kit_self, true, rfl, iteT ?_⟩
      refine ⟨_, rfl, a, C, dx, _, _, rfl, ha, T.cl, T.nB, plF_base, _, rfl, b, C, dy, _, _, rfl, hb, T.cl, T.nB, plF_base, rfl, _, rfl, ite2 (fun h1 => ?_) (fun h1 => ?_)⟩
      · refine ⟨_, rfl, a, C, dx, _, _, rfl, ha, T.cl, T.nS, plF_shift, _, rfl, b, C, dy, _, _, rfl, hb, T.cl, T.nS, plF_shift, rfl, ?_⟩
        have e1 : z = y := V.str.inj (of_decide_eq_true h1)
        have e2 : decide (V.int k = V.int i) = decide (k = i) := decide_eq_decide.mpr ⟨fun x => V.int.inj x, fun x => by rw [x]⟩
        rw [decide_eq_true e1, Bool.true_and] at q
        rw [e2]
        exact q
      · have e1 : ¬ z = y := fun x => h1 (decide_eq_true (by rw [x]))
        rw [decide_eq_false e1, Bool.false_and] at q
        exact q
    · exact ⟨_, rfl, y, .ref C, t, .ref C, false, rfl, .own C, ty, kt, false, rfl, iteF q⟩
theorem scAdd : FnScope ["self", "other"] ["self", "other"] (defScope (inClass sPlace 7)) := ⟨rfl, rfl, rfl, by decide +kernel, rfl, by decide +kernel, by decide +kernel⟩
theorem ok_add {f f2 f3 fI C : Addr} {fd fd2 fd3 fdI : FuncData} {t : Tok} {g : List Value → List Value → List Value} (F : Fun K "__add__" "Place.__add__" (inClass sPlace 7) f fd) (T : Cpl K mg C)
    (G2 : FnOk P w K mg base CX0 2 f2 fd2 ["value", "low", "high"] (spIsInt K)) (m2 : mg "is_integer" = some (.ref f2)) (k2 : PySem.W.keepIn K (.ref f2) = true) (b2 : Binds K fd2 ["value", "low", "high"] [])
    (G3 : FnOk P w K mg base CX0 1 f3 fd3 ["base"] spLeast) (m3 : mg "_least_shift" = some (.ref f3)) (k3 : PySem.W.keepIn K (.ref f3) = true) (b3 : Binds K fd3 ["base"] [])
    (mM : mg "_MOST" = some (.int 3 t)) (M : Mk K C fI) (GI : FnOk P w K mg base CX0 3 fI fdI ["self", "base", "shift"] (spInit C)) (kI : KBn K fdI ["self", "base", "shift"] 2 ["shift"] g (fun vs zs => vs ++ zs)) :
    FnOk P w K mg base CX0 5 f fd ["self", "other"] (spAdd C) := by
  refine F.ok scAdd (fun vs H Q E h => ?_) (fun cdv A outer s H vs Q E hr h => ?_)
  · obtain ⟨a, z, k, i, rfl, _⟩ := h
    rfl
  · obtain ⟨a, z, k, i, rfl, ⟨dx, ha⟩, g1, g2, q⟩ := h
    refine ⟨_, PSs.nox (pss_cons (ps_if (pt_not (pt_val (pe_call G2 (hr.mono (by decide)) (by rfl) m2 k2 b2 .nil pass0 (pa_cons (pv 1) (pa_cons (pe_op op_sub (pe_call G3 (hr.mono (by decide)) (by rfl) m3 k3 b3 .nil pass0 (pa_cons (pe_fld (pv 0) rfl) pa_nil)) (pe_fld (pv 0) rfl))
        (pa_cons (pe_op op_sub (pe_glob (v := .int 3) rfl mM ⟨_, rfl⟩) (pe_fld (pv 0) rfl)) pa_nil)))))) (pss_one ps_never) pss_nil)
      (pss_one (ps_ret (pe_makeK M GI hr (by rfl) T.mgC kI pass0 (pa_cons (pe_fld (pv 0) rfl) pa_nil) (pk_cons (pe_op op_add (pe_fld (pv 0) rfl) (pv 1)) pk_nil))))), ?_⟩
    refine ⟨_, rfl, _, rfl, a, C, dx, _, _, rfl, ha, T.cl, T.nB, plF_base, z, rfl, _, rfl, a, C, dx, _, _, rfl, ha, T.cl, T.nS, plF_shift, _, _, rfl, rfl, ?_⟩
    refine ⟨_, rfl, a, C, dx, _, _, rfl, ha, T.cl, T.nS, plF_shift, _, _, rfl, rfl, .int i, _, _, rfl, .int i, _, rfl, ?_⟩
    have e : inB (lowS z - k) (3 - k) (.int i) = true := by
      have h1 := g2.2.2.2.1
      have h2 := g2.2.2.2.2
      show (decide (lowS z - k ≤ i) && decide (i ≤ 3 - k)) = true
      rw [decide_eq_true (by omega), decide_eq_true (by omega)]
      rfl
    rw [e]
    refine iteF ⟨_, rfl, a, C, dx, _, _, rfl, ha, T.cl, T.nB, plF_base, _, rfl, a, C, dx, _, _, rfl, ha, T.cl, T.nS, plF_shift, _, rfl, _, _, rfl, rfl, rfl, rfl, fun p dp np ndp nn => ?_⟩
    refine ⟨p, dp, z, k + i, rfl, upd_same, g2.1, g2.2.1, g2.2.2.1, g2.2.2.2.1, g2.2.2.2.2, fun H' u t' => ⟨rfl, q p H' np (fun r o hro => u r o (ne_of_none hro np) ?_) ⟨dp, t'⟩⟩⟩
    rw [upd_ne (ne_of_none hro np), upd_ne (ne_of_none hro ndp)]
    exact hro
end
end Mz
set_option Elab.async false
set_option linter.all false
set_option maxRecDepth 100000
set_option maxHeartbeats 4000000
namespace Mz
open PySem PySem.Spec PyProof.Rows L2
theorem sign_ok {z : Str} {c : Nat} (ok : PyData.strOk z = true) (h : c ∈ z.cps.toList) : PyData.strOk ⟨#[c]⟩ = true := by
  have h1 : c < 0x110000 := by
    unfold PyData.strOk at ok
    rw [Array.all_eq_true_iff_forall_mem] at ok
    exact of_decide_eq_true (ok c (Array.mem_toList_iff.mp h))
  unfold PyData.strOk
  simp only [Array.all_eq_true_iff_forall_mem]
  intro x hx
  have e : x = c := by simpa using hx
  rw [e]
  exact decide_eq_true h1
/-! texts of a bounded length, of signs that are some -/
def Sm (n : Nat) (z : Str) : Prop := z.length ≤ n ∧ PyData.strOk z = true
theorem strOk_iff {z : Str} : PyData.strOk z = true ↔ ∀ c ∈ z.cps.toList, c < 0x110000 := by
  unfold PyData.strOk
  rw [Array.all_eq_true_iff_forall_mem]
  exact ⟨fun h c hc => of_decide_eq_true (h c (Array.mem_toList_iff.mp hc)), fun h c hc => decide_eq_true (h c (Array.mem_toList_iff.mpr hc))⟩
theorem Sm.mono {n m : Nat} {z : Str} (h : Sm n z) (le : n ≤ m) : Sm m z := ⟨Nat.le_trans h.1 le, h.2⟩
theorem Sm.app {n m : Nat} {y z : Str} (hy : Sm n y) (hz : Sm m z) : Sm (n + m) (y ++ z) := by
  refine ⟨by rw [strLen_append]; exact Nat.add_le_add hy.1 hz.1, strOk_iff.mpr fun c hc => ?_⟩
  have hc2 : c ∈ (y.cps ++ z.cps).toList := hc
  rw [Array.toList_append] at hc2
  rcases List.mem_append.mp hc2 with e | e
  · exact strOk_iff.mp hy.2 c e
  · exact strOk_iff.mp hz.2 c e
theorem Sm.cut {n : Nat} {z : Str} (h : Sm n z) (lo hi : Option Int) : Sm n (cutS z lo hi) := by
  unfold cutS
  refine ⟨?_, strOk_iff.mpr fun c hc => ?_⟩
  · show ((z.cps.toList.drop _).take _).toArray.size ≤ n
    rw [List.size_toArray, List.length_take, List.length_drop]
    have e : z.cps.toList.length = z.length := rfl
    have := h.1
    omega
  · exact strOk_iff.mp h.2 c (List.mem_of_mem_drop (List.mem_of_mem_take hc))
theorem sm_sign {z : Str} {c : Nat} (ok : PyData.strOk z = true) (h : c ∈ z.cps.toList) : Sm 1 ⟨#[c]⟩ := ⟨Nat.le_refl _, sign_ok ok h⟩
theorem join_ok : ∀ l : List Str, (∀ y ∈ l, PyData.strOk y = true) → PyData.strOk (Str.join "" l) = true
  | [], _ => by decide +kernel
  | [x], h => h x List.mem_cons_self
  | x :: y :: r, h => by
    have h1 := h x List.mem_cons_self
    have h2 := join_ok (y :: r) fun z hz => h z (List.mem_cons_of_mem _ hz)
    show PyData.strOk (x ++ "" ++ Str.join "" (y :: r)) = true
    exact (Sm.app (Sm.app ⟨Nat.le_refl _, h1⟩ ⟨Nat.le_refl _, by decide +kernel⟩) ⟨Nat.le_refl _, h2⟩).2
theorem sum_ones : ∀ l : List Str, (∀ y ∈ l, Sm 1 y) → (l.map (·.length)).sum ≤ l.length
  | [], _ => Nat.le_refl _
  | x :: r, h => by
    have h1 := (h x List.mem_cons_self).1
    have h2 := sum_ones r fun z hz => h z (List.mem_cons_of_mem _ hz)
    rw [List.map_cons, List.sum_cons, List.length_cons]
    omega
theorem sm_join {l : List Str} (h : ∀ y ∈ l, Sm 1 y) : Sm l.length (Txt.join "" l) := by
  unfold Txt.join
  rw [StrLaws.glued_eq_join]
  refine ⟨?_, join_ok l fun y hy => (h y hy).2⟩
  have e := StrLaws.join_length_le "" l
  have e2 := sum_ones l h
  have e3 : l.length * ("" : Str).length = 0 := by
    rw [show ("" : Str).length = 0 by decide +kernel, Nat.mul_zero]
  omega
theorem atI_in {a : Type} {l : List a} {i : Int} (h0 : 0 ≤ i) (h1 : i < (l.length : Int)) : ∃ c, atI l i = some c ∧ c ∈ l := by
  obtain ⟨k, rfl⟩ := Int.eq_ofNat_of_zero_le h0
  have hk : k < l.length := by omega
  exact ⟨l[k], atI_nat (List.getElem?_eq_getElem hk), List.getElem_mem hk⟩
theorem str_empty {z : Str} (h : z.length = 0) : z = "" := by
  obtain ⟨l⟩ := z
  have e : l = #[] := Array.eq_empty_of_size_eq_zero h
  rw [e]
  rfl
theorem same_nw {H : Hp} {p : Addr} {o : HO} (h : H p = none) : Same H (upd H p o) := fun q u e => by
  rw [upd_ne (ne_of_none e h)]
  exact e
end Mz
set_option Elab.async false
set_option linter.all false
set_option maxRecDepth 100000
set_option maxHeartbeats 4000000
namespace Mz
open PySem PySem.Spec PyProof.Rows L2
def numS (z : Str) : Option Int := if z = "0" then some 0 else if z = "1" then some 1 else if z = "2" then some 2 else if z = "3" then some 3 else none
def shS (z : Str) : Option Int := if z = "-3" then some (-3) else if z = "-2" then some (-2) else if z = "-1" then some (-1) else if z = "+1" then some 1 else if z = "+2" then some 2 else if z = "+3" then some 3 else none
def headS (z : Str) : Str := cutS z none (some (-2))
def tailS (z : Str) : Str := cutS z (some (-2)) none
/-- what the program reads out of a text -/
def partsS (z : Str) : Option (Str × Int) :=
  match numS z with
  | some n => some ("", n)
  | none => if nameS z = true then some (z, 0) else if nameS (headS z) = true then (match shS (tailS z) with | some k => some (headS z, k) | none => none) else none
/-- a written dict from texts to ints -/
def Tab (K : PySem.W.Frag) (w : World) (d : Addr) (f : Str → Option Int) : Prop := ∃ es n, KDict K w d es n ∧ ∀ z : Str, ∃ r, PySem.W.nsIn K d z = some r ∧ ((f z = none ∧ r = none) ∨ ∃ i t, f z = some i ∧ r = some (.int i t))
def spParts : Sp := fun vs H Q _ => ∃ z : Str, vs = [.str z] ∧ Sm 1000 z ∧ (partsS z = none → ∀ H', Same H H' → Q .non H') ∧ ∀ y k, partsS z = some (y, k) → ∀ p H', Same H H' → H p = none → H' p = some (.tup [.str y, .int k]) → Q (.ref p) H'
section
variable {P : Program} {w : World} {K : PySem.W.Frag} {mg : Str → Option Value} {base : Heap}
theorem scParts : FnScope ["text"] ["text"] (defScope sParts) := ⟨rfl, rfl, rfl, by decide +kernel, rfl, by decide +kernel, by decide +kernel⟩
theorem ok_parts {f f1 dN dS : Addr} {fd fd1 : FuncData} (F : Fun K "_parts_of_text" "_parts_of_text" sParts f fd) (G : FnOk P w K mg base CX0 1 f1 fd1 ["value"] (spIsName K)) (m1 : mg "is_name" = some (.ref f1)) (k1 : PySem.W.keepIn K (.ref f1) = true) (b1 : Binds K fd1 ["value"] [])
    (mN : mg "_NUMBERS" = some (.ref dN)) (mS : mg "_SHIFTS" = some (.ref dS)) (tN : Tab K w dN numS) (tS : Tab K w dS shS) : FnOk P w K mg base CX0 2 f fd ["text"] spParts := by
  refine F.ok scParts (fun vs H Q E h => ?_) (fun cdv A outer s H vs Q E hr h => ?_)
  · obtain ⟨z, rfl, _⟩ := h
    rfl
  · obtain ⟨z, rfl, hz, qn, qs⟩ := h
    obtain ⟨esN, nN, DN, lN⟩ := tN
    obtain ⟨esS, nS, DS, lS⟩ := tS
    have zl : z.length ≤ sizeLine := Nat.le_trans hz.1 (by decide)
    refine ⟨_, pss_cons (ps_if (pt_cmpR (op_in_kd DN) (pv 0) (pe_glob (v := .ref dN) rfl mN rfl) (by rfl)) (pss_one (ps_ret (pe_tup (pa_cons pe_str (pa_cons (pe_ix ix_kdict (pe_glob (v := .ref dN) rfl mN rfl) (pv 0) (fun _ _ => rfl)) pa_nil))))) pss_nil)
      (pss_cons (ps_if (pt_val (pe_call G hr (by rfl) m1 k1 b1 .nil pass0 (pa_cons (pv 0) pa_nil))) (pss_one (ps_ret (pe_tup (pa_cons (pv 0) (pa_cons pe_int pa_nil))))) pss_nil)
      (pss_cons (ps_if (PW.pt (pw_and (pt_val (pe_call G hr (by rfl) m1 k1 b1 .nil pass0 (pa_cons (pe_slice sl_str (pv 0) po_none (po_some (pe_un un_neg pe_int))) pa_nil))) (pw_and1 (pt_cmpR (op_in_kd DS) (pe_slice sl_str (pv 0) (po_some (pe_un un_neg pe_int)) po_none) (pe_glob (v := .ref dS) rfl mS rfl) (by rfl)))))
          (pss_one (ps_ret (pe_tup (pa_cons (pe_slice sl_str (pv 0) po_none (po_some (pe_un un_neg pe_int))) (pa_cons (pe_ix ix_kdict (pe_glob (v := .ref dS) rfl mS rfl) (pe_slice sl_str (pv 0) (po_some (pe_un un_neg pe_int)) po_none) (fun _ _ => rfl)) pa_nil))))) pss_nil)
      (pss_one (ps_ret pe_non)))), ?_⟩
    have kd : ∀ {H' : Hp} {y : Str}, Sm 1000 y → Kd K H' (.str y) := fun h => .str _ h.1 h.2
    obtain ⟨r, er, hr1⟩ := lN z
    refine ⟨_, rfl, z, r, rfl, rfl, er, _, rfl, ?_⟩
    rcases hr1 with ⟨e, rfl⟩ | ⟨i, t, e, rfl⟩
    · refine iteF ?_
      refine ⟨_, rfl, .str z, rfl, kd hz, fun H1 s1 => ⟨_, rfl, ite2 (fun hn => ?_) (fun hn => ?_)⟩⟩
      · have ep : partsS z = some (z, 0) := by
          unfold partsS
          rw [e]
          exact if_pos hn
        exact ⟨_, rfl, (by show 2 ≤ sizeLine; decide), fun p np => qs z 0 ep p _ (s1.trans (same_nw np)) (s1.free np) upd_same⟩
      · have nn : ¬ nameS z = true := hn
        have sh := hz.cut none (some (-2))
        have st := hz.cut (some (-2)) none
        refine ⟨_, rfl, _, rfl, _, rfl, z, rfl, zl, .str (headS z), rfl, kd sh, fun H2 s2 => ⟨_, rfl, ite2 (fun hh => ?_) (fun hh => ?_)⟩⟩
        · have nh : nameS (headS z) = true := hh
          obtain ⟨r, er, hr2⟩ := lS (tailS z)
          refine ⟨_, rfl, _, rfl, _, rfl, z, rfl, zl, tailS z, r, rfl, rfl, er, _, rfl, ?_⟩
          rcases hr2 with ⟨e2, rfl⟩ | ⟨i, t, e2, rfl⟩
          · refine iteF (qn ?_ H2 (s1.trans s2))
            unfold partsS
            rw [e]
            show (if nameS z = true then _ else _) = _
            rw [if_neg nn, if_pos nh, e2]
          · have ep : partsS z = some (headS z, i) := by
              unfold partsS
              rw [e]
              show (if nameS z = true then _ else _) = _
              rw [if_neg nn, if_pos nh, e2]
            refine iteT ⟨_, rfl, _, rfl, _, rfl, z, rfl, zl, ?_⟩
            refine ⟨_, rfl, _, rfl, _, rfl, z, rfl, zl, dS, tailS z, .int i, rfl, rfl, ⟨_, _, _, DS.at_, DS.lit, er, ⟨t, rfl⟩⟩, (by show 2 ≤ sizeLine; decide), fun p np => ?_⟩
            exact qs _ _ ep p _ ((s1.trans s2).trans (same_nw np)) ((s1.trans s2).free np) upd_same
        · refine qn ?_ H2 (s1.trans s2)
          unfold partsS
          rw [e]
          show (if nameS z = true then _ else _) = _
          rw [if_neg nn]
          exact if_neg hh
    · have ep : partsS z = some (("" : Str), i) := by
        unfold partsS
        rw [e]
      refine iteT ⟨_, rfl, dN, z, .int i, rfl, rfl, ⟨_, _, _, DN.at_, DN.lit, er, ⟨t, rfl⟩⟩, (by show 2 ≤ sizeLine; decide), fun p np => ?_⟩
      exact qs _ _ ep p _ (same_nw np) np upd_same
end
end Mz
set_option Elab.async false
set_option linter.all false
set_option maxRecDepth 100000
set_option maxHeartbeats 4000000
namespace Mz
open PySem PySem.Spec PyProof.Rows L2
/-- the types of int, bool, str, None are no places -/
structure Npl (K : PySem.W.Frag) (C : Addr) : Prop where
  int : PySem.W.kitOne K (.type "int") (.ref C) = some false
  bool : PySem.W.kitOne K (.type "bool") (.ref C) = some false
  str : PySem.W.kitOne K (.type "str") (.ref C) = some false
  non : PySem.W.kitOne K (.type "NoneType") (.ref C) = some false
/-- a value that is no place -/
def NoPl (K : PySem.W.Frag) (C : Addr) (H : Hp) (v : V) : Prop := Kd K H v ∧ Oty K C H v
/-- what a value that is no place reads as -/
def ofV : V → Option (Str × Int)
  | .int i => if 0 ≤ i ∧ i ≤ 3 then some ("", i) else none
  | .str z => partsS z
  | _ => none
/-- the exception's class, as the written part has it -/
structure Xcl (K : PySem.W.Frag) (mg : Str → Option Value) (x : Str) (C : Addr) (f : Str) : Prop where
  ox : OexC K C
  no : PySem.W.findIn K (.ref C) f = some none
  m : mg x = some (.ref C)
  xf : XfC K C
def spOf (K : PySem.W.Frag) (C cX : Addr) : Sp := fun vs H Q E => ∃ v, vs = [.ref C, v] ∧
  ((∃ a z k, v = .ref a ∧ Pl C H a z k ∧ Q v H) ∨
    (NoPl K C H v ∧ (∀ z k, ofV v = some (z, k) → ∀ p H', H p = none → Same H H' → Pl C H' p z k → Good z k → Q (.ref p) H') ∧
      (ofV v = none → ∀ d H', H d = none → Same H H' → H' d = some (.xd [("value", v)]) → E (.ref cX) (some d) H')))
theorem good_num {i : Int} (h0 : 0 ≤ i) (h1 : i ≤ 3) : Good "" i := ⟨by decide +kernel, by decide +kernel, .inl rfl, h0, h1⟩
theorem low_name {z : Str} (h : nameS z = true) : lowS z = -3 := if_neg fun e => by
  rw [e] at h
  exact absurd h (by decide +kernel)
theorem good_name {z : Str} {k : Int} (hz : Sm 1000 z) (h : nameS z = true) (h0 : -3 ≤ k) (h1 : k ≤ 3) : Good z k := ⟨hz.1, hz.2, .inr h, by rw [low_name h]; exact h0, h1⟩
theorem numS_rng {z : Str} {n : Int} (h : numS z = some n) : 0 ≤ n ∧ n ≤ 3 := by
  unfold numS at h
  repeat' split at h
  all_goals first | (cases h; omega) | cases h
theorem shS_rng {z : Str} {n : Int} (h : shS z = some n) : -3 ≤ n ∧ n ≤ 3 := by
  unfold shS at h
  repeat' split at h
  all_goals first | (cases h; omega) | cases h
theorem parts_good {z y : Str} {k : Int} (hz : Sm 1000 z) (h : partsS z = some (y, k)) : Good y k := by
  unfold partsS at h
  cases e : numS z with
  | some n =>
    rw [e] at h
    cases h
    exact good_num (numS_rng e).1 (numS_rng e).2
  | none =>
    rw [e] at h
    dsimp only at h
    by_cases hn : nameS z = true
    · rw [if_pos hn] at h
      cases h
      exact good_name hz hn (by decide) (by decide)
    · rw [if_neg hn] at h
      by_cases hh : nameS (headS z) = true
      · rw [if_pos hh] at h
        cases e2 : shS (tailS z) with
        | none =>
          rw [e2] at h
          cases h
        | some i =>
          rw [e2] at h
          cases h
          exact good_name (hz.cut _ _) hh (shS_rng e2).1 (shS_rng e2).2
      · rw [if_neg hh] at h
        cases h
section
variable {P : Program} {w : World} {K : PySem.W.Frag} {mg : Str → Option Value} {base : Heap}
theorem scXinit : FnScope ["self", "value"] ["self", "value"] (defScope (inClass sInvPlace 0)) := ⟨rfl, rfl, rfl, by decide +kernel, rfl, by decide +kernel, by decide +kernel⟩
theorem ok_xinit {f C cM : Addr} {fd : FuncData} (F : Fun K "__init__" "InvalidPlace.__init__" (inClass sInvPlace 0) f fd) (T : Xcl K mg "InvalidPlace" C "value") (mM : mg "MapError" = some (.ref cM)) (rd : ClX.CRead K cM (.type "type"))
    (fc : PySem.W.findCls K (.ref cM) (.type "type") "__init__" = some (.val (.builtin "ValueError.__init__"))) : FnOk P w K mg base CX0 1 f fd ["self", "value"] (spX1 K C "value") := by
  refine F.ok scXinit (fun vs H Q E h => ?_) (fun cdv A outer s H vs Q E hr h => ?_)
  · obtain ⟨a, v, rfl, _⟩ := h
    rfl
  · obtain ⟨a, v, rfl, ha, q⟩ := h
    refine ⟨_, pss_cons (ps_expr (pe_meinit (by rfl) mM rd fc (pa_cons (pv 0) (pa_cons pe_str pa_nil)))) (pss_one (ps_ost (pv 0) (pv 1))), ?_⟩
    refine ⟨_, rfl, a, C, _, rfl, (by show 1 ≤ 1000; decide), T.ox, ha, ?_⟩
    exact ⟨_, rfl, _, rfl, a, C, rfl, T.ox, T.no, .inl ⟨ha, fun dx n1 n2 => q dx n1 n2⟩⟩
theorem scOf : FnScope ["cls", "value", "parts", "base", "shift"] ["cls", "value"] (defScope (inClass sPlace 1)) := ⟨rfl, rfl, rfl, by decide +kernel, rfl, by decide +kernel, by decide +kernel⟩
theorem ok_of {f f2 fp fI C cX fX : Addr} {fd fd2 fdp fdI fdX : FuncData} {t : Tok} {g1 g2 : List Value → List Value → List Value} (F : Fun K "of" "Place.of" (inClass sPlace 1) f fd) (T : Cpl K mg C) (Y : Pty K C) (N : Npl K C) (B : Blt mg) (D : Blp mg)
    (G2 : FnOk P w K mg base CX0 2 f2 fd2 ["value", "low", "high"] (spIsInt K)) (m2 : mg "is_integer" = some (.ref f2)) (k2 : PySem.W.keepIn K (.ref f2) = true) (b2 : Binds K fd2 ["value", "low", "high"] [])
    (Gp : FnOk P w K mg base CX0 2 fp fdp ["text"] spParts) (mp : mg "_parts_of_text" = some (.ref fp)) (kp : PySem.W.keepIn K (.ref fp) = true) (bp : Binds K fdp ["text"] [])
    (mM : mg "_MOST" = some (.int 3 t)) (M : Mk K C fI) (GI : FnOk P w K mg base CX0 3 fI fdI ["self", "base", "shift"] (spInit C)) (kI1 : KBn K fdI ["self", "base", "shift"] 1 ["shift"] g1 (fun vs zs => vs ++ [.str ""] ++ zs)) (kI2 : KBn K fdI ["self", "base", "shift"] 2 ["shift"] g2 (fun vs zs => vs ++ zs))
    (TX : Xcl K mg "InvalidPlace" cX "value") (GX : FnOk P w K mg base CX0 1 fX fdX ["self", "value"] (spX1 K cX "value")) (iX : PySem.W.findIn K (.ref cX) "__init__" = some (some (.ref fX))) (tX : PySem.W.typeIn K (.ref fX) = some (.type "function")) (bX : Binds K fdX ["self", "value"] []) :
    FnOk P w K mg base (L2.CX P w) 5 f fd ["cls", "value"] (spOf K C cX) := by
  refine F.okX scOf (fun vs H Q E h => ?_) (fun cdv A outer s H vs Q E hr h => ?_)
  · obtain ⟨v, rfl, _⟩ := h
    rfl
  · obtain ⟨v, rfl, h⟩ := h
    have nd := scOf.nd
    have hr2 : Room 2 _ := hr.mono (by decide)
    refine ⟨_, pss_cons (ps_if (pt_val (pe_callB call_isi (by rfl) D.isi (by decide +kernel) (pa_cons (pv 1) (pa_cons (pe_glob (v := .ref C) rfl T.mgC rfl) pa_nil)))) (pss_one (ps_ret (pv 1))) pss_nil)
      (pss_cons (ps_if (pt_val (pe_call G2 hr2 (by rfl) m2 k2 b2 .nil pass0 (pa_cons (pv 1) (pa_cons pe_int (pa_cons (pe_glob (v := .int 3) rfl mM ⟨_, rfl⟩) pa_nil))))) (pss_one (ps_ret (pe_makeL0 (i := 0) rfl (.inl rfl) M GI hr kI1 pass0 (pk_cons (pv 1) pk_nil)))) pss_nil)
      (pss_cons (ps_set (i := 2) nd rfl (Or.inl rfl) (pe_ifExp (pt_val (pe_callB call_isi (by rfl) D.isi (by decide +kernel) (pa_cons (pv 1) (pa_cons (pe_bltn (v := .ty "str") (by rfl) D.str (by decide +kernel) rfl) pa_nil))))
        (pe_call Gp hr2 (by rfl) mp kp bp .nil pass0 (pa_cons (pv 1) pa_nil)) pe_non))
      (pss_cons (ps_if (pt_cmpR op_isN (pv 2) pe_non (nomark _)) (pss_one (ps_raise rfl (takes_of rfl rfl rfl rfl) (pmk_oex TX.ox iX tX GX (hr.mono (by decide)) bX .nil pass0 (by rfl) TX.m (pa_cons (pv 1) pa_nil)))) pss_nil)
      (pss_cons (ps_asg (pv 2) (pg_tup (by rfl) (pgs_cons (pg_name (i := 3) nd rfl (.inl rfl)) (pgs_cons (pg_name (i := 4) nd rfl (.inl rfl)) pgs_nil))))
      (pss_one (ps_ret (pe_makeL (i := 0) rfl (.inl rfl) M GI hr kI2 pass0 (pa_cons (pv 3) pa_nil) (pk_cons (pv 4) pk_nil)))))))), ?_⟩
    generalize hT4 : tSeq (tIfS (tTest _) (fun _ _ _ => _) _) _ = T4
    have made : ∀ (H1 : Hp), Same H H1 → ∀ y k, Good y k → (∀ p H', H p = none → Same H H' → Pl C H' p y k → Q (.ref p) H') → ∀ x dx, H1 x = none → H1 dx = none → dx ≠ x →
        spInit C [.ref x, .str y, .int k] (upd (upd H1 dx (.own x)) x (.ins C dx [])) (fun v H2 => v = .non ∧ Q (.ref x) H2) E0 := by
      intro H1 s1 y k g qq x dx nx ndx nn
      refine ⟨x, dx, y, k, rfl, upd_same, g.1, g.2.1, g.2.2.1, g.2.2.2.1, g.2.2.2.2, fun H' u t' => ⟨rfl, qq x H' (s1.free nx) (fun r o hro => u r o (ne_of_none (s1 _ _ hro) nx) ?_) ⟨dx, t'⟩⟩⟩
      rw [upd_ne (ne_of_none (s1 _ _ hro) nx), upd_ne (ne_of_none (s1 _ _ hro) ndx)]
      exact s1 _ _ hro
    have rest0 : ∀ H1, Same H H1 → (∀ d H', H d = none → Same H H' → H' d = some (.xd [("value", v)]) → E (.ref cX) (some d) H') → T4 { nx := fun _ H' => Q .non H', rt := Q } [some (.ref C), some v, some .non, none, none] H1 := by
      intro H1 s1 qE
      rw [← hT4]
      refine ⟨_, rfl, rfl, _, rfl, ite2 (fun _ => ?_) (fun x => (x (decide_eq_true rfl)).elim)⟩
      refine ⟨_, rfl, (by show 1 ≤ 1000; decide), fun a na => ⟨a, v, rfl, upd_same, fun dx n1 n2 => ⟨rfl, dx, [("value", v)], upd_same, ?_, ?_, ?_⟩⟩⟩
      · rw [upd_ne n2, upd_same]
      · rw [upd_ne n2] at n1
        exact n1
      · have n3 : H1 dx = none := by
          rw [upd_ne n2] at n1
          exact n1
        refine qE dx _ (s1.free n3) (fun b o hb => ?_) upd_same
        have x1 : b ≠ dx := ne_of_none (s1 _ _ hb) n3
        have x2 : b ≠ a := ne_of_none (s1 _ _ hb) na
        rw [upd_ne x1, del_ne x2, upd_ne x2, upd_ne x1, upd_ne x2]
        exact s1 _ _ hb
    have rest1 : ∀ H1 p y k, Same H H1 → H1 p = some (.tup [.str y, .int k]) → Good y k → (∀ p H', H p = none → Same H H' → Pl C H' p y k → Q (.ref p) H') → T4 { nx := fun _ H' => Q .non H', rt := Q } [some (.ref C), some v, some (.ref p), none, none] H1 := by
      intro H1 p y k s1 hp g qq
      rw [← hT4]
      refine ⟨_, rfl, rfl, _, rfl, ite2 (fun x => ?_) (fun _ => ?_)⟩
      · cases of_decide_eq_true x
      · refine ⟨_, rfl, p, _, rfl, SqT.of hp, rfl, ?_⟩
        exact ⟨_, _, rfl, _, _, rfl, rfl, rfl, _, rfl, _, rfl, rfl, rfl, made H1 s1 y k g qq⟩
    clear hT4
    refine ⟨_, rfl, ?_⟩
    rcases h with ⟨a, z, k, rfl, pa, q⟩ | ⟨⟨hk, t0, ty0, kt0⟩, qs, qE⟩
    · exact ⟨.ref a, .ref C, .ref C, .ref C, true, rfl, .own C, pa.ty Y, kit_self, true, rfl, iteT ⟨_, rfl, q⟩⟩
    · refine ⟨v, .ref C, t0, .ref C, false, rfl, .own C, ty0, kt0, false, rfl, iteF ?_⟩
      refine ⟨_, rfl, v, 0, 3, rfl, hk, _, rfl, ?_⟩
      cases hk with
      | int i =>
        refine ite2 (fun hc => ?_) (fun hc => ?_)
        · have hc2 : (decide (0 ≤ i) && decide (i ≤ 3)) = true := hc
          obtain ⟨h1, h2⟩ := Bool.and_eq_true_iff.mp hc2
          have h1 := of_decide_eq_true h1
          have h2 := of_decide_eq_true h2
          have e : ofV (.int i) = some (("" : Str), i) := if_pos ⟨h1, h2⟩
          exact ⟨rfl, _, rfl, rfl, rfl, made H (Same.refl H) "" i (good_num h1 h2) fun p H' n1 n2 n3 => qs "" i e p H' n1 n2 n3 (good_num h1 h2)⟩
        · have e : ofV (.int i) = none := if_neg fun x => hc (by
            show (decide (0 ≤ i) && decide (i ≤ 3)) = true
            rw [decide_eq_true x.1, decide_eq_true x.2]
            rfl)
          exact ⟨_, rfl, _, _, _, _, false, rfl, .ty _, .base (.int i), kit_ty (by decide +kernel), false, rfl, iteF (rest0 H (Same.refl H) (qE e))⟩
      | bl b => exact iteF ⟨_, rfl, _, _, _, _, false, rfl, .ty _, .base (.bl b), kit_ty (by decide +kernel), false, rfl, iteF (rest0 H (Same.refl H) (qE rfl))⟩
      | non => exact iteF ⟨_, rfl, _, _, _, _, false, rfl, .ty _, .base .non, kit_ty (by decide +kernel), false, rfl, iteF (rest0 H (Same.refl H) (qE rfl))⟩
      | oth a t ty ki ks => exact iteF ⟨_, rfl, _, _, _, _, false, rfl, .ty _, ty, ks, false, rfl, iteF (rest0 H (Same.refl H) (qE rfl))⟩
      | str z hz ok =>
        refine iteF ⟨_, rfl, _, _, _, _, true, rfl, .ty _, .base (.str z), kit_ty (by decide +kernel), true, rfl, iteT ⟨_, rfl, z, rfl, ⟨hz, ok⟩, fun e H1 s1 => rest0 H1 s1 (qE e), fun y k e p H1 s1 np hp => ?_⟩⟩
        have g := parts_good ⟨hz, ok⟩ e
        exact rest1 H1 p y k s1 hp g fun p H' n1 n2 n3 => qs y k e p H' n1 n2 n3 g
end
end Mz
set_option Elab.async false
set_option linter.all false
set_option maxRecDepth 100000
set_option maxHeartbeats 4000000
namespace Mz
open PySem PySem.Spec PyProof.Rows L2
/-- Place.of, as the text has it -/
structure OfM (P : Program) (w : World) (K : PySem.W.Frag) (mg : Str → Option Value) (base : Heap) (C cX po f : Addr) (fd : FuncData) : Prop where
  ok : FnOk P w K mg base (L2.CX P w) 5 f fd ["cls", "value"] (spOf K C cX)
  rd : ClX.CRead K C (.type "type")
  met : ClX.CMet K C (.type "type") "of" po f
  b : Binds K fd ["cls", "value"] []
def isPlV (pl : Bool) (v : V) : Bool := pl || (ofV v).isSome
def spIsPl (K : PySem.W.Frag) (C : Addr) : Sp := fun vs H Q _ => ∃ v, vs = [v] ∧ ((∃ a z k, v = .ref a ∧ Pl C H a z k ∧ Q (.bl true) H) ∨ (NoPl K C H v ∧ ∀ H', Same H H' → Q (.bl (ofV v).isSome) H'))
section
variable {P : Program} {w : World} {K : PySem.W.Frag} {mg : Str → Option Value} {base : Heap}
theorem scIsPl : FnScope ["value"] ["value"] (defScope sIsPlace) := ⟨rfl, rfl, rfl, by decide +kernel, rfl, by decide +kernel, by decide +kernel⟩
theorem ok_isPl {f fO C cX po : Addr} {fd fdO : FuncData} (F : Fun K "is_place" "is_place" sIsPlace f fd) (T : Cpl K mg C) (O : OfM P w K mg base C cX po fO fdO) (mX : mg "InvalidPlace" = some (.ref cX)) (te : PySem.W.exmOne K (.ref cX) (.ref cX) = some true) :
    FnOk P w K mg base CX0 6 f fd ["value"] (spIsPl K C) := by
  refine F.ok scIsPl (fun vs H Q E h => ?_) (fun cdv A outer s H vs Q E hr h => ?_)
  · obtain ⟨v, rfl, _⟩ := h
    rfl
  · obtain ⟨v, rfl, h⟩ := h
    refine ⟨_, pss_cons (ps_try_only rfl rfl ⟨rfl, by decide, .inl mX⟩ takes0 (fun W pn xe tk _ => pss_one (ps_expr (pe_cmethS (pe_glob (v := .ref C) rfl T.mgC rfl) O.rd O.met O.ok hr O.b (fun σ => passAt tk σ) (pa_cons (pv 0) pa_nil))))
      (fun a oe cls d pn hz hf => pss_one (ps_ret pe_bl))) (pss_one (ps_ret pe_bl)), ?_⟩
    rcases h with ⟨a, z, k, rfl, pa, q⟩ | ⟨nv, q⟩
    · exact ⟨rfl, _, rfl, .ref a, rfl, .inl ⟨a, z, k, rfl, pa, q⟩⟩
    · refine ⟨rfl, _, rfl, v, rfl, .inr ⟨nv, fun z k e p H' np sm pl g => ?_, fun e d H' nd sm hd => ?_⟩⟩
      · have q2 := q H' sm
        rw [e] at q2
        exact q2
      · have q2 := q H' sm
        rw [e] at q2
        exact ⟨true, te, fun _ a ha => q2, fun x => Bool.noConfusion x⟩
end
end Mz
set_option Elab.async false
set_option linter.all false
set_option maxRecDepth 100000
set_option maxHeartbeats 4000000
namespace Mz
open PySem PySem.Spec PyProof.Rows L2
/-! letters, by order and by the alphabet -/
def loC (c : Nat) : Bool := !decide ((⟨#[c]⟩ : Str).cps.toList < ("a" : Str).cps.toList)
def hiC (c : Nat) : Bool := !decide (("z" : Str).cps.toList < (⟨#[c]⟩ : Str).cps.toList)
theorem abc_range : abc.cps.toList = List.range' 97 26 := by decide +kernel
theorem one_lt (a b : Nat) : ([a] : List Nat) < [b] ↔ a < b := by
  rw [List.cons_lt_cons_iff]
  simp
theorem letter_eq (c : Nat) : (loC c && hiC c) = decide (c ∈ abc.cps.toList) := by
  have e1 : loC c = decide (97 ≤ c) := by
    unfold loC
    rw [show ("a" : Str).cps.toList = [97] by decide +kernel]
    show (!decide (([c] : List Nat) < [97])) = _
    rw [decide_eq_decide.mpr (one_lt c 97)]
    by_cases h : c < 97
    · rw [decide_eq_true h, decide_eq_false (by omega)]; rfl
    · rw [decide_eq_false h, decide_eq_true (by omega)]; rfl
  have e2 : hiC c = decide (c ≤ 122) := by
    unfold hiC
    rw [show ("z" : Str).cps.toList = [122] by decide +kernel]
    show (!decide (([122] : List Nat) < [c])) = _
    rw [decide_eq_decide.mpr (one_lt 122 c)]
    by_cases h : 122 < c
    · rw [decide_eq_true h, decide_eq_false (by omega)]; rfl
    · rw [decide_eq_false h, decide_eq_true (by omega)]; rfl
  rw [e1, e2, abc_range, ← Bool.decide_and]
  refine decide_eq_decide.mpr ?_
  rw [List.mem_range'_1]
  omega
theorem dp_strs {K : PySem.W.Frag} {H : Hp} : ∀ l : List Str, DpAll K H (l.map V.str) (l.map PyData.str)
  | [] => .nil
  | z :: l => .cons (.str z) (dp_strs l)
theorem strs_lay : ∀ l : List Str, (∀ z ∈ l, PyData.strOk z = true) → PyData.canLayAll0 (l.map PyData.str) = true ∧ PyData.depthAll (l.map PyData.str) = 0
  | [], _ => ⟨rfl, rfl⟩
  | z :: l, ok => by
    obtain ⟨h1, h2⟩ := strs_lay l fun y hy => ok y (List.mem_cons_of_mem _ hy)
    have h3 := ok z List.mem_cons_self
    rw [List.map_cons]
    refine ⟨?_, ?_⟩
    · simp [PyData.canLayAll0, PyData.canLay0, h1, h3]
    · simp [PyData.depthAll, PyData.depth, h2]
theorem shaped_strs (l : List Str) (ok : ∀ z ∈ l, PyData.strOk z = true) : SeqAt.shaped (.list (l.map PyData.str)) = true := by
  obtain ⟨h1, h2⟩ := strs_lay l ok
  unfold SeqAt.shaped
  simp [PyData.canLay0, PyData.depth, h1, h2]
theorem eqv_nil {xs : List PyData} : PyData.eqv (.list xs) (.list []) = xs.isEmpty := by
  cases xs <;> rfl
end Mz
set_option Elab.async false
set_option linter.all false
set_option maxRecDepth 100000
set_option maxHeartbeats 4000000
/-! a class called in a try: what is raised is wished for at the caller's slots -/
namespace Mz
open PySem PySem.Spec PyProof.Rows L2
section
variable {X : Cx} {CX : CXT} {k n : Nat} {f C : Addr} {fd : FuncData} {ps ks : List Str} {sp : Sp} {x : Str} {p pos : Pos} {e : Expr} {es : List Expr} {kws : List Keyword} {t tk : TA} {g : List Value → List Value → List Value} {gV : List V → List V → List V}
theorem run_makeKS {E : XK} {pins : List (Addr × Obj)} {σ : L2.St} {H : Hp} {s : Shared} {Q : VK} {us ws : List Value} {vs zs : List V} (M : Mk X.K C f) (F : FnOk X.prog X.w X.K X.mg X.base CX k f fd ps sp) (hr : Room (k + 1) X.A) (hb : KBn X.K fd ps (n + 1) ks g gV) (hx : PassesAt CX X σ E)
    (I : Inv X pins σ H s) (r : Vals vs us) (rz : Vals zs ws) (l1 : vs.length = n) (l2 : zs.length = ks.length)
    (h : ∀ x dx, H x = none → H dx = none → dx ≠ x → sp (gV (.ref x :: vs) zs) (upd (upd H dx (.own x)) x (.ins C dx [])) (fun v H2 => v = .non ∧ Q (.ref x) H2) E) :
    wpAny (model X.prog X.w) X.A (call (.ref C) us (ks.zip ws)) (EP X pins σ Q) X.xe s := by
  have hq := h (s.heap.objs.size + 1) s.heap.objs.size (I.hok.fresh (Nat.le_succ _)) (I.hok.fresh (Nat.le_refl _)) (Nat.ne_of_lt (Nat.lt_succ_self _))
  have I2 := Inv.made (C := C) I
  have r1 : Vals (V.ref (s.heap.objs.size + 1) :: vs) (Value.ref (s.heap.objs.size + 1) :: us) := .cons rfl r
  have r2 := hb.rel r1 rz
  have n1 : (Value.ref (s.heap.objs.size + 1) :: us).length = n + 1 := by
    rw [List.length_cons, ← r.length, l1]
  refine wpAny_call (make_map (f := f) I.kIn M.makes M.init (beq_iff_eq.mp M.fn) (codeAny_mono (F.run _ X.stack _ _ ⟨Value.ref (s.heap.objs.size + 1) :: us, ks.zip ws⟩ (g (Value.ref (s.heap.objs.size + 1) :: us) ws) _ _ E (hr.make C us (ks.zip ws))
    (I2.env0.make C us (ks.zip ws)) (hb.to _ (Value.ref (s.heap.objs.size + 1) :: us) ws I2.kIn n1 (rz.length.symm.trans l2)) r2 hq) fun r s' hq' => ?_))
  cases r with
  | error e => exact hx pins _ _ e s' I2 hq'
  | ok fl =>
    cases fl with
    | ret u =>
      obtain ⟨v, H', I3, rv, ev, q3⟩ := I2.after hq'
      subst ev
      exact ⟨rv, ⟨V.ref (s.heap.objs.size + 1), H', I3, rfl, q3⟩⟩
    | next => exact False.elim hq'
    | brk => exact False.elim hq'
    | cont => exact False.elim hq'
/-- C(e, .., k = v, ..) -/
theorem pe_makeKS {ES : L2.St → XK} (M : Mk X.K C f) (F : FnOk X.prog X.w X.K X.mg X.base CX k f fd ps sp) (hr : Room (k + 1) X.A) (hg : Gl X x) (hm : X.mg x = some (.ref C)) (hb : KBn X.K fd ps (n + 1) ks g gV) (hx : ∀ σ, PassesAt CX X σ (ES σ)) (ha : PA X (e :: es) t) (hkw : PK X kws tk)
    (hall : (backToKw pos (keywordEach kws X.env)).all (·.1.isSome) = true := by rfl) (hks : (backToKw pos (keywordEach kws X.env)).filterMap (·.1) = ks := by rfl) (hdb : (x == ("__debug__" : Str)) = false := by decide)
    (he : starEach (e :: es) X.env = (false, eval e X.env) :: starEach es X.env := by rfl) (hpl : ((backTo pos (starEach (e :: es) X.env)).any (·.1) || (backToKw pos (keywordEach kws X.env)).any (·.1.isNone)) = false := by rfl) :
    PE X (.Call (.Name x p) (e :: es) kws pos) (fun σ H Q => tMakeK C n ks.length sp gV (ES σ) t tk σ H Q) := by
  refine ⟨fun pins s σ H Q I h => ?_⟩
  refine wpAny_Call_Name_kw (ld_glob I hg hm ?_ hdb)
  refine PySem.W.callWith_KW (h₀ := X.base) I.ok.mod.kin M.kp hall (thn (ha.run pos pins s σ H _ I h) fun us s1 ⟨vs, H1, I1, r, q⟩ => ?_) hpl he
  refine thn (hkw.run pos pins s1 σ H1 _ I1 q) fun ws s2 ⟨zs, H2, I2, rz, l1, l2, q2⟩ => ⟨I2.kIn, ?_⟩
  rw [hks]
  exact run_makeKS M F hr hb (hx σ) I2 r rz l1 l2 q2
/-- f"{x}", x an instance with an own __str__ -/
theorem pe_fmtO {j : Nat} {te : TE} (he : PE X e te) (F : FnOk X.prog X.w X.K X.mg X.base CX0 j f fd ["self"] sp) (hr : Room (j + 2) X.A) (hb : Binds X.K fd ["self"] []) (hs : PySem.W.findIn X.K (.ref C) "__str__" = some (some (.ref f))) (hf : PySem.W.isFn X.K (.ref f) = true)
    (hfm : PySem.W.findIn X.K (.ref C) "__format__" = some (some (.builtin "object.__format__"))) (hm : PySem.W.mroIn X.K C (.type "object") = some true) :
    PE X (.FormattedValue e (-1) none pos) (fun σ H Q => te σ H fun x H1 => ∃ a dx fs, x = .ref a ∧ H1 a = some (.ins C dx fs) ∧ sp [.ref a] H1 (fun v H2 => ∃ z : Str, v = .str z ∧ z.length ≤ sizeLine ∧ Q (.str z) H2) E0) := by
  refine ⟨fun pins s σ H Q I h => ?_⟩
  refine wpAny_FormattedValue_plain (thn (he.run pins s σ H _ I h) fun v s1 hv => ?_)
  obtain ⟨x, H1, I1, r1, a, dx, fs, rfl, ha, q⟩ := hv
  obtain rfl : v = Value.ref a := r1
  obtain ⟨mA, O, _⟩ := ins_get I1.hok ha
  obtain ⟨od, J, _⟩ := O.look
  refine PySem.W.kfo_fieldS hr.in1.units0 I1.kIn J hfm hm hs hf ?_
  refine wpAny_mono (run_at (E := E0) (E2 := X.xe) (vs := [.ref a]) (us := [.ref a]) (F.mono (Nat.le_refl _)) (hr.in1.mono (Nat.le_succ _)) (I1.tok _).env0.in1 hb (fun _ _ z => z.elim) (I1.tok _) (.cons rfl .nil) q) (fun u s2 hv => ?_) fun _ _ z => z
  obtain ⟨w, H2, I2, rv, z, rfl, _, q2⟩ := hv
  obtain ⟨tk, rfl⟩ := rv
  exact ⟨.str z, H2, I2, ⟨tk, rfl⟩, q2⟩
end
end Mz
set_option Elab.async false
set_option linter.all false
set_option maxRecDepth 100000
set_option maxHeartbeats 4000000
/-! repr of a list of a text and a dict of one pair -/
namespace Mz
open PySem PySem.Spec PyProof.Rows L2
def pairText (z : Str) (i : Int) : Str := dictText (List.zipWith (fun k v : Str => k ++ ": " ++ v) [reprText z] [Str.ofString (toString i)])
def twoText (r z : Str) (i : Int) : Str := listText [reprText r, pairText z i]
def rRepr2 : List V → Hp → VK → Prop := fun xs H Q => ∃ (p : Addr) (r : Str) (a : Addr) (z : Str) (i : Int), xs = [.ref p] ∧ H p = some (.lst [.str r, .ref a]) ∧ H a = some (.dK [(.inr z, .int i)]) ∧
  i.natAbs.log2 < 1920 ∧ (reprText r).length ≤ 1000 ∧ (reprText z).length ≤ 1000 ∧ (twoText r z i).length ≤ sizeLine ∧ Q (.str (twoText r z i)) H
theorem call_repr2 {X : Cx} (g0 : X.A.guards = some []) (hu : X.A.units + 64 < cLine) : CallR X (.builtin "repr") rRepr2 := by
  intro pins s σ H xs us Q I rv h
  obtain ⟨p, r, a, z, i, rfl, hp, ha, hi, hr, hz, hsz, q⟩ := h
  obtain ⟨u, rfl, rx⟩ := vals1 rv
  obtain rfl : u = Value.ref p := rx
  have ends : ∀ h' t tk, (∀ b o, s.heap.get? b = some o → h'.get? b = some o) → EP X pins σ Q (.str (twoText r z i) t) { s with heap := h', toks := tk } := fun h' t tk hk => ⟨.str _, H, I.kept hk, ⟨_, rfl⟩, q⟩
  obtain ⟨_, its, n, vl, hl⟩ := (show ObjOk X.prog X.w H s.heap p (.lst [.str r, .ref a]) from I.hok p _ hp)
  obtain ⟨_, hsys, vs, kv, o, es, ep, ho, hx, hd, _, hpair, _⟩ := dk_of I.hok ha
  -- the two items
  match its, vl with
  | [u1, u2], .cons r1 (.cons r2 .nil) =>
  obtain ⟨t1, rfl⟩ := r1
  obtain rfl : u2 = Value.ref a := r2
  -- the one entry
  match vs, kv with
  | [(k2, v2)], .cons ⟨ek, rv2⟩ .nil =>
  obtain ⟨t2, rfl⟩ := rv2
  have ek2 : k2 = Sum.inr z := ek.symm
  subst ek2
  have entry : ∃ e, es.toList = [e] ∧ (∃ t, e.key = .str z t) ∧ e.val = .int i t2 := by
    generalize es.toList = l at hpair ⊢
    cases hpair with
    | cons hk hv hn =>
      cases hn
      obtain ⟨t, et⟩ := Value.isStrOf_shape (x := z) hk
      exact ⟨_, rfl, ⟨t, et⟩, hv⟩
  obtain ⟨e, he, ⟨t3, hkey⟩, hval⟩ := entry
  have kz : ReprK X.prog X.w [] s.heap 0 e.key (reprText z) := by
    rw [hkey]
    exact .of_is (ReprIs.str z t3 (Nat.le_trans hz (by decide))) _ _ _
  have vz : ReprK X.prog X.w [] s.heap 0 e.val (Str.ofString (toString i)) := by
    rw [hval]
    exact .of_is (ReprIs.int t2 hi) _ _ _
  have hE : ReprEntriesK X.prog X.w [] s.heap 0 es.toList (List.zipWith (fun k v : Str => k ++ ": " ++ v) [reprText z] [Str.ofString (toString i)]) := by
    rw [he]
    exact ReprEntriesK.of_two [e] _ _ (.cons kz .nil) (.cons vz .nil)
  have dk : ReprK X.prog X.w [a] s.heap 1 (.ref a) (pairText z i) := ReprK.dict ho hx.1 hd hsys (by simp) hE
  have sk : ReprK X.prog X.w [a] s.heap 1 (.str r t1) (reprText r) := .of_is (ReprIs.str r t1 (Nat.le_trans hr (by decide))) _ _ _
  have npa : p ∉ [a] := by
    intro hm
    rw [List.mem_singleton.mp hm, ha] at hp
    cases hp
  refine call_repr_slot (T := "list") (by omega) ⟨_, hl, rfl⟩ F.slot_list_repr.toG ?_
  refine call_list_reprK (as := [a]) (d := 1) (ts := [reprText r, pairText z i]) hl rfl rfl npa rfl (fun j y hy => ?_) (A := X.A.in1) g0 (fun b _ => Clear.nil b) (by show X.A.units + 1 + 2 < cLine; omega) (fun _ _ z => z) (fun h' t tk hk => ⟨_, _, rfl, ends h' t tk hk⟩) hsz
  match j, hy with
  | 0, hy =>
    cases hy
    exact ⟨_, rfl, sk⟩
  | 1, hy =>
    cases hy
    exact ⟨_, rfl, dk⟩
  | j + 2, hy =>
    exact absurd hy (by simp)
end Mz
set_option Elab.async false
set_option linter.all false
set_option maxRecDepth 100000
set_option maxHeartbeats 4000000
namespace Mz
open PySem PySem.Spec PyProof.Rows L2
theorem pos_len {z : Str} (h : ¬ z = "") : 0 < z.length := Nat.pos_of_ne_zero fun x => h (str_empty x)
theorem int_fits {i : Int} (h0 : 0 ≤ i) (h1 : i < 12) : i.natAbs.log2 < 1920 := by
  have h : i.natAbs < 2 ^ 4 := by omega
  exact Nat.lt_trans (PySem.Flt.log2_lt_of (by decide) h) (by decide)
theorem sm_str12 {i : Int} (h0 : 0 ≤ i) (h1 : i < 12) : Sm 100 (Str.ofString (toString i)) := by
  obtain ⟨k, rfl⟩ := Int.eq_ofNat_of_zero_le h0
  have hk : k < 12 := by omega
  have all : ∀ k : Fin 12, Sm 100 (Str.ofString (toString ((k.val : Nat) : Int))) := by
    unfold Sm
    decide +kernel
  exact all ⟨k, hk⟩
/-- repr of data or of a text with a dict -/
def rReprU (K : PySem.W.Frag) : List V → Hp → VK → Prop := fun xs H Q => rReprD K xs H Q ∨ rRepr2 xs H Q
theorem call_reprU {X : Cx} (g0 : X.A.guards = some []) (hu : X.A.units + 64 < cLine) : CallR X (.builtin "repr") (rReprU X.K) := by
  intro pins s σ H xs us Q I r h
  rcases h with h | h
  · exact call_reprD g0 hu pins s σ H xs us Q I r h
  · exact call_repr2 g0 hu pins s σ H xs us Q I r h
theorem list2_len (a b : Str) : (listText [a, b]).length = a.length + b.length + 4 := by
  show ((("[" ++ ((if 0 > 0 then ", " else "" : String) : Str) ++ a) ++ ((if 1 > 0 then ", " else "" : String) : Str) ++ b) ++ "]" : Str).length = _
  rw [if_neg (by decide), if_pos (by decide)]
  simp only [strLen_append]
  have e1 : (("[" : String) : Str).length = 1 := by decide +kernel
  have e2 : (("" : String) : Str).length = 0 := by decide +kernel
  have e3 : ((", " : String) : Str).length = 2 := by decide +kernel
  have e4 : (("]" : String) : Str).length = 1 := by decide +kernel
  rw [e1, e2, e3, e4]
  omega
theorem list3_len (a b c : Str) : (listText [a, b, c]).length = a.length + b.length + c.length + 6 := by
  show (((("[" ++ ((if 0 > 0 then ", " else "" : String) : Str) ++ a) ++ ((if 1 > 0 then ", " else "" : String) : Str) ++ b) ++ ((if 2 > 0 then ", " else "" : String) : Str) ++ c) ++ "]" : Str).length = _
  rw [if_neg (by decide), if_pos (by decide), if_pos (by decide)]
  simp only [strLen_append]
  have e1 : (("[" : String) : Str).length = 1 := by decide +kernel
  have e2 : (("" : String) : Str).length = 0 := by decide +kernel
  have e3 : ((", " : String) : Str).length = 2 := by decide +kernel
  have e4 : (("]" : String) : Str).length = 1 := by decide +kernel
  rw [e1, e2, e3, e4]
  omega
theorem repr_len {z : Str} {n : Nat} (h : Sm n z) : (reprText z).length ≤ 10 * n + 2 := by
  have h1 := StrLaws.reprText_len z fun c hc => Nat.lt_trans (strOk_iff.mp h.2 c hc) (by decide)
  have h2 := h.1
  omega
theorem kshift_text {k : Int} (h0 : -3 ≤ k) (h1 : k ≤ 3) : (Str.ofString (toString k)).length ≤ 10 := by
  have all : ∀ i : Fin 7, (Str.ofString (toString (((i.val : Nat) : Int) - 3))).length ≤ 10 := by decide +kernel
  obtain ⟨i, hi⟩ := Int.eq_ofNat_of_zero_le (show 0 ≤ k + 3 by omega)
  have e : k = ((i : Nat) : Int) - 3 := by omega
  rw [e]
  exact all ⟨i, by omega⟩
section
variable {P : Program} {w : World} {K : PySem.W.Frag} {mg : Str → Option Value} {base : Heap}
/-- _law_take of the text -/
structure Tk (P : Program) (w : World) (K : PySem.W.Frag) (mg : Str → Option Value) (base : Heap) (f : Addr) (fd : FuncData) : Prop where
  ok : FnOk P w K mg base CX0 1 f fd ["_law_box_here", "_law_many"] spTake
  m : mg "_law_take" = some (.ref f)
  k : PySem.W.keepIn K (.ref f) = true
  b : Binds K fd ["_law_box_here", "_law_many"] []
end
theorem Bx.same {H H' : Hp} {b : Addr} {n : Nat} (s : Same H H') (h : Bx H b n) : Bx H' b n := by
  obtain ⟨x, y, z, e, r⟩ := h
  exact ⟨x, y, z, s _ _ e, r⟩
theorem Kp.same {H H' : Hp} {b : Addr} (s : Same H H') : Kp b H H' := fun p o _ e => s p o e
theorem ty_at {K : PySem.W.Frag} {H H' : Hp} {v : V} {t : Value} (s : ∀ a, v = .ref a → ∀ o, H a = some o → H' a = some o) (h : TyX K H v t) : TyX K H' v t := by
  cases h with
  | base b =>
    cases b with
    | non => exact .base .non
    | bl x => exact .base (.bl x)
    | int i => exact .base (.int i)
    | str x => exact .base (.str x)
    | flt x => exact .base (.flt x)
    | lst e => exact .base (.lst (s _ rfl _ e))
    | frz e => exact .base (.frz (s _ rfl _ e))
    | tup e => exact .base (.tup (s _ rfl _ e))
    | dK e => exact .base (.dK (s _ rfl _ e))
    | dT e => exact .base (.dT (s _ rfl _ e))
    | ins e cl ha hn htk hm => exact .base (.ins (s _ rfl _ e) cl ha hn htk hm)
  | byt b => exact .byt b
  | set e => exact .set (s _ rfl _ e)
  | kList e c => exact .kList e c
  | kTuple e c => exact .kTuple e c
  | kDict e c => exact .kDict e c
  | fTuple e => exact .fTuple (s _ rfl _ e)
  | fDict e => exact .fDict (s _ rfl _ e)
theorem Kd.at {K : PySem.W.Frag} {H H' : Hp} {v : V} (s : ∀ a, v = .ref a → ∀ o, H a = some o → H' a = some o) (h : Kd K H v) : Kd K H' v := by
  cases h with
  | int i => exact .int i
  | bl b => exact .bl b
  | str z h ok => exact .str z h ok
  | non => exact .non
  | oth a t ty ki ks => exact .oth a t (ty_at s ty) ki ks
/-- data that holds no object, or a list or tuple of such -/
inductive Flt : V → PyData → Prop
  | non : Flt .non .none
  | bl (b : Bool) : Flt (.bl b) (.bool b)
  | int (i : Int) : Flt (.int i) (.int i)
  | str (x : Str) : Flt (.str x) (.str x)
inductive FltAll : List V → List PyData → Prop
  | nil : FltAll [] []
  | cons {v : V} {d : PyData} {vs : List V} {ds : List PyData} : Flt v d → FltAll vs ds → FltAll (v :: vs) (d :: ds)
inductive Fl (H : Hp) : V → PyData → Prop
  | flat {v : V} {d : PyData} (h : Flt v d) : Fl H v d
  | lst {a : Addr} {xs : List V} {ds : List PyData} (h : H a = some (.lst xs)) (f : FltAll xs ds) : Fl H (.ref a) (.list ds)
  | tup {a : Addr} {xs : List V} {ds : List PyData} (h : H a = some (.tup xs)) (f : FltAll xs ds) : Fl H (.ref a) (.tuple ds)
theorem Flt.dp {K : PySem.W.Frag} {H : Hp} {v : V} {d : PyData} (h : Flt v d) : Dp K H v d := by
  cases h with
  | non => exact .non
  | bl b => exact .bl b
  | int i => exact .int i
  | str x => exact .str x
theorem FltAll.dp {K : PySem.W.Frag} {H : Hp} : ∀ {vs : List V} {ds : List PyData}, FltAll vs ds → DpAll K H vs ds
  | _, _, .nil => .nil
  | _, _, .cons h r => .cons h.dp r.dp
theorem Fl.dp {K : PySem.W.Frag} {H : Hp} {v : V} {d : PyData} (h : Fl H v d) : Dp K H v d := by
  cases h with
  | flat h => exact h.dp
  | lst h f => exact .lst (SqL.of h) f.dp
  | tup h f => exact .tup (SqT.of h) f.dp
theorem Fl.at {H H' : Hp} {v : V} {d : PyData} (s : ∀ a, v = .ref a → ∀ o, H a = some o → H' a = some o) (h : Fl H v d) : Fl H' v d := by
  cases h with
  | flat h => exact .flat h
  | lst h f => exact .lst (s _ rfl _ h) f
  | tup h f => exact .tup (s _ rfl _ h) f
/-- what can be shown -/
def Fit (d : PyData) : Prop := PyData.showable d = true ∧ PyData.hasDict d = false ∧ PyData.depth d < 50 ∧ (PyData.shown d).length ≤ 2000
/-- data that is no text -/
def Fb (K : PySem.W.Frag) (H : Hp) (v : V) : Prop := (∃ d, Fl H v d ∧ Fit d ∧ SeqAt.shaped d = true ∧ PyData.eqv d (.str "") = false) ∧ Kd K H v ∧ ∀ z, v ≠ .str z
/-- a base -/
def Bs (K : PySem.W.Frag) (C : Addr) (H : Hp) (v : V) : Prop := (∃ z, v = .str z ∧ Sm 100 z) ∨ Fb K H v ∨ ∃ a, v = .ref a ∧ Pl C H a "n" 0
/-- a shift -/
def Sv (K : PySem.W.Frag) (H : Hp) (v : V) : Prop := (∃ d, Fl H v d ∧ Fit d) ∧ Kd K H v
section
variable {K : PySem.W.Frag} {C : Addr} {H H' : Hp} {v : V}
theorem Fb.at (s : ∀ a, v = .ref a → ∀ o, H a = some o → H' a = some o) (h : Fb K H v) : Fb K H' v := by
  obtain ⟨⟨d, h1, h2⟩, h3, h4⟩ := h
  exact ⟨⟨d, h1.at s, h2⟩, h3.at s, h4⟩
theorem Bs.at (s : ∀ a, v = .ref a → ∀ o, H a = some o → H' a = some o) (h : Bs K C H v) : Bs K C H' v := by
  rcases h with h | h | ⟨a, rfl, dx, ha⟩
  · exact .inl h
  · exact .inr (.inl (h.at s))
  · exact .inr (.inr ⟨a, rfl, dx, s a rfl _ ha⟩)
theorem Sv.at (s : ∀ a, v = .ref a → ∀ o, H a = some o → H' a = some o) (h : Sv K H v) : Sv K H' v := by
  obtain ⟨⟨d, h1, h2⟩, h3⟩ := h
  exact ⟨⟨d, h1.at s, h2⟩, h3.at s⟩
theorem Bs.same (s : Same H H') (h : Bs K C H v) : Bs K C H' v := h.at fun a _ o e => s a o e
theorem Sv.same (s : Same H H') (h : Sv K H v) : Sv K H' v := h.at fun a _ o e => s a o e
theorem Bs.kp {b : Addr} (s : Kp b H H') (n : ∀ a, v = .ref a → a ≠ b) (h : Bs K C H v) : Bs K C H' v := h.at fun a e o ho => s a o (n a e) ho
theorem str_ext {a b : Str} (h : a.cps.toList = b.cps.toList) : a = b := by
  obtain ⟨x⟩ := a
  obtain ⟨y⟩ := b
  have e : x = y := Array.toList_inj.mp h
  rw [e]
theorem app_list (a b : Str) : (a ++ b).cps.toList = a.cps.toList ++ b.cps.toList := by
  show (a.cps ++ b.cps).toList = _
  rw [Array.toList_append]
theorem nil_list : ("" : Str).cps.toList = [] := by decide +kernel

def baseOk : V → Bool
  | .str z => decide (z = "") || nameS z
  | _ => false
end
/-- a value held against "" -/
def rNeU (K : PySem.W.Frag) (C : Addr) (sp : Sp) : R2 := fun x y H Q => rNe x y H Q ∨ rNeD K x y H Q ∨ ∃ a dx fs, x = .ref a ∧ H a = some (.ins C dx fs) ∧ Oth K C H y ∧ sp [.ref a, y] H (fun v H2 => ∃ b : Bool, v = .bl b ∧ Q (.bl (!b)) H2) E0
theorem op_neU {X : Cx} {k : Nat} {f C : Addr} {fd : FuncData} {ps : List Str} {sp : Sp} (F : FnOk X.prog X.w X.K X.mg X.base CX0 k f fd ps sp) (hr : Room (k + 1) X.A) (hb : Binds X.K fd ps []) (hs : PySem.W.findIn X.K (.ref C) "__eq__" = some (some (.ref f))) (hf : PySem.W.isFn X.K (.ref f) = true)
    (hn : PySem.W.findIn X.K (.ref C) "__ne__" = some (some (.builtin "object.__ne__"))) (hm : PySem.W.mroIn X.K C (.type "object") = some true) : OpR X (compareOp .NotEq) (rNeU X.K C sp) := by
  intro pins s σ H x y v u Q I rx ry h
  rcases h with h | h | h
  · exact op_ne pins s σ H x y v u Q I rx ry h
  · exact op_neD hr.units pins s σ H x y v u Q I rx ry h
  · exact op_neO F hr hb hs hf hn hm pins s σ H x y v u Q I rx ry h
section
variable {K : PySem.W.Frag} {C : Addr} {H : Hp} {v : V} {Q : VK}
theorem shaped_empty : SeqAt.shaped (.str "") = true := by decide +kernel
/-- what is no text is unlike "" -/
theorem Bs.ne (Y : Pty K C) (N : Npl K C) (h : Bs K C H v) : (∃ z, v = .str z ∧ Sm 100 z) ∨ ((∀ z, v ≠ .str z) ∧ ∀ Q : VK, Q (.bl true) H → rNeU K C (spEq K C) v (.str "") H Q) := by
  rcases h with h | ⟨⟨d, h1, h2, h3, h4⟩, h5, h6⟩ | ⟨a, rfl, pa⟩
  · exact .inl h
  · refine .inr ⟨h6, fun Q q => .inr (.inl ⟨d, .str "", h1.dp, .str "", h3, shaped_empty, ?_⟩)⟩
    rw [h4]
    exact q
  · obtain ⟨dx, ha⟩ := id pa
    exact .inr ⟨fun z e => (nomatch e), fun Q q => .inr (.inr ⟨a, dx, _, rfl, ha, ⟨_, .base (.str ""), by simp [PySem.W.notFirst]; rfl⟩, a, "n", 0, pa, .inr ⟨_, rfl, ⟨_, .base (.str ""), N.str⟩, false, rfl, q⟩⟩)⟩
theorem Bs.kd (Y : Pty K C) (ki : PySem.W.kitOne K (.ref C) (.type "int") = some false) (ks : PySem.W.kitOne K (.ref C) (.type "str") = some false) (h : Bs K C H v) : Kd K H v := by
  rcases h with ⟨z, rfl, h⟩ | ⟨_, h, _⟩ | ⟨a, rfl, pa⟩
  · exact .str z (Nat.le_trans h.1 (by decide)) h.2
  · exact h
  · exact .oth a _ (pa.ty Y) ki ks
end
end Mz
set_option Elab.async false
set_option linter.all false
set_option maxRecDepth 100000
set_option maxHeartbeats 4000000
namespace Mz
open PySem PySem.Spec PyProof.Rows L2
section
variable {P : Program} {w : World} {K : PySem.W.Frag} {mg : Str → Option Value} {base : Heap}
theorem scXinitI : FnScope ["self", "value"] ["self", "value"] (defScope (inClass sInvInt 0)) := ⟨rfl, rfl, rfl, by decide +kernel, rfl, by decide +kernel, by decide +kernel⟩
theorem ok_xinitI {f C cM : Addr} {fd : FuncData} (F : Fun K "__init__" "InvalidInteger.__init__" (inClass sInvInt 0) f fd) (T : Xcl K mg "InvalidInteger" C "value") (mM : mg "MapError" = some (.ref cM)) (rd : ClX.CRead K cM (.type "type"))
    (fc : PySem.W.findCls K (.ref cM) (.type "type") "__init__" = some (.val (.builtin "ValueError.__init__"))) : FnOk P w K mg base CX0 1 f fd ["self", "value"] (spX1 K C "value") := by
  refine F.ok scXinitI (fun vs H Q E h => ?_) (fun cdv A outer s H vs Q E hr h => ?_)
  · obtain ⟨a, v, rfl, _⟩ := h
    rfl
  · obtain ⟨a, v, rfl, ha, q⟩ := h
    refine ⟨_, pss_cons (ps_expr (pe_meinit (by rfl) mM rd fc (pa_cons (pv 0) (pa_cons pe_str pa_nil)))) (pss_one (ps_ost (pv 0) (pv 1))), ?_⟩
    refine ⟨_, rfl, a, C, _, rfl, (by show 1 ≤ 1000; decide), T.ox, ha, ?_⟩
    exact ⟨_, rfl, _, rfl, a, C, rfl, T.ox, T.no, .inl ⟨ha, fun dx n1 n2 => q dx n1 n2⟩⟩
theorem scXinitN : FnScope ["self", "value"] ["self", "value"] (defScope (inClass sInvName 0)) := ⟨rfl, rfl, rfl, by decide +kernel, rfl, by decide +kernel, by decide +kernel⟩
theorem ok_xinitN {f C cM : Addr} {fd : FuncData} (F : Fun K "__init__" "InvalidName.__init__" (inClass sInvName 0) f fd) (T : Xcl K mg "InvalidName" C "value") (mM : mg "MapError" = some (.ref cM)) (rd : ClX.CRead K cM (.type "type"))
    (fc : PySem.W.findCls K (.ref cM) (.type "type") "__init__" = some (.val (.builtin "ValueError.__init__"))) : FnOk P w K mg base CX0 1 f fd ["self", "value"] (spX1 K C "value") := by
  refine F.ok scXinitN (fun vs H Q E h => ?_) (fun cdv A outer s H vs Q E hr h => ?_)
  · obtain ⟨a, v, rfl, _⟩ := h
    rfl
  · obtain ⟨a, v, rfl, ha, q⟩ := h
    refine ⟨_, pss_cons (ps_expr (pe_meinit (by rfl) mM rd fc (pa_cons (pv 0) (pa_cons pe_str pa_nil)))) (pss_one (ps_ost (pv 0) (pv 1))), ?_⟩
    refine ⟨_, rfl, a, C, _, rfl, (by show 1 ≤ 1000; decide), T.ox, ha, ?_⟩
    exact ⟨_, rfl, _, rfl, a, C, rfl, T.ox, T.no, .inl ⟨ha, fun dx n1 n2 => q dx n1 n2⟩⟩
end
/-- a place that is made or refused -/
def spInitR (K : PySem.W.Frag) (C cN cI : Addr) : Sp := fun vs H Q E => ∃ (p dx : Addr) (b v : V), vs = [.ref p, b, v] ∧ H p = some (.ins C dx []) ∧ Bs K C H b ∧ Sv K H v ∧
  ((∃ z k, b = .str z ∧ v = .int k ∧ Good z k ∧ ∀ H', (∀ q o, q ≠ p → H q = some o → H' q = some o) → H' p = some (.ins C dx (plF z k)) → Q .non H') ∨
    (baseOk b = false ∧ ∀ d H', H d = none → Same H H' → H' d = some (.xd [("value", b)]) → E (.ref cN) (some d) H') ∨
    (∃ z, b = .str z ∧ baseOk b = true ∧ inB (lowS z) 3 v = false ∧ ∀ d H', H d = none → Same H H' → H' d = some (.xd [("value", v)]) → E (.ref cI) (some d) H'))
section
variable {P : Program} {w : World} {K : PySem.W.Frag} {mg : Str → Option Value} {base : Heap}
/-- an exception of one field made -/
theorem mko_x1 {K : PySem.W.Frag} {cE : Addr} {i : Nat} {u : V} {σ : L2.St} {H1 : Hp} {E : XK} (hi : σ[i]? = some (some u)) (q : ∀ d H', H1 d = none → Same H1 H' → H' d = some (.xd [("value", u)]) → E (.ref cE) (some d) H') : tMkO cE (spX1 K cE "value") [] (tCons (tVar i) tNil) σ H1 E := by
  refine ⟨_, hi, (by show 1 ≤ 1000; decide), fun a na => ⟨a, u, rfl, upd_same, fun dx n1 n2 => ⟨rfl, dx, [("value", u)], upd_same, ?_, ?_, ?_⟩⟩⟩
  · rw [upd_ne n2, upd_same]
  · rw [upd_ne n2] at n1
    exact n1
  · have n3 : H1 dx = none := by
      rw [upd_ne n2] at n1
      exact n1
    refine q dx _ n3 (fun b o hb => ?_) upd_same
    have x1 : b ≠ dx := ne_of_none hb n3
    have x2 : b ≠ a := ne_of_none hb na
    rw [upd_ne x1, del_ne x2, upd_ne x2, upd_ne x1, upd_ne x2]
    exact hb
theorem ok_initR {f f1 f2 f3 fE fN fI C cN cI : Addr} {fd fd1 fd2 fd3 fdE fdN fdI : FuncData} {t : Tok} {dvs : List V} {kws : List (Str × V)} {pa : Arguments} (F : FunD K "__init__" "Place.__init__" pa (defBody (inClass sPlace 0)) (defScope (inClass sPlace 0)) dvs kws f fd) (T : Cpl K mg C) (Y : Pty K C) (N : Npl K C)
    (ki : PySem.W.kitOne K (.ref C) (.type "int") = some false) (ks : PySem.W.kitOne K (.ref C) (.type "str") = some false)
    (G1 : FnOk P w K mg base CX0 1 f1 fd1 ["value"] (spIsName K)) (m1 : mg "is_name" = some (.ref f1)) (k1 : PySem.W.keepIn K (.ref f1) = true) (b1 : Binds K fd1 ["value"] [])
    (G2 : FnOk P w K mg base CX0 2 f2 fd2 ["value", "low", "high"] (spIsInt K)) (m2 : mg "is_integer" = some (.ref f2)) (k2 : PySem.W.keepIn K (.ref f2) = true) (b2 : Binds K fd2 ["value", "low", "high"] [])
    (G3 : FnOk P w K mg base CX0 1 f3 fd3 ["base"] spLeast) (m3 : mg "_least_shift" = some (.ref f3)) (k3 : PySem.W.keepIn K (.ref f3) = true) (b3 : Binds K fd3 ["base"] [])
    (mM : mg "_MOST" = some (.int 3 t))
    (GE : FnOk P w K mg base CX0 1 fE fdE ["self", "other"] (spEq K C)) (bE : Binds K fdE ["self", "other"] []) (iE : PySem.W.findIn K (.ref C) "__eq__" = some (some (.ref fE))) (jE : PySem.W.isFn K (.ref fE) = true) (hn : PySem.W.findIn K (.ref C) "__ne__" = some (some (.builtin "object.__ne__")))
    (TN : Xcl K mg "InvalidName" cN "value") (GN : FnOk P w K mg base CX0 1 fN fdN ["self", "value"] (spX1 K cN "value")) (iN : PySem.W.findIn K (.ref cN) "__init__" = some (some (.ref fN))) (tN : PySem.W.typeIn K (.ref fN) = some (.type "function")) (bN : Binds K fdN ["self", "value"] [])
    (TI : Xcl K mg "InvalidInteger" cI "value") (GI : FnOk P w K mg base CX0 1 fI fdI ["self", "value"] (spX1 K cI "value")) (iI : PySem.W.findIn K (.ref cI) "__init__" = some (some (.ref fI))) (tI : PySem.W.typeIn K (.ref fI) = some (.type "function")) (bI : Binds K fdI ["self", "value"] []) :
    FnOk P w K mg base (L2.CX P w) 3 f fd ["self", "base", "shift"] (spInitR K C cN cI) := by
  refine F.ok (CX := L2.CX P w) scInit (fun vs H Q E h => ?_) (fun cdv A outer s H vs Q E hr h => ?_)
  · obtain ⟨p, dx, b, v, rfl, _⟩ := h
    rfl
  · obtain ⟨p, dx, b, v, rfl, hp, hb, hv, h⟩ := h
    refine ⟨_, pss_cons (ps_if (PW.pt (pw_and (pt_cmpR (op_neU GE (hr.mono (by decide)) bE iE jE hn Y.hm) (pv 1) pe_str (nomark _)) (pw_and1 (pt_not (pt_val (pe_call G1 (hr.mono (by decide)) (by rfl) m1 k1 b1 .nil pass0 (pa_cons (pv 1) pa_nil)))))))
        (pss_one (ps_raise rfl (takes_of rfl rfl rfl rfl) (pmk_oex TN.ox iN tN GN (hr.mono (by decide)) bN .nil pass0 (by rfl) TN.m (pa_cons (pv 1) pa_nil)))) pss_nil)
      (pss_cons (ps_if (pt_not (pt_val (pe_call G2 hr (by rfl) m2 k2 b2 .nil pass0 (pa_cons (pv 2) (pa_cons (pe_call G3 (hr.mono (by decide)) (by rfl) m3 k3 b3 .nil pass0 (pa_cons (pv 1) pa_nil)) (pa_cons (pe_glob (v := .int 3) rfl mM ⟨_, rfl⟩) pa_nil))))))
        (pss_one (ps_raise rfl (takes_of rfl rfl rfl rfl) (pmk_oex TI.ox iI tI GI (hr.mono (by decide)) bI .nil pass0 (by rfl) TI.m (pa_cons (pv 2) pa_nil)))) pss_nil)
      (pss_cons (ps_fld (pv 0) (pv 1) rfl) (pss_one (ps_fld (pv 0) (pv 2) rfl)))), ?_⟩
    generalize hT : tSeq (tIfS (tNot _) _ _) (tSeq (sFld _ _ _ _) (sFld _ _ _ _)) = T2
    have rest : ∀ z, b = .str z → baseOk b = true → ∀ H1, Same H H1 → T2 { nx := fun _ H' => Q .non H', rt := Q } (start ["self", "base", "shift"] [V.ref p, b, v]) H1 := by
      intro z ez ok H1 sm
      subst ez
      rw [← hT]
      have hp1 := sm _ _ hp
      have kv := (hv.same sm).2
      refine ⟨_, rfl, _, rfl, z, rfl, v, lowS z, 3, rfl, kv, _, rfl, ?_⟩
      rcases h with ⟨z2, k, e1, e2, g, q⟩ | ⟨e1, _⟩ | ⟨z2, e1, _, e2, q⟩
      · cases e1
        cases e2
        have e : inB (lowS z) 3 (.int k) = true := by
          show (decide (lowS z ≤ k) && decide (k ≤ 3)) = true
          rw [decide_eq_true g.2.2.2.1, decide_eq_true g.2.2.2.2]
          rfl
        rw [e]
        refine iteF ⟨_, rfl, _, rfl, p, C, dx, [], rfl, hp1, T.cl, T.nB, (by show 0 < 1000; decide), _, rfl, _, rfl, p, C, dx, _, rfl, upd_same, T.cl, T.nS, (by show 1 < 1000; decide), ?_⟩
        rw [upd_upd]
        refine q _ (fun r o nr hro => ?_) upd_same
        rw [upd_ne nr]
        exact sm _ _ hro
      · rw [ok] at e1
        cases e1
      · cases e1
        rw [e2]
        exact iteT (mko_x1 rfl fun d H' nd s2 hd => q d H' (sm.free nd) (sm.trans s2) hd)
    have refuse : baseOk b = false → ∀ H1, Same H H1 → tMkO cN (spX1 K cN "value") [] (tCons (tVar 1) tNil) (start ["self", "base", "shift"] [V.ref p, b, v]) H1 E := by
      intro e1 H1 sm
      rcases h with ⟨z, k, rfl, _, g, _⟩ | ⟨_, q⟩ | ⟨z, rfl, e2, _⟩
      · exfalso
        have : (decide (z = "") || nameS z) = true := by
          rcases g.2.2.1 with e | e
          · rw [decide_eq_true e, Bool.true_or]
          · rw [e, Bool.or_true]
        rw [show baseOk (.str z) = (decide (z = "") || nameS z) from rfl, this] at e1
        cases e1
      · exact mko_x1 rfl fun d H' nd s2 hd => q d H' (sm.free nd) (sm.trans s2) hd
      · rw [e1] at e2
        cases e2
    have kb := hb.kd Y ki ks
    rcases hb.ne Y N with ⟨z, rfl, hz⟩ | ⟨nt, hq⟩
    · refine ⟨_, rfl, .inl ⟨rfl, _, rfl, ?_⟩⟩
      by_cases e0 : z = ""
      · rw [decide_eq_true (show V.str z = V.str "" by rw [e0])]
        exact iteF (iteF (rest z rfl (by show (decide (z = "") || nameS z) = true; rw [decide_eq_true e0, Bool.true_or]) H (Same.refl H)))
      · rw [decide_eq_false (show ¬ V.str z = V.str "" from fun x => e0 (V.str.inj x))]
        refine iteT ⟨_, rfl, .str z, rfl, kb, fun H1 s1 => ⟨_, rfl, ?_⟩⟩
        have eb : baseOk (.str z) = nameV (.str z) := by
          show (decide (z = "") || nameS z) = _
          rw [decide_eq_false e0, Bool.false_or]
          rfl
        cases hnm : nameV (.str z) with
        | true => exact iteF (rest z rfl (eb.trans hnm) H1 s1)
        | false => exact iteT (refuse (eb.trans hnm) H1 s1)
    · refine ⟨_, rfl, hq _ ⟨_, rfl, ?_⟩⟩
      refine iteT ⟨_, rfl, b, rfl, kb, fun H1 s1 => ⟨_, rfl, ?_⟩⟩
      have eb : nameV b = false ∧ baseOk b = false := by
        cases b with
        | str z => exact (nt z rfl).elim
        | _ => exact ⟨rfl, rfl⟩
      rw [eb.1]
      exact iteT (refuse eb.2 H1 s1)
end
end Mz
set_option Elab.async false
set_option linter.all false
set_option maxRecDepth 100000
set_option maxHeartbeats 4000000
namespace Mz
open PySem PySem.Spec PyProof.Rows L2
/-! what the law draws: bases and shifts -/
def spBase3 (K : PySem.W.Frag) (C : Addr) : Sp := fun vs H Q _ => ∃ (b : Addr) (n : Nat), vs = [.ref b] ∧ Bx H b n ∧ n ≤ 900000 ∧ ∀ (v : V) (H' : Hp), Bs K C H' v → (∀ a, v = .ref a → a ≠ b) → Bx H' b (n + 12) → Kp b H H' → Q v H'
def sh11 : List V := (List.range 11).map fun k : Nat => V.int ((k : Int) - 5)
def spShifts (K : PySem.W.Frag) : Sp := fun vs H Q _ => ∃ (b : Addr) (n : Nat), vs = [.ref b] ∧ Bx H b n ∧ n ≤ 900000 ∧ ∀ (p : Addr) (o : V) (H' : Hp), Sv K H' o → H p = none → H' p = some (.lst (sh11 ++ [o])) → (∀ a, o = .ref a → H a = none) → Bx H' b (n + 1) → Kp b H H' → Q (.ref p) H'
theorem list1_len (a : Str) : (listText [a]).length = a.length + 2 := by
  show ((("[" ++ ((if 0 > 0 then ", " else "" : String) : Str) ++ a)) ++ "]" : Str).length = _
  rw [if_neg (by decide)]
  simp only [strLen_append]
  have e1 : (("[" : String) : Str).length = 1 := by decide +kernel
  have e2 : (("" : String) : Str).length = 0 := by decide +kernel
  have e4 : (("]" : String) : Str).length = 1 := by decide +kernel
  rw [e1, e2, e4]
  omega
section
variable {K : PySem.W.Frag} {C : Addr} {H : Hp} {p : Addr} {z : Str}
theorem fb_non : Fb K H .non := ⟨⟨.none, .flat .non, ⟨rfl, rfl, by simp [PyData.depth], by simp only [PyData.shown]; decide +kernel⟩, by decide +kernel, rfl⟩, .non, fun z e => nomatch e⟩
theorem fb_bl {b : Bool} : Fb K H (.bl b) := ⟨⟨.bool b, .flat (.bl b), ⟨rfl, rfl, by simp [PyData.depth], by cases b <;> simp only [PyData.shown] <;> decide +kernel⟩, by cases b <;> decide +kernel, rfl⟩, .bl b, fun z e => nomatch e⟩
theorem fb_int {i : Int} (h0 : 0 ≤ i) (h1 : i < 12) : Fb K H (.int i) := by
  refine ⟨⟨.int i, .flat (.int i), ⟨by simpa [PyData.showable] using int_fits h0 h1, rfl, by simp [PyData.depth], ?_⟩, ?_, rfl⟩, .int i, fun z e => nomatch e⟩
  · have h := (sm_str12 h0 h1).1
    simpa [PyData.shown] using Nat.le_trans h (show 100 ≤ 2000 by decide)
  · unfold SeqAt.shaped
    simp [PyData.canLay0, PyData.depth]
theorem fb_lst (h : H p = some (.lst [.str z])) (hz : Sm 20 z) : Fb K H (.ref p) := by
  refine ⟨⟨.list [.str z], .lst h (.cons (.str z) .nil), ⟨by simp [PyData.showable, PyData.showableAll], by simp [PyData.hasDict, PyData.hasDictAll], by simp [PyData.depth, PyData.depthAll], ?_⟩, shaped_strs [z] (fun y hy => by rw [List.mem_singleton.mp hy]; exact hz.2), rfl⟩,
    .oth p _ (.base (.lst h)) (kit_ty (by decide +kernel)) (kit_ty (by decide +kernel)), fun z e => nomatch e⟩
  have e : PyData.shown (.list [.str z]) = listText [reprText z] := by simp [PyData.shown, PyData.shownAll]
  rw [e, list1_len]
  have := repr_len hz
  omega
theorem fb_tup (h : H p = some (.tup [.str z])) (hz : Sm 20 z) : Fb K H (.ref p) := by
  refine ⟨⟨.tuple [.str z], .tup h (.cons (.str z) .nil), ⟨by simp [PyData.showable, PyData.showableAll], by simp [PyData.hasDict, PyData.hasDictAll], by simp [PyData.depth, PyData.depthAll], ?_⟩, ?_, rfl⟩,
    .oth p _ (.base (.tup h)) (kit_ty (by decide +kernel)) (kit_ty (by decide +kernel)), fun z e => nomatch e⟩
  · have e : PyData.shown (.tuple [.str z]) = tupleText [reprText z] := by simp [PyData.shown, PyData.shownAll]
    rw [e]
    have := repr_len hz
    have e2 : (tupleText [reprText z]).length = (reprText z).length + 3 := by
      have e3 : tupleText [reprText z] = (("(" : String) : Str) ++ reprText z ++ ((",)" : String) : Str) := rfl
      rw [e3, strLen_append, strLen_append]
      have e1 : (("(" : String) : Str).length = 1 := by decide +kernel
      have e4 : ((",)" : String) : Str).length = 2 := by decide +kernel
      rw [e1, e4]
      omega
    omega
  · unfold SeqAt.shaped
    have := hz.2
    simp [PyData.canLay0, PyData.canLayAll0, PyData.depth, PyData.depthAll, this]
theorem Fb.sv {v : V} (h : Fb K H v) : Sv K H v := by
  obtain ⟨⟨d, h1, h2, _⟩, h3, _⟩ := h
  exact ⟨⟨d, h1, h2⟩, h3⟩
theorem sv_int {i : Int} (h : i.natAbs.log2 < 1920) (hl : (Str.ofString (toString i)).length ≤ 2000) : Sv K H (.int i) :=
  ⟨⟨.int i, .flat (.int i), by simpa [PyData.showable] using h, rfl, by simp [PyData.depth], by simpa [PyData.shown] using hl⟩, .int i⟩
theorem sv_nil (h : H p = some (.lst [])) : Sv K H (.ref p) :=
  ⟨⟨.list [], .lst h .nil, by simp [PyData.showable, PyData.showableAll], by simp [PyData.hasDict, PyData.hasDictAll], by simp [PyData.depth, PyData.depthAll], by simp only [PyData.shown, PyData.shownAll]; decide +kernel⟩, .oth p _ (.base (.lst h)) (kit_ty (by decide +kernel)) (kit_ty (by decide +kernel))⟩
theorem sv_str (h : Sm 100 z) : Sv K H (.str z) := by
  refine ⟨⟨.str z, .flat (.str z), rfl, rfl, by simp [PyData.depth], ?_⟩, .str z (Nat.le_trans h.1 (by decide)) h.2⟩
  have e : PyData.shown (.str z) = reprText z := by simp [PyData.shown]
  rw [e]
  exact Nat.le_trans (repr_len h) (by decide)
end
section
variable {P : Program} {w : World} {K : PySem.W.Frag} {mg : Str → Option Value} {base : Heap}
theorem scNDue : FnScope ["_law_thing", "_law_sign"] ["_law_thing"] (defScope sNameDue) := ⟨rfl, rfl, rfl, by decide +kernel, rfl, by decide +kernel, by decide +kernel⟩
theorem ok_ndue {f : Addr} {fd : FuncData} (F : Fun K "_law_name_due" "_law_name_due" sNameDue f fd) (B : Blt mg) (D : Blp mg) : FnOk P w K mg base CX0 1 f fd ["_law_thing"] (spIsName K) := by
  refine F.ok scNDue (fun vs H Q E h => ?_) (fun cdv A outer s H vs Q E hr h => ?_)
  · obtain ⟨v, rfl, _⟩ := h
    rfl
  · obtain ⟨v, rfl, hk, q⟩ := h
    have nd := scNDue.nd
    refine ⟨_, pss_cons (ps_if (PW.pt (pw_or (pt_not (pt_val (pe_callB call_isi (by rfl) D.isi (by decide +kernel) (pa_cons (pv 0) (pa_cons (pe_bltn (v := .ty "str") (by rfl) D.str (by decide +kernel) rfl) pa_nil)))))
        (pw_or1 (pt_not (pt_chain op_le op_le pe_int (pe_callB call_len_str (by rfl) B.len PySem.boot_len (pa_cons (pv 0) pa_nil)) pe_int))))) (pss_one (ps_ret pe_bl)) pss_nil)
      (pss_one (ps_ret (pe_cmpR (op_eqD hr.units) (pe_lc (own := [("_law_sign", 1)]) (g := gName 1) rfl nd (pi_str (pv 0)) (blkOk_by (N := ["_law_thing", "_law_sign"]) (sc := defScope sNameDue) (by decide +kernel))
        (fun _ _ _ _ _ => pg_name (i := 1) nd rfl (Or.inl rfl)) (fun _ _ _ _ _ => pts_one (pt_not (pt_chain op_le_str op_le_str pe_str (pv 1) pe_str))) (fun _ _ _ _ _ => pv 1)) (pe_lst pa_nil) (nomark _)))), ?_⟩
    refine ⟨_, rfl, ?_⟩
    have no : ∀ {v : V}, nameV v = false → (∀ H', Same H H' → Q (.bl (nameV v)) H') → Q (.bl false) H := fun e q => by
      rw [← e]
      exact q _ fun _ _ z => z
    cases hk with
    | int i => exact ⟨_, _, _, _, false, rfl, .ty _, .base (.int i), kit_ty (by decide +kernel), false, rfl, iteT (iteT (no rfl q))⟩
    | bl b => exact ⟨_, _, _, _, false, rfl, .ty _, .base (.bl b), kit_ty (by decide +kernel), false, rfl, iteT (iteT (no rfl q))⟩
    | non => exact ⟨_, _, _, _, false, rfl, .ty _, .base .non, kit_ty (by decide +kernel), false, rfl, iteT (iteT (no rfl q))⟩
    | oth a t ty ki ks => exact ⟨_, _, _, _, false, rfl, .ty _, ty, ks, false, rfl, iteT (iteT (no rfl q))⟩
    | str z hz ok =>
      refine ⟨_, _, _, _, true, rfl, .ty _, .base (.str z), kit_ty (by decide +kernel), true, rfl, iteF ?_⟩
      have zl : z.length ≤ sizeLine := Nat.le_trans hz (by decide)
      refine ⟨_, rfl, _, rfl, zl, _, _, rfl, rfl, _, rfl, ite2 (fun h1 => ?_) (fun h1 => ?_)⟩
      · refine ⟨_, _, rfl, rfl, _, rfl, ?_⟩
        cases h6 : decide ((z.length : Int) ≤ 6) with
        | false =>
          refine iteT ?_
          have e : nameV (.str z) = false := by
            show ((decide (1 ≤ (z.length : Int)) && decide ((z.length : Int) ≤ 6)) && z.cps.toList.all fun c => decide (c ∈ abc.cps.toList)) = false
            rw [h6, Bool.and_false, Bool.false_and]
          exact no e q
        | true =>
          refine iteF ?_
          refine ⟨_, rfl, z, rfl, fun p np => lc_it walk_str (fun i H' => H' = upd H p (.lst (((z.cps.toList.take i).filter fun c => !(loC c && hiC c)).map fun c => V.str ⟨#[c]⟩))) rfl (fun _ _ _ _ => trivial) ?_ ?_⟩
          · rintro i x H0 H' hi rfl ⟨rfl, c, hc, rfl⟩
            have hc2 : z.cps.toList[i]? = some c := by
              rw [Array.getElem?_toList]
              exact hc
            have len : (((z.cps.toList.take i).filter fun c => !(loC c && hiC c)).map fun c => V.str ⟨#[c]⟩).length < sizeLine := by
              rw [List.length_map]
              refine Nat.lt_of_le_of_lt (List.length_filter_le _ _) ?_
              rw [List.length_take]
              exact Nat.lt_of_le_of_lt (Nat.min_le_left _ _) (Nat.lt_of_lt_of_le hi zl)
            have put : (loC c && hiC c) = false → upd (upd H p (.lst (((z.cps.toList.take i).filter fun c => !(loC c && hiC c)).map fun c => V.str ⟨#[c]⟩))) p (.lst ((((z.cps.toList.take i).filter fun c => !(loC c && hiC c)).map fun c => V.str ⟨#[c]⟩) ++ [V.str ⟨#[c]⟩])) =
                upd H p (.lst (((z.cps.toList.take (i + 1)).filter fun c => !(loC c && hiC c)).map fun c => V.str ⟨#[c]⟩)) := fun e => by
              rw [upd_upd, List.take_succ, hc2, List.filter_append, List.map_append]
              show _ = upd H p (.lst (_ ++ List.map _ (List.filter _ [c])))
              rw [List.filter_cons_of_pos (by rw [e]; rfl)]
              rfl
            have skip : (loC c && hiC c) = true → upd H p (.lst (((z.cps.toList.take i).filter fun c => !(loC c && hiC c)).map fun c => V.str ⟨#[c]⟩)) =
                upd H p (.lst (((z.cps.toList.take (i + 1)).filter fun c => !(loC c && hiC c)).map fun c => V.str ⟨#[c]⟩)) := fun e => by
              rw [List.take_succ, hc2, List.filter_append, List.map_append]
              show _ = upd H p (.lst (_ ++ List.map _ (List.filter _ [c])))
              rw [List.filter_cons_of_neg (by rw [e]; decide)]
              show _ = upd H p (.lst (_ ++ []))
              rw [List.append_nil]
            refine ⟨rfl, _, rfl, _, _, rfl, rfl, loC c, rfl, ite2 (fun ht => ?_) (fun hf => ?_)⟩
            · refine ⟨_, _, rfl, rfl, hiC c, rfl, ?_⟩
              cases hh : hiC c with
              | true => exact iteF (skip (by rw [ht, hh]; rfl))
              | false => exact iteT ⟨_, rfl, _, upd_same, len, put (by rw [hh, Bool.and_false])⟩
            · exact ⟨_, rfl, iteT ⟨_, rfl, _, upd_same, len, put (by rw [Bool.eq_false_iff.mpr hf, Bool.false_and])⟩⟩
          · rintro H' rfl
            have sz : z.cps.toList.take z.cps.size = z.cps.toList := by
              rw [← Array.length_toList, List.take_length]
            rw [sz]
            refine ⟨Nat.zero_le _, fun r nr => ?_⟩
            have nrp : r ≠ p := fun x => by
              rw [x, upd_same] at nr
              cases nr
            have nr0 : H r = none := by
              rw [upd_ne nrp] at nr
              exact nr
            have em : ((z.cps.toList.filter fun c => !(loC c && hiC c)).map fun c => V.str ⟨#[c]⟩) = ((z.cps.toList.filter fun c => !(loC c && hiC c)).map fun c => (⟨#[c]⟩ : Str)).map V.str := by
              rw [List.map_map]
              rfl
            rw [em] at nr ⊢
            refine ⟨_, .list [], .lst (SqL.of (by rw [upd_ne nrp.symm]; exact upd_same)) (dp_strs _), .lst (SqL.of upd_same) .nil, shaped_strs _ ?_, rfl, ?_⟩
            · intro y hy
              obtain ⟨c, hc, rfl⟩ := List.mem_map.mp hy
              exact sign_ok ok (List.mem_filter.mp hc).1
            rw [eqv_nil]
            have e : nameV (.str z) = (((z.cps.toList.filter fun c => !(loC c && hiC c)).map fun c => (⟨#[c]⟩ : Str)).map PyData.str).isEmpty := by
              show ((decide (1 ≤ (z.length : Int)) && decide ((z.length : Int) ≤ 6)) && z.cps.toList.all fun c => decide (c ∈ abc.cps.toList)) = _
              rw [h1, h6, List.map_map, Bool.true_and, Bool.true_and]
              generalize z.cps.toList = l
              induction l with
              | nil => rfl
              | cons c l ih =>
                rw [List.all_cons, List.filter_cons, ← letter_eq c]
                cases hb : loC c && hiC c with
                | true => exact ih
                | false => rfl
            rw [← e]
            refine q _ fun b o x => ?_
            rw [upd_ne (ne_of_none x nr0), upd_ne (ne_of_none x np)]
            exact x
      · have e : nameV (.str z) = false := by
          show ((decide (1 ≤ (z.length : Int)) && decide ((z.length : Int) ≤ 6)) && z.cps.toList.all fun c => decide (c ∈ abc.cps.toList)) = false
          rw [Bool.eq_false_iff.mpr h1, Bool.false_and, Bool.false_and]
        exact ⟨_, rfl, iteT (no e q)⟩
end
end Mz
set_option Elab.async false
set_option linter.all false
set_option maxRecDepth 100000
set_option maxHeartbeats 4000000
namespace Mz
open PySem PySem.Spec PyProof.Rows L2
section
variable {P : Program} {w : World} {K : PySem.W.Frag} {mg : Str → Option Value} {base : Heap}
theorem scBase3 : FnScope ["_law_box_here", "_law_letters", "_law_word", "_law_some", "_law_k"] ["_law_box_here"] (defScope sBase3) := ⟨rfl, rfl, rfl, by decide +kernel, rfl, by decide +kernel, by decide +kernel⟩
theorem ok_base3 {f f1 fI C : Addr} {fd fd1 fdI : FuncData} {ds : List Value} (F : Fun K "_law_base" "_law_base" sBase3 f fd) (T : Tk P w K mg base f1 fd1) (B : Blt mg) (M : Mk K C fI) (Z : Cpl K mg C)
    (GI : FnOk P w K mg base CX0 3 fI fdI ["self", "base", "shift"] (spInit C)) (hds : Vals [.int 0] ds) (bI : Binds K fdI ["self", "base", "shift"] ds) : FnOk P w K mg base CX0 5 f fd ["_law_box_here"] (spBase3 K C) := by
  refine F.ok scBase3 (fun vs H Q E h => ?_) (fun cdv A outer s H vs Q E hr4 h => ?_)
  · obtain ⟨b, n, rfl, _⟩ := h
    rfl
  · obtain ⟨b, n, rfl, hB, hn, q⟩ := h
    have nd := scBase3.nd
    have hr : Room 1 _ := hr4.mono (by decide)
    refine ⟨_, pss_cons (ps_set (i := 1) nd rfl (Or.inr rfl) pe_str)
      (pss_cons (ps_set (i := 2) nd rfl (Or.inl rfl) (pe_join pe_str (pe_lc (own := [("_law_k", 4)]) (g := gName 4) (tt := tYes) rfl nd
          (pi_range1 rfl B.range (pa_cons (pe_op op_add pe_int (pe_call T.ok hr (by rfl) T.m T.k T.b .nil pass0 (pa_cons (pv 0) (pa_cons pe_int pa_nil)))) pa_nil)) (blkOk_by (N := ["_law_box_here", "_law_letters", "_law_word", "_law_some", "_law_k"]) (sc := defScope sBase3) (by decide +kernel))
          (fun _ _ _ _ _ => pg_name (i := 4) nd rfl (Or.inl rfl)) (fun _ _ _ _ _ => pts_nil) (fun _ _ _ _ _ => pe_ix ix_str (pv 1) (pe_call T.ok hr (by rfl) T.m T.k T.b .nil pass0 (pa_cons (pv 0) (pa_cons pe_int pa_nil))) (fun _ _ => rfl)))))
      (pss_cons (ps_if (pt_cmpR op_eq (pe_call T.ok hr (by rfl) T.m T.k T.b .nil pass0 (pa_cons (pv 0) (pa_cons pe_int pa_nil))) pe_int (nomark _)) (pss_one (ps_set (i := 2) nd rfl (Or.inl rfl) (pe_ix ix_list (pe_lst (pa_cons pe_str (pa_cons pe_str (pa_cons pe_str (pa_cons pe_str (pa_cons pe_str (pa_cons pe_str (pa_cons pe_str pa_nil)))))))) (pe_call T.ok hr (by rfl) T.m T.k T.b .nil pass0 (pa_cons (pv 0) (pa_cons pe_int pa_nil))) (fun _ _ => rfl)))) pss_nil)
      (pss_cons (ps_set (i := 3) nd rfl (Or.inl rfl) (pe_lst (pa_cons pe_str (pa_cons (pv 2) (pa_cons (pv 2) (pa_cons (pe_op op_add_str (pv 2) pe_str) (pa_cons pe_str (pa_cons pe_str (pa_cons pe_non (pa_cons pe_int (pa_cons pe_bl (pa_cons (pe_lst (pa_cons (pv 2) pa_nil)) (pa_cons (pe_tup (pa_cons (pv 2) pa_nil))
          (pa_cons (pe_make M GI hr4 (by rfl) Z.mgC bI hds pass0 (pa_cons pe_str pa_nil)) pa_nil))))))))))))))
      (pss_one (ps_ret (pe_ix ix_list (pe_op op_cat (pv 3) (pe_lst (pa_cons (pv 2) (pa_cons (pe_op op_add_str (pv 2) pe_str) (pa_cons pe_str (pa_cons (pe_op op_add_str (pv 2) pe_str) (pa_cons pe_int pa_nil))))))) (pe_call T.ok hr (by rfl) T.m T.k T.b .nil pass0 (pa_cons (pv 0) (pa_cons pe_int pa_nil))) (fun _ _ => rfl))))))), ?_⟩
    have one : ∀ {H1 : Hp} {p : Addr} (o : HO), H1 p = none → ∃ H2, H2 = upd H1 p o ∧ Same H1 H2 ∧ H2 p = some o := fun o n => ⟨_, rfl, same_nw n, upd_same⟩
    have off : ∀ {G : Hp} {p : Addr} {m : Nat}, Bx G b m → G p = none → p ≠ b := fun hb hp => by
      obtain ⟨_, _, _, e, _⟩ := hb
      exact (ne_of_none e hp).symm
    generalize hT4 : tSeq (tAsg (tLst _) (gName 3)) _ = T4
    have rest4 : ∀ (z : Str) (H1 : Hp), Sm 10 z → Bx H1 b (n + 10) → Kp b H H1 → T4 { nx := fun _ H' => Q .non H', rt := Q } [some (.ref b), some (.str abc), some (.str z), none, none] H1 := by
      intro z H1 hz B1 K1
      rw [← hT4]
      have zl : ∀ y : Str, Sm 3 y → z.length + y.length ≤ sizeLine := fun y hy => Nat.le_trans (Nat.add_le_add hz.1 hy.1) (by decide)
      have tA : Sm 3 ("A" : Str) := by unfold Sm; decide +kernel
      have t1 : Sm 3 ("+1" : Str) := by unfold Sm; decide +kernel
      have tn : Sm 3 ("\n" : Str) := by unfold Sm; decide +kernel
      refine ⟨_, rfl, _, rfl, _, rfl, z, "A", rfl, rfl, zl _ tA, _, rfl, (by show 1 ≤ sizeLine; decide), fun p1 n1 => ?_⟩
      obtain ⟨H2, e, s2, tt1⟩ := one (.lst [V.str z]) n1
      rw [← e]
      clear e
      refine ⟨_, rfl, (by show 1 ≤ sizeLine; decide), fun p2 n2 => ?_⟩
      obtain ⟨H3, e, s3, tt2⟩ := one (.tup [V.str z]) n2
      rw [← e]
      clear e
      refine fun x1 d1 nx1 nd1 _ => ?_
      refine ⟨x1, d1, "n", 0, rfl, upd_same, by decide +kernel, by decide +kernel, .inr (by decide +kernel), by decide +kernel, by decide, fun H4 u4 t4 => ⟨rfl, ?_⟩⟩
      have s4 : Same H3 H4 := fun r o h => u4 r o (ne_of_none h nx1) (by
        rw [upd_ne (ne_of_none h nx1), upd_ne (ne_of_none h nd1)]
        exact h)
      refine ⟨(by show 12 ≤ sizeLine; decide), fun p5 n5 => ?_⟩
      obtain ⟨H5, e, s5, tt5⟩ := one (.lst [V.str "", V.str z, V.str z, V.str (z ++ "A"), V.str "abcdefg", V.str " ", V.non, V.int 7, V.bl true, V.ref p1, V.ref p2, V.ref x1]) n5
      rw [← e]
      clear e
      refine ⟨_, rfl, _, rfl, _, rfl, z, "+1", rfl, rfl, zl _ t1, _, rfl, z, "\n", rfl, rfl, zl _ tn, (by show 5 ≤ sizeLine; decide), fun p6 n6 => ?_⟩
      obtain ⟨H6, e, s6, tt6⟩ := one (.lst [V.str z, V.str (z ++ "+1"), V.str "3", V.str (z ++ "\n"), V.int 0]) n6
      rw [← e]
      clear e
      refine ⟨_, _, _, _, rfl, rfl, s6 _ _ tt5, tt6, (by show 17 ≤ sizeLine; decide), fun p7 n7 => ?_⟩
      obtain ⟨H7, e, s7, tt7⟩ := one (.lst ([V.str "", V.str z, V.str z, V.str (z ++ "A"), V.str "abcdefg", V.str " ", V.non, V.int 7, V.bl true, V.ref p1, V.ref p2, V.ref x1] ++ [V.str z, V.str (z ++ "+1"), V.str "3", V.str (z ++ "\n"), V.int 0])) n7
      rw [← e]
      clear e
      have B2 := B1.same s2
      have B3 := B2.same s3
      have B4 := B3.same s4
      have B5 := B4.same s5
      have B6 := B5.same s6
      have B7 := B6.same s7
      have s47 := s5.trans (s6.trans s7)
      have s37 := s4.trans s47
      have s27 := s3.trans s37
      have s17 := s2.trans s27
      refine ⟨_, rfl, b, n + 10, 17, rfl, B7, by omega, by decide, by decide, fun r H8 r0 r1 B8 K8 => ?_⟩
      obtain ⟨v, hv, hm⟩ := atI_in (l := [V.str "", V.str z, V.str z, V.str (z ++ "A"), V.str "abcdefg", V.str " ", V.non, V.int 7, V.bl true, V.ref p1, V.ref p2, V.ref x1] ++ [V.str z, V.str (z ++ "+1"), V.str "3", V.str (z ++ "\n"), V.int 0]) r0 r1
      refine ⟨p7, _, _, _, rfl, rfl, SqL.of (K8 _ _ (off B6 n7) tt7), hv, ?_⟩
      have k1 : H8 p1 = some (.lst [V.str z]) := K8 _ _ (off B1 n1) (s27 _ _ tt1)
      have k2 : H8 p2 = some (.tup [V.str z]) := K8 _ _ (off B2 n2) (s37 _ _ tt2)
      have kx : H8 x1 = some (.ins C d1 (plF "n" 0)) := K8 _ _ (off B3 nx1) (s47 _ _ t4)
      have big : Kp b H H8 := K1.trans ((Kp.same s17).trans K8)
      have zm : Sm 20 z := hz.mono (by decide)
      simp only [List.mem_append, List.mem_cons, List.not_mem_nil, or_false] at hm
      have txt : ∀ y : Str, Sm 100 y → Q (.str y) H8 := fun y hy => q _ H8 (.inl ⟨y, rfl, hy⟩) (fun a e => nomatch e) (B8.more (by omega)) big
      rcases hm with (rfl | rfl | rfl | rfl | rfl | rfl | rfl | rfl | rfl | rfl | rfl | rfl) | (rfl | rfl | rfl | rfl | rfl)
      · exact txt _ (by unfold Sm; decide +kernel)
      · exact txt _ (hz.mono (by decide))
      · exact txt _ (hz.mono (by decide))
      · exact txt _ ((hz.app tA).mono (by decide))
      · exact txt _ (by unfold Sm; decide +kernel)
      · exact txt _ (by unfold Sm; decide +kernel)
      · exact q _ H8 (.inr (.inl fb_non)) (fun a e => nomatch e) (B8.more (by omega)) big
      · exact q _ H8 (.inr (.inl (fb_int (by decide) (by decide)))) (fun a e => nomatch e) (B8.more (by omega)) big
      · exact q _ H8 (.inr (.inl fb_bl)) (fun a e => nomatch e) (B8.more (by omega)) big
      · exact q _ H8 (.inr (.inl (fb_lst k1 zm))) (fun a e => by cases e; exact off B1 n1) (B8.more (by omega)) big
      · exact q _ H8 (.inr (.inl (fb_tup k2 zm))) (fun a e => by cases e; exact off B2 n2) (B8.more (by omega)) big
      · exact q _ H8 (.inr (.inr ⟨x1, rfl, d1, kx⟩)) (fun a e => by cases e; exact off B3 nx1) (B8.more (by omega)) big
      · exact txt _ (hz.mono (by decide))
      · exact txt _ ((hz.app t1).mono (by decide))
      · exact txt _ (by unfold Sm; decide +kernel)
      · exact txt _ ((hz.app tn).mono (by decide))
      · exact q _ H8 (.inr (.inl (fb_int (by decide) (by decide)))) (fun a e => nomatch e) (B8.more (by omega)) big
    clear hT4
    refine ⟨⟨_, rfl⟩, _, rfl, b, n, 6, rfl, hB, by omega, by decide, by decide, fun r H1 r0 r1 B1 K1 => ?_⟩
    refine ⟨_, _, rfl, rfl, _, rfl, by omega, by omega, fun D hD => ?_⟩
    have nb : D ≠ b := off B1 hD
    refine lc_range (lo := 0) (n := (1 + r).toNat) (fun i H' => Bx H' b (n + 1 + i) ∧ Kp b H1 H' ∧ ∃ ys : List Str, ys.length = i ∧ (∀ y ∈ ys, Sm 1 y) ∧ H' D = some (.lst (ys.map V.str)))
      ⟨B1.upd hD, Kp.fresh hD, [], rfl, fun _ h => (nomatch h), upd_same⟩ ?_ ?_
    · rintro i H2 hi ⟨B2, K2, ys, ely, hys, hl⟩
      refine ⟨rfl, ?_⟩
      unfold tYes
      refine iteT ⟨_, rfl, _, rfl, b, n + 1 + i, 26, rfl, B2, by omega, by decide, by decide, fun c H3 c0 c1 B3 K3 => ?_⟩
      obtain ⟨g, hg, hm⟩ := atI_in (l := abc.cps.toList) c0 c1
      have hl3 := K3 D _ nb hl
      refine ⟨abc, c, g, rfl, rfl, (by decide +kernel), hg, _, hl3, by rw [List.length_map, ely]; exact Nat.lt_of_lt_of_le (by omega) (show 9 ≤ sizeLine by decide), ?_⟩
      refine ⟨?_, ?_, ys ++ [⟨#[g]⟩], by rw [List.length_append, ely]; rfl, ?_, by rw [List.map_append]; exact upd_same⟩
      · obtain ⟨x, y, z, e, h⟩ := B3
        exact ⟨x, y, z, by rw [upd_ne nb.symm]; exact e, h⟩
      · intro p o np e
        have pD : p ≠ D := ne_of_none e hD
        rw [upd_ne pD]
        exact K3 p o np (K2 p o np e)
      · intro y hy
        rcases List.mem_append.mp hy with h | h
        · exact hys y h
        · rw [List.mem_singleton.mp h]
          exact sm_sign (by decide +kernel) hm
    · rintro H2 ⟨B2, K2, ys, ely, hys, hl⟩
      have sz : Sm 8 (Txt.join "" ys) := (sm_join hys).mono (by omega)
      refine ⟨"", D, ys, rfl, rfl, .inl (SqL.of hl), ?_, ?_⟩
      · have e2 := sum_ones ys hys
        have e3 : ys.length * ("" : Str).length = 0 := by
          rw [show ("" : Str).length = 0 by decide +kernel, Nat.mul_zero]
        omega
      generalize Txt.join "" ys = z at sz
      have K12 := K1.trans K2
      refine ⟨_, rfl, b, n + 1 + (1 + r).toNat, 6, rfl, B2, by omega, by decide, by decide, fun t H3 t0 t1 B3 K3 => ?_⟩
      refine ⟨rfl, _, rfl, ite2 (fun _ => ?_) (fun _ => ?_)⟩
      · refine ⟨(by show 7 ≤ sizeLine; decide), fun p np => ?_⟩
        have nb : p ≠ b := off B3 np
        have B4 := B3.upd (o := .lst ((["done", "end", "fails", "more", "none", "old", "zero"] : List Str).map V.str)) np
        refine ⟨_, rfl, b, n + 1 + (1 + r).toNat + 1, 7, rfl, B4, by omega, by decide, by decide, fun r2 H4 r0 r1 B5 K5 => ?_⟩
        obtain ⟨v, hv, hm⟩ := atI_in (l := (["done", "end", "fails", "more", "none", "old", "zero"] : List Str).map V.str) r0 r1
        obtain ⟨y, hy, rfl⟩ := List.mem_map.mp hm
        have all : ∀ y ∈ (["done", "end", "fails", "more", "none", "old", "zero"] : List Str), Sm 10 y := by
          unfold Sm
          decide +kernel
        exact ⟨p, _, _, _, rfl, rfl, SqL.of (K5 p _ nb upd_same), hv, rest4 y H4 (all y hy) (B5.more (by omega)) (K12.trans (K3.trans ((Kp.fresh np).trans K5)))⟩
      · exact rest4 z H3 (sz.mono (by decide)) (B3.more (by omega)) (K12.trans K3)
theorem scShifts : FnScope ["_law_box_here", "_law_odd", "_law_k"] ["_law_box_here"] (defScope sShifts) := ⟨rfl, rfl, rfl, by decide +kernel, rfl, by decide +kernel, by decide +kernel⟩
theorem ok_shifts {f f1 : Addr} {fd fd1 : FuncData} (F : Fun K "_law_shifts" "_law_shifts" sShifts f fd) (T : Tk P w K mg base f1 fd1) (B : Blt mg) : FnOk P w K mg base CX0 2 f fd ["_law_box_here"] (spShifts K) := by
  refine F.ok scShifts (fun vs H Q E h => ?_) (fun cdv A outer s H vs Q E hr h => ?_)
  · obtain ⟨b, n, rfl, _⟩ := h
    rfl
  · obtain ⟨b, n, rfl, hB, hn, q⟩ := h
    have nd := scShifts.nd
    refine ⟨_, pss_cons (ps_set (i := 1) nd rfl (Or.inl rfl) (pe_ix ix_list (pe_lst (pa_cons pe_non (pa_cons pe_bl (pa_cons pe_bl (pa_cons pe_str (pa_cons (pe_lst pa_nil) (pa_cons (pe_op op_pow pe_int pe_int) (pa_cons (pe_op op_sub pe_int (pe_op op_pow pe_int pe_int)) pa_nil)))))))) (pe_call T.ok hr (by rfl) T.m T.k T.b .nil pass0 (pa_cons (pv 0) (pa_cons pe_int pa_nil))) (fun _ _ => rfl)))
      (pss_one (ps_ret (pe_op op_cat (pe_lc (own := [("_law_k", 2)]) (g := gName 2) (tt := tYes) rfl nd (pi_range1 rfl B.range (pa_cons pe_int pa_nil)) (blkOk_by (N := ["_law_box_here", "_law_odd", "_law_k"]) (sc := defScope sShifts) (by decide +kernel))
          (fun _ _ _ _ _ => pg_name (i := 2) nd rfl (Or.inl rfl)) (fun _ _ _ _ _ => pts_nil) (fun _ _ _ _ _ => pe_op op_sub (pv 2) pe_int)) (pe_lst (pa_cons (pv 1) pa_nil))))), ?_⟩
    have off : ∀ {G : Hp} {p : Addr} {m : Nat}, Bx G b m → G p = none → p ≠ b := fun hb hp => by
      obtain ⟨_, _, _, e, _⟩ := hb
      exact (ne_of_none e hp).symm
    refine ⟨Nat.zero_le _, fun p1 n1 => ?_⟩
    have s1 : Same H (upd H p1 (.lst [])) := same_nw n1
    have t1 : upd H p1 (.lst []) p1 = some (.lst []) := upd_same
    generalize upd H p1 (.lst []) = H1 at s1 t1
    refine ⟨_, _, rfl, rfl, ⟨by decide, by decide, by decide⟩, ?_⟩
    refine ⟨_, _, rfl, rfl, ⟨by decide, by decide, by decide⟩, _, _, rfl, rfl, (by show 7 ≤ sizeLine; decide), fun p2 n2 => ?_⟩
    have s2 : Same H1 (upd H1 p2 (.lst [V.non, V.bl true, V.bl false, V.str "1", V.ref p1, V.int (10 ^ (30 : Int).toNat), V.int (0 - 10 ^ (30 : Int).toNat)])) := same_nw n2
    have t2 : upd H1 p2 (.lst [V.non, V.bl true, V.bl false, V.str "1", V.ref p1, V.int (10 ^ (30 : Int).toNat), V.int (0 - 10 ^ (30 : Int).toNat)]) p2 = some (.lst [V.non, V.bl true, V.bl false, V.str "1", V.ref p1, V.int (10 ^ (30 : Int).toNat), V.int (0 - 10 ^ (30 : Int).toNat)]) := upd_same
    have B1 := hB.same s1
    have B2 := B1.same s2
    refine ⟨_, rfl, b, n, 7, rfl, B2, by omega, by decide, by decide, fun r H3 r0 r1 B3 K3 => ?_⟩
    obtain ⟨v, hv, hm⟩ := atI_in (l := [V.non, V.bl true, V.bl false, V.str "1", V.ref p1, V.int (10 ^ (30 : Int).toNat), V.int (0 - 10 ^ (30 : Int).toNat)]) r0 r1
    refine ⟨p2, _, _, _, rfl, rfl, SqL.of (K3 _ _ (off B1 n2) t2), hv, ?_⟩
    have k1 : H3 p1 = some (.lst []) := K3 _ _ (off hB n1) (s2 _ _ t1)
    have sv : Sv K H3 v := by
      simp only [List.mem_cons, List.not_mem_nil, or_false] at hm
      rcases hm with rfl | rfl | rfl | rfl | rfl | rfl | rfl
      · exact fb_non.sv
      · exact fb_bl.sv
      · exact fb_bl.sv
      · exact sv_str (by unfold Sm; decide +kernel)
      · exact sv_nil k1
      · exact sv_int (by decide +kernel) (by decide +kernel)
      · exact sv_int (by decide +kernel) (by decide +kernel)
    have fresh : ∀ a, v = .ref a → H a = none := fun a e => by
      simp only [List.mem_cons, List.not_mem_nil, or_false] at hm
      subst e
      rcases hm with e | e | e | e | e | e | e <;> cases e
      exact n1
    have big : Kp b H H3 := (Kp.same (s1.trans s2)).trans K3
    refine ⟨11, rfl, by omega, by omega, fun D hD => ?_⟩
    refine lc_range (lo := 0) (n := 11) (fun i H' => H' = upd H3 D (.lst ((List.range i).map fun k : Nat => V.int (((0 : Int) + (k : Int)) - 5)))) rfl ?_ ?_
    · rintro i H' hi rfl
      refine ⟨rfl, ?_⟩
      unfold tYes
      refine iteT ⟨_, rfl, _, _, rfl, rfl, _, upd_same, by rw [List.length_map, List.length_range]; exact Nat.lt_of_lt_of_le hi (by decide), ?_⟩
      rw [upd_upd, List.range_succ, List.map_append]
      rfl
    · rintro H' rfl
      have e11 : ((List.range 11).map fun k : Nat => V.int (((0 : Int) + (k : Int)) - 5)) = sh11 := by
        unfold sh11
        simp
      rw [e11]
      have s4 : Same H3 (upd H3 D (.lst sh11)) := same_nw hD
      refine ⟨_, rfl, (by show 1 ≤ sizeLine; decide), fun p4 n4 => ?_⟩
      have s5 : Same (upd H3 D (.lst sh11)) (upd (upd H3 D (.lst sh11)) p4 (.lst [v])) := same_nw n4
      refine ⟨D, p4, _, _, rfl, rfl, s5 _ _ upd_same, upd_same, (by show 12 ≤ sizeLine; decide), fun p5 n5 => ?_⟩
      have s6 : Same (upd (upd H3 D (.lst sh11)) p4 (.lst [v])) (upd (upd (upd H3 D (.lst sh11)) p4 (.lst [v])) p5 (.lst (sh11 ++ [v]))) := same_nw n5
      have s36 := s4.trans (s5.trans s6)
      refine q p5 v _ (sv.same s36) ?_ upd_same fresh (B3.same s36) (big.trans (Kp.same s36))
      cases e : H p5 with
      | none => rfl
      | some o =>
        exfalso
        have np : p5 ≠ b := by
          have B6 := (B3.same s4).same s5
          obtain ⟨_, _, _, e2, _⟩ := B6
          exact (ne_of_none e2 n5).symm
        have z := (s4.trans s5) _ _ (big p5 o np e)
        rw [n5] at z
        cases z
end
end Mz
set_option Elab.async false
set_option linter.all false
set_option maxRecDepth 100000
set_option maxHeartbeats 4000000
namespace Mz
open PySem PySem.Spec PyProof.Rows L2
/-- repr of a place -/
def reprP (z : Str) (k : Int) : Str := Str.empty ++ "Place(" ++ reprText z ++ ", shift=" ++ Str.ofString (toString k) ++ ")"
def spRepr (C : Addr) : Sp := fun vs H Q _ => ∃ a z k, vs = [.ref a] ∧ Pl C H a z k ∧ Good z k ∧ Q (.str (reprP z k)) H
def spText3 : Sp := fun vs H Q _ => ∃ (z : Str) (k : Int), vs = [.str z, .int k] ∧ Good z k ∧ z.length ≤ 100 ∧ ∀ H', Same H H' → Q (.str (strP z k)) H'
/-- what becomes of a base and a shift -/
def spMade (K : PySem.W.Frag) (C : Addr) : Sp := fun vs H Q _ => ∃ (b v : V), vs = [b, v] ∧ Bs K C H b ∧ Sv K H v ∧
  ((∃ z k, b = .str z ∧ v = .int k ∧ Good z k ∧ ∀ p H', Same H H' → H p = none → H' p = some (.lst [.str "made", .str z, .int k, .str (strP z k)]) → Q (.ref p) H') ∨
    (baseOk b = false ∧ ∀ p H', Same H H' → H p = none → H' p = some (.lst [.str "name", b]) → Q (.ref p) H') ∨
    (∃ z, b = .str z ∧ baseOk b = true ∧ inB (lowS z) 3 v = false ∧ ∀ p H', Same H H' → H p = none → H' p = some (.lst [.str "integer", v]) → Q (.ref p) H'))
theorem kshift_len {k : Int} (h0 : -3 ≤ k) (h1 : k ≤ 3) : (Str.ofString (toString k)).length ≤ 10 := kshift_text h0 h1
theorem nil_app (z : Str) : "" ++ z = z := str_ext (by rw [app_list, nil_list, List.nil_append])
section
variable {P : Program} {w : World} {K : PySem.W.Frag} {mg : Str → Option Value} {base : Heap}
theorem scRepr : FnScope ["self"] ["self"] (defScope (inClass sPlace 5)) := ⟨rfl, rfl, rfl, by decide +kernel, rfl, by decide +kernel, by decide +kernel⟩
theorem ok_repr {f C : Addr} {fd : FuncData} (F : Fun K "__repr__" "Place.__repr__" (inClass sPlace 5) f fd) (T : Cpl K mg C) : FnOk P w K mg base CX0 1 f fd ["self"] (spRepr C) := by
  refine F.ok scRepr (fun vs H Q E h => ?_) (fun cdv A outer s H vs Q E hr h => ?_)
  · obtain ⟨a, z, k, rfl, _⟩ := h
    rfl
  · obtain ⟨a, z, k, rfl, ⟨dx, ha⟩, g, q⟩ := h
    refine ⟨_, pss_one (ps_ret (pe_joined (.cons pe_str (.cons (pe_fmtR (pe_fld (pv 0) rfl)) (.cons pe_str (.cons (pe_fmt (pe_fld (pv 0) rfl)) (.cons pe_str .nil))))))), ?_⟩
    have h1 := repr_len (z := z) (n := 1000) ⟨g.1, g.2.1⟩
    have h2 := kshift_len g.lo g.hi
    have l1 : (Str.empty ++ ("Place(" : Str)).length = 6 := by decide +kernel
    have l2 : (", shift=" : Str).length = 8 := by decide +kernel
    have l3 : (")" : Str).length = 1 := by decide +kernel
    have big : 20000 ≤ sizeLine := by decide
    refine ⟨_, rfl, by rw [l1]; omega, ?_⟩
    refine ⟨_, rfl, a, C, dx, _, _, rfl, ha, T.cl, T.nB, plF_base, .inl ⟨z, rfl, by omega, reprText z, rfl, by rw [strLen_append, l1]; omega, ?_⟩⟩
    refine ⟨_, rfl, by rw [strLen_append, strLen_append, l1, l2]; omega, ?_⟩
    refine ⟨_, rfl, a, C, dx, _, _, rfl, ha, T.cl, T.nS, plF_shift, .inr ⟨k, rfl, int_small g.lo g.hi, _, rfl, ?_, ?_⟩⟩
    · rw [strLen_append, strLen_append, strLen_append, l1, l2]
      have e : (Str.ofString (toString k)).length = ((toString k : String) : Str).length := rfl
      omega
    · exact ⟨_, rfl, by rw [strLen_append, strLen_append, strLen_append, strLen_append, l1, l2, l3]; have e : (Str.ofString (toString k)).length = ((toString k : String) : Str).length := rfl; omega, q⟩
theorem scText3 : FnScope ["_law_root", "_law_step"] ["_law_root", "_law_step"] (defScope sText3) := ⟨rfl, rfl, rfl, by decide +kernel, rfl, by decide +kernel, by decide +kernel⟩
theorem ok_text3 {f : Addr} {fd : FuncData} (F : Fun K "_law_text" "_law_text" sText3 f fd) : FnOk P w K mg base CX0 1 f fd ["_law_root", "_law_step"] spText3 := by
  refine F.ok scText3 (fun vs H Q E h => ?_) (fun cdv A outer s H vs Q E hr h => ?_)
  · obtain ⟨z, k, rfl, _⟩ := h
    rfl
  · obtain ⟨z, k, rfl, g, hz, q⟩ := h
    refine ⟨_, pss_cons (ps_if (pt_cmpR op_eq (pv 0) pe_str (nomark _)) (pss_one (ps_ret (pe_ix ix_str pe_str (pv 1) (fun _ _ => rfl)))) pss_nil)
      (pss_one (ps_ret (pe_op op_add_str (pv 0) (pe_ix ix_list (pe_lst (pa_cons pe_str (pa_cons pe_str (pa_cons pe_str (pa_cons pe_str (pa_cons pe_str (pa_cons pe_str (pa_cons pe_str pa_nil)))))))) (pv 1) (fun _ _ => rfl))))), ?_⟩
    refine ⟨_, rfl, rfl, _, rfl, ite2 (fun h1 => ?_) (fun h1 => ?_)⟩
    · have e0 : z = "" := V.str.inj (of_decide_eq_true h1)
      subst e0
      have h0 : 0 ≤ k := g.2.2.2.1
      have h3 := g.2.2.2.2
      have q0 := q H (Same.refl H)
      rcases (show k = 0 ∨ k = 1 ∨ k = 2 ∨ k = 3 by omega) with rfl | rfl | rfl | rfl
      · rw [show strP "" 0 = ⟨#[48]⟩ by decide +kernel] at q0
        exact ⟨_, rfl, "0123", 0, 48, rfl, rfl, by decide +kernel, by decide +kernel, q0⟩
      · rw [show strP "" 1 = ⟨#[49]⟩ by decide +kernel] at q0
        exact ⟨_, rfl, "0123", 1, 49, rfl, rfl, by decide +kernel, by decide +kernel, q0⟩
      · rw [show strP "" 2 = ⟨#[50]⟩ by decide +kernel] at q0
        exact ⟨_, rfl, "0123", 2, 50, rfl, rfl, by decide +kernel, by decide +kernel, q0⟩
      · rw [show strP "" 3 = ⟨#[51]⟩ by decide +kernel] at q0
        exact ⟨_, rfl, "0123", 3, 51, rfl, rfl, by decide +kernel, by decide +kernel, q0⟩
    · have n0 : ¬ z = "" := fun e => h1 (decide_eq_true (by rw [e]))
      refine ⟨_, rfl, (by show 7 ≤ sizeLine; decide), fun p np => ⟨_, rfl, p, [V.str "", V.str "+1", V.str "+2", V.str "+3", V.str "-3", V.str "-2", V.str "-1"], k, ?_⟩⟩
      have q1 := q (upd H p (.lst [V.str "", V.str "+1", V.str "+2", V.str "+3", V.str "-3", V.str "-2", V.str "-1"])) (same_nw np)
      have fin : ∀ y : Str, strP z k = z ++ y → y.length ≤ 10 → atI [V.str "", V.str "+1", V.str "+2", V.str "+3", V.str "-3", V.str "-2", V.str "-1"] k = some (.str y) →
          ∃ v, V.ref p = V.ref p ∧ V.int k = V.int k ∧ SqL K (upd H p (.lst [V.str "", V.str "+1", V.str "+2", V.str "+3", V.str "-3", V.str "-2", V.str "-1"])) p [V.str "", V.str "+1", V.str "+2", V.str "+3", V.str "-3", V.str "-2", V.str "-1"] ∧ atI [V.str "", V.str "+1", V.str "+2", V.str "+3", V.str "-3", V.str "-2", V.str "-1"] k = some v ∧
            ∃ (a b : Str), V.str z = V.str a ∧ v = V.str b ∧ a.length + b.length ≤ sizeLine ∧ Q (.str (a ++ b)) (upd H p (.lst [V.str "", V.str "+1", V.str "+2", V.str "+3", V.str "-3", V.str "-2", V.str "-1"])) := by
        intro y e hy hat
        rw [e] at q1
        have : 200 ≤ sizeLine := by decide
        exact ⟨_, rfl, rfl, SqL.of upd_same, hat, z, y, rfl, rfl, by omega, q1⟩
      have sg : k ≠ 0 → strP z k = z ++ signS k := fun hk => by
        unfold strP
        rw [if_neg n0, if_neg hk, nil_app]
      have zr : strP z 0 = z ++ "" := by
        unfold strP
        rw [if_neg n0, if_pos rfl]
        exact str_ext (by rw [app_list, nil_list, List.append_nil])
      by_cases hk : k = 0
      · subst hk
        exact fin "" zr (by decide +kernel) rfl
      · have e := sg hk
        rcases small_six g.lo g.hi hk with rfl | rfl | rfl | rfl | rfl | rfl
        · exact fin "+1" e (by decide +kernel) rfl
        · exact fin "+2" e (by decide +kernel) rfl
        · exact fin "+3" e (by decide +kernel) rfl
        · exact fin "-1" e (by decide +kernel) rfl
        · exact fin "-2" e (by decide +kernel) rfl
        · exact fin "-3" e (by decide +kernel) rfl
end
end Mz
set_option Elab.async false
set_option linter.all false
set_option maxRecDepth 100000
set_option maxHeartbeats 4000000
namespace Mz
open PySem PySem.Spec PyProof.Rows L2
section
variable {P : Program} {w : World} {K : PySem.W.Frag} {mg : Str → Option Value} {base : Heap}
theorem scMade : FnScope ["_law_root", "_law_step", "_law_found", "e"] ["_law_root", "_law_step"] (defScope sMade) := ⟨rfl, rfl, rfl, by decide +kernel, rfl, by decide +kernel, by decide +kernel⟩
theorem ok_made {f fI gb gs pb ps_ fS C cN cI : Addr} {fd fdI fdb fds fdS : FuncData} {g2 : List Value → List Value → List Value} (F : Fun K "_law_made" "_law_made" sMade f fd) (Z : Cpl K mg C) (D : Blp mg)
    (M : Mk K C fI) (GR : FnOk P w K mg base (L2.CX P w) 3 fI fdI ["self", "base", "shift"] (spInitR K C cN cI)) (kI2 : KBn K fdI ["self", "base", "shift"] 2 ["shift"] g2 (fun vs zs => vs ++ zs))
    (pB : PropOf K C "base" pb gb) (Gb : FnOk P w K mg base CX0 1 gb fdb ["self"] (spBase C)) (bb : Binds K fdb ["self"] []) (pS : PropOf K C "shift" ps_ gs) (Gs : FnOk P w K mg base CX0 1 gs fds ["self"] (spShift C)) (bs : Binds K fds ["self"] [])
    (GS : FnOk P w K mg base CX0 1 fS fdS ["self"] (spStr C)) (bS : Binds K fdS ["self"] []) (iS : PySem.W.findIn K (.ref C) "__str__" = some (some (.ref fS))) (jS : PySem.W.isFn K (.ref fS) = true)
    (TN : Xcl K mg "InvalidName" cN "value") (TI : Xcl K mg "InvalidInteger" cI "value") (eN : PySem.W.exmOne K (.ref cN) (.ref cN) = some true) (eI : PySem.W.exmOne K (.ref cI) (.ref cI) = some true) (eX : PySem.W.exmOne K (.ref cI) (.ref cN) = some false) :
    FnOk P w K mg base CX0 5 f fd ["_law_root", "_law_step"] (spMade K C) := by
  refine F.ok scMade (fun vs H Q E h => ?_) (fun cdv A outer s H vs Q E hr h => ?_)
  · obtain ⟨b, v, rfl, _⟩ := h
    rfl
  · obtain ⟨b, v, rfl, hb, hv, h⟩ := h
    have nd := scMade.nd
    have hr2 : Room 2 _ := hr.mono (by decide)
    refine ⟨_, pss_cons (ps_try_named rfl rfl nd (fun W pn xe tk _ => pss_one (ps_set (i := 2) nd rfl (Or.inl rfl) (pe_makeKS M GR hr (by rfl) Z.mgC kI2 (fun σ => passAt tk σ) (pa_cons (pv 0) pa_nil) (pk_cons (pv 1) pk_nil))))
        (.one (i := 3) rfl rfl ⟨rfl, by decide, .inl TN.m⟩ (fun a oe cls d pn hz hf => pss_one (ps_ret (pe_lst (pa_cons pe_str (pa_cons (pe_xf TN.xf TN.no hz hf (pv 3)) pa_nil)))))
        (.one (i := 3) rfl rfl ⟨rfl, by decide, .inl TI.m⟩ (fun a oe cls d pn hz hf => pss_one (ps_ret (pe_lst (pa_cons pe_str (pa_cons (pe_xf TI.xf TI.no hz hf (pv 3)) pa_nil))))) (.any _))))
      (pss_one (ps_ret (pe_lst (pa_cons pe_str (pa_cons (pe_prop (pv 2) Z.cl pB Gb hr2 bb .nil pass0 rfl) (pa_cons (pe_prop (pv 2) Z.cl pS Gs hr2 bs .nil pass0 rfl) (pa_cons (pe_callTy (call_strO GS (hr.mono (by decide)) bS iS jS) (by rfl) D.str (by decide +kernel) (pa_cons (pv 2) pa_nil)) pa_nil))))))), ?_⟩
    refine ⟨_, rfl, _, rfl, rfl, rfl, fun x dx nx nd2 nn => ?_⟩
    have sM : Same H (upd (upd H dx (.own x)) x (.ins C dx [])) := fun r o h => by
      rw [upd_ne (ne_of_none h nx), upd_ne (ne_of_none h nd2)]
      exact h
    refine ⟨x, dx, b, v, rfl, upd_same, hb.same sM, hv.same sM, ?_⟩
    rcases h with ⟨z, k, rfl, rfl, g, q⟩ | ⟨e1, q⟩ | ⟨z, rfl, e1, e2, q⟩
    · refine .inl ⟨z, k, rfl, rfl, g, fun H' u t' => ⟨rfl, ?_⟩⟩
      have sm : Same H H' := fun r o h => u r o (ne_of_none h nx) (sM _ _ h)
      have px : Pl C H' x z k := ⟨dx, t'⟩
      refine ⟨_, rfl, x, dx, _, rfl, t', x, z, k, rfl, px, _, rfl, x, dx, _, rfl, t', x, z, k, rfl, px, _, rfl, x, dx, _, rfl, t', x, z, k, rfl, px, g, _, rfl, ?_⟩
      exact ⟨(by show 4 ≤ sizeLine; decide), fun r nr => q r _ (sm.trans (same_nw nr)) (sm.free nr) upd_same⟩
    · refine .inr (.inl ⟨e1, fun d H' nd3 s3 hd => ?_⟩)
      have sm := sM.trans s3
      refine ⟨true, eN, fun _ a na => ?_, fun y => Bool.noConfusion y⟩
      exact ⟨_, rfl, rfl, rfl, d, _, b, rfl, hd, rfl, (by show 2 ≤ sizeLine; decide), fun r nr => q r _ (sm.trans (same_nw nr)) (sm.free nr) upd_same⟩
    · refine .inr (.inr ⟨z, rfl, e1, e2, fun d H' nd3 s3 hd => ?_⟩)
      have sm := sM.trans s3
      refine ⟨false, eX, fun y => Bool.noConfusion y, fun _ => ⟨true, eI, fun _ a na => ?_, fun y => Bool.noConfusion y⟩⟩
      exact ⟨_, rfl, rfl, rfl, d, _, v, rfl, hd, rfl, (by show 2 ≤ sizeLine; decide), fun r nr => q r _ (sm.trans (same_nw nr)) (sm.free nr) upd_same⟩
theorem scDue3 : FnScope ["_law_root", "_law_step", "_law_whole"] ["_law_root", "_law_step"] (defScope sDue3) := ⟨rfl, rfl, rfl, by decide +kernel, rfl, by decide +kernel, by decide +kernel⟩
theorem ok_due3 {f fE fN fT C : Addr} {fd fdE fdN fdT : FuncData} (F : Fun K "_law_due" "_law_due" sDue3 f fd) (Y : Pty K C) (N : Npl K C) (B : Blt mg) (D : Blp mg)
    (ki : PySem.W.kitOne K (.ref C) (.type "int") = some false) (ks : PySem.W.kitOne K (.ref C) (.type "str") = some false)
    (GE : FnOk P w K mg base CX0 1 fE fdE ["self", "other"] (spEq K C)) (bE : Binds K fdE ["self", "other"] []) (iE : PySem.W.findIn K (.ref C) "__eq__" = some (some (.ref fE))) (jE : PySem.W.isFn K (.ref fE) = true) (hn : PySem.W.findIn K (.ref C) "__ne__" = some (some (.builtin "object.__ne__")))
    (GN : FnOk P w K mg base CX0 1 fN fdN ["_law_thing"] (spIsName K)) (mN : mg "_law_name_due" = some (.ref fN)) (kN : PySem.W.keepIn K (.ref fN) = true) (bN : Binds K fdN ["_law_thing"] [])
    (GT : FnOk P w K mg base CX0 1 fT fdT ["_law_root", "_law_step"] spText3) (mT : mg "_law_text" = some (.ref fT)) (kT : PySem.W.keepIn K (.ref fT) = true) (bT : Binds K fdT ["_law_root", "_law_step"] []) :
    FnOk P w K mg base CX0 3 f fd ["_law_root", "_law_step"] (spMade K C) := by
  refine F.ok scDue3 (fun vs H Q E h => ?_) (fun cdv A outer s H vs Q E hr h => ?_)
  · obtain ⟨b, v, rfl, _⟩ := h
    rfl
  · obtain ⟨b, v, rfl, hb, hv, h⟩ := h
    have nd := scDue3.nd
    have hr1 : Room 1 _ := hr.mono (by decide)
    refine ⟨_, pss_cons (ps_if (PW.pt (pw_and (pt_cmpR (op_neU GE hr bE iE jE hn Y.hm) (pv 0) pe_str (nomark _)) (pw_and1 (pt_not (pt_val (pe_call GN hr1 (by rfl) mN kN bN .nil pass0 (pa_cons (pv 0) pa_nil)))))))
        (pss_one (ps_ret (pe_lst (pa_cons pe_str (pa_cons (pv 0) pa_nil))))) pss_nil)
      (pss_cons (ps_set (i := 2) nd rfl (Or.inl rfl) (pe_and (pe_callB call_isi (by rfl) D.isi (by decide +kernel) (pa_cons (pv 1) (pa_cons (pe_bltn (v := .ty "int") (by rfl) B.int (by decide +kernel) rfl) pa_nil)))
        (pe_one (pe_not (pe_callB call_isi (by rfl) D.isi (by decide +kernel) (pa_cons (pv 1) (pa_cons (pe_bltn (v := .ty "bool") (by rfl) D.bool (by decide +kernel) rfl) pa_nil)))))))
      (pss_cons (ps_if (PW.pt (pw_or (pt_not (pt_val (pv 2))) (pw_or1 (pt_not (pt_chain op_le op_le (pe_ifExp (pt_cmpR op_eq (pv 0) pe_str (nomark _)) pe_int (pe_un un_neg pe_int)) (pv 1) pe_int)))))
        (pss_one (ps_ret (pe_lst (pa_cons pe_str (pa_cons (pv 1) pa_nil))))) pss_nil)
      (pss_one (ps_ret (pe_lst (pa_cons pe_str (pa_cons (pv 0) (pa_cons (pv 1) (pa_cons (pe_call GT hr1 (by rfl) mT kT bT .nil pass0 (pa_cons (pv 0) (pa_cons (pv 1) pa_nil))) pa_nil))))))))), ?_⟩
    generalize hT2 : tSeq (tAsg _ (gName 2)) _ = T2
    have rest : ∀ z, b = .str z → baseOk b = true → ∀ H1, Same H H1 → T2 { nx := fun _ H' => Q .non H', rt := Q } (start ["_law_root", "_law_step", "_law_whole"] [b, v]) H1 := by
      intro z ez ok H1 sm
      subst ez
      rw [← hT2]
      have kv := (hv.same sm).2
      generalize hT3 : tSeq (tIfS (tOr _ _) _ _) _ = T3
      have odd : inB (lowS z) 3 v = false → ∀ p, H1 p = none → Q (.ref p) (upd H1 p (.lst [.str "integer", v])) := by
        intro e p np
        rcases h with ⟨z2, k, e1, rfl, g, q⟩ | ⟨e1, _⟩ | ⟨z2, e1, _, _, q⟩
        · cases e1
          have : inB (lowS z) 3 (.int k) = true := by
            show (decide (lowS z ≤ k) && decide (k ≤ 3)) = true
            rw [decide_eq_true g.2.2.2.1, decide_eq_true g.2.2.2.2]
            rfl
          rw [e] at this
          cases this
        · rw [ok] at e1
          cases e1
        · exact q p _ (sm.trans (same_nw np)) (sm.free np) upd_same
      have no : inB (lowS z) 3 v = false → T3 { nx := fun _ H' => Q .non H', rt := Q } [some (.str z), some v, some (.bl false)] H1 := by
        intro e
        rw [← hT3]
        exact ⟨_, rfl, _, rfl, iteT (iteT ⟨_, rfl, (by show 2 ≤ sizeLine; decide), fun p np => odd e p np⟩)⟩
      refine ⟨_, rfl, ?_⟩
      cases kv with
      | int i =>
        refine ⟨_, _, _, _, true, rfl, .ty _, .base (.int i), kit_ty (by decide +kernel), true, rfl, iteT ⟨_, rfl, _, _, _, _, false, rfl, .ty _, .base (.int i), kit_ty (by decide +kernel), false, rfl, ?_⟩⟩
        rw [← hT3]
        refine ⟨_, rfl, _, rfl, iteF ?_⟩
        generalize hT4 : tRet (tLst (tCons (tC (V.str "made")) _)) = T4
        have good : inB (lowS z) 3 (.int i) = true → T4 { nx := fun _ H' => Q .non H', rt := Q } [some (.str z), some (.int i), some (.bl true)] H1 := by
          intro e
          rw [← hT4]
          rcases h with ⟨z2, k, e1, e2, g, q⟩ | ⟨e1, _⟩ | ⟨z2, e1, _, e2, q⟩
          · cases e1
            cases e2
            have zl : z.length ≤ 100 := by
              rcases hb with ⟨y, e, hy⟩ | ⟨_, _, ne⟩ | ⟨a, e, _⟩
              · cases e
                exact hy.1
              · exact (ne z rfl).elim
              · cases e
            exact ⟨_, rfl, _, rfl, _, rfl, _, rfl, z, i, rfl, g, zl, fun H' s' => ⟨(by show 4 ≤ sizeLine; decide), fun p np => q p _ ((sm.trans s').trans (same_nw np)) ((sm.trans s').free np) upd_same⟩⟩
          · rw [ok] at e1
            cases e1
          · cases e1
            rw [e] at e2
            cases e2
        refine ⟨_, rfl, rfl, _, rfl, ite2 (fun h1 => ?_) (fun h1 => ?_)⟩
        · have elo : lowS z = 0 := if_pos (V.str.inj (of_decide_eq_true h1))
          refine ⟨_, rfl, _, _, rfl, rfl, _, rfl, ite2 (fun h2 => ?_) (fun h2 => ?_)⟩
          · refine ⟨_, _, rfl, rfl, _, rfl, ?_⟩
            cases h3 : decide (i ≤ 3) with
            | false => exact iteT ⟨_, rfl, (by show 2 ≤ sizeLine; decide), fun p np => odd (by rw [elo]; show (_ && decide (i ≤ 3)) = false; rw [h3, Bool.and_false]) p np⟩
            | true => exact iteF (good (by rw [elo]; show (decide (_ ≤ i) && decide (i ≤ 3)) = true; rw [h3, h2]; rfl))
          · exact ⟨_, rfl, iteT ⟨_, rfl, (by show 2 ≤ sizeLine; decide), fun p np => odd (by rw [elo]; show (decide (_ ≤ i) && _) = false; rw [Bool.eq_false_iff.mpr h2, Bool.false_and]) p np⟩⟩
        · have elo : lowS z = -3 := if_neg fun x => h1 (decide_eq_true (by rw [x]))
          refine ⟨_, rfl, ?_⟩
          refine ⟨_, rfl, _, _, rfl, rfl, _, rfl, ite2 (fun h2 => ?_) (fun h2 => ?_)⟩
          · refine ⟨_, _, rfl, rfl, _, rfl, ?_⟩
            cases h3 : decide (i ≤ 3) with
            | false => exact iteT ⟨_, rfl, (by show 2 ≤ sizeLine; decide), fun p np => odd (by rw [elo]; show (_ && decide (i ≤ 3)) = false; rw [h3, Bool.and_false]) p np⟩
            | true => exact iteF (good (by rw [elo]; show (decide (_ ≤ i) && decide (i ≤ 3)) = true; rw [h3, h2]; rfl))
          · exact ⟨_, rfl, iteT ⟨_, rfl, (by show 2 ≤ sizeLine; decide), fun p np => odd (by rw [elo]; show (decide (_ ≤ i) && _) = false; rw [Bool.eq_false_iff.mpr h2, Bool.false_and]) p np⟩⟩
      | bl b => exact ⟨_, _, _, _, true, rfl, .ty _, .base (.bl b), kit_ty (by decide +kernel), true, rfl, iteT ⟨_, rfl, _, _, _, _, true, rfl, .ty _, .base (.bl b), kit_ty (by decide +kernel), true, rfl, no rfl⟩⟩
      | str y _ _ => exact ⟨_, _, _, _, false, rfl, .ty _, .base (.str y), kit_ty (by decide +kernel), false, rfl, iteF (no rfl)⟩
      | non => exact ⟨_, _, _, _, false, rfl, .ty _, .base .non, kit_ty (by decide +kernel), false, rfl, iteF (no rfl)⟩
      | oth a t ty ki ks => exact ⟨_, _, _, _, false, rfl, .ty _, ty, ki, false, rfl, iteF (no rfl)⟩
    have refuse : baseOk b = false → ∀ H1, Same H H1 → ∀ p, H1 p = none → Q (.ref p) (upd H1 p (.lst [.str "name", b])) := by
      intro e1 H1 sm p np
      rcases h with ⟨z, k, rfl, _, g, _⟩ | ⟨_, q⟩ | ⟨z, rfl, e2, _⟩
      · exfalso
        have : (decide (z = "") || nameS z) = true := by
          rcases g.2.2.1 with e | e
          · rw [decide_eq_true e, Bool.true_or]
          · rw [e, Bool.or_true]
        rw [show baseOk (.str z) = (decide (z = "") || nameS z) from rfl, this] at e1
        cases e1
      · exact q p _ (sm.trans (same_nw np)) (sm.free np) upd_same
      · rw [e1] at e2
        cases e2
    have kb := hb.kd Y ki ks
    rcases hb.ne Y N with ⟨z, rfl, hz⟩ | ⟨nt, hq⟩
    · refine ⟨_, rfl, .inl ⟨rfl, _, rfl, ?_⟩⟩
      by_cases e0 : z = ""
      · rw [decide_eq_true (show V.str z = V.str "" by rw [e0])]
        exact iteF (iteF (rest z rfl (by show (decide (z = "") || nameS z) = true; rw [decide_eq_true e0, Bool.true_or]) H (Same.refl H)))
      · rw [decide_eq_false (show ¬ V.str z = V.str "" from fun x => e0 (V.str.inj x))]
        refine iteT ⟨_, rfl, .str z, rfl, kb, fun H1 s1 => ⟨_, rfl, ?_⟩⟩
        have eb : baseOk (.str z) = nameV (.str z) := by
          show (decide (z = "") || nameS z) = _
          rw [decide_eq_false e0, Bool.false_or]
          rfl
        cases hnm : nameV (.str z) with
        | true => exact iteF (rest z rfl (eb.trans hnm) H1 s1)
        | false => exact iteT ⟨_, rfl, (by show 2 ≤ sizeLine; decide), fun p np => refuse (eb.trans hnm) H1 s1 p np⟩
    · refine ⟨_, rfl, hq _ ⟨_, rfl, ?_⟩⟩
      refine iteT ⟨_, rfl, b, rfl, kb, fun H1 s1 => ⟨_, rfl, ?_⟩⟩
      have eb : nameV b = false ∧ baseOk b = false := by
        cases b with
        | str z => exact (nt z rfl).elim
        | _ => exact ⟨rfl, rfl⟩
      rw [eb.1]
      exact iteT ⟨_, rfl, (by show 2 ≤ sizeLine; decide), fun p np => refuse eb.2 H1 s1 p np⟩
end
end Mz
set_option Elab.async false
set_option linter.all false
set_option maxRecDepth 100000
set_option maxHeartbeats 4000000
namespace Mz
open PySem PySem.Spec PyProof.Rows L2
/-- a base and a shift: made, or refused for one of them -/
theorem cls_bv {K : PySem.W.Frag} {C : Addr} {H : Hp} {b v : V} (hb : Bs K C H b) (hv : Sv K H v) : (∃ z k, b = .str z ∧ v = .int k ∧ Good z k) ∨ baseOk b = false ∨ (∃ z, b = .str z ∧ baseOk b = true ∧ inB (lowS z) 3 v = false) := by
  cases e : baseOk b with
  | false => exact .inr (.inl rfl)
  | true =>
    rcases hb with ⟨z, rfl, hz⟩ | ⟨_, _, nt⟩ | ⟨a, rfl, _⟩
    · have hn : z = "" ∨ nameS z = true := by
        rcases Bool.or_eq_true_iff.mp (show (decide (z = "") || nameS z) = true from e) with h | h
        · exact .inl (of_decide_eq_true h)
        · exact .inr h
      cases ei : inB (lowS z) 3 v with
      | false => exact .inr (.inr ⟨z, rfl, rfl, ei⟩)
      | true =>
        cases v with
        | int k =>
          have h : (decide (lowS z ≤ k) && decide (k ≤ 3)) = true := ei
          obtain ⟨h1, h2⟩ := Bool.and_eq_true_iff.mp h
          exact .inl ⟨z, k, rfl, rfl, Nat.le_trans hz.1 (by decide), hz.2, hn, of_decide_eq_true h1, of_decide_eq_true h2⟩
        | _ => cases ei
    · cases b with
      | str z => exact (nt z rfl).elim
      | _ => cases e
    · cases e
theorem Fl.live {H : Hp} {a : Addr} {d : PyData} (h : Fl H (.ref a) d) : ∃ o, H a = some o := by
  cases h with
  | flat h => cases h
  | lst h _ => exact ⟨_, h⟩
  | tup h _ => exact ⟨_, h⟩
theorem Bs.live {K : PySem.W.Frag} {C : Addr} {H : Hp} {v : V} (h : Bs K C H v) {a : Addr} (e : v = .ref a) : ∃ o, H a = some o := by
  subst e
  rcases h with ⟨z, e, _⟩ | ⟨⟨d, h, _⟩, _⟩ | ⟨p, e, dx, h⟩
  · cases e
  · exact h.live
  · cases e
    exact ⟨_, h⟩
theorem Sv.live {K : PySem.W.Frag} {H : Hp} {v : V} (h : Sv K H v) {a : Addr} (e : v = .ref a) : ∃ o, H a = some o := by
  subst e
  obtain ⟨⟨d, h, _⟩, _⟩ := h
  exact h.live
/-- a list of a word and data -/
def wD (w : Str) (d : PyData) : PyData := .list [.str w, d]
theorem wd_fit {w : Str} {d : PyData} (hw : (reprText w).length ≤ 20) (h : Fit d) : PyData.showable (wD w d) = true ∧ PyData.hasDict (wD w d) = false ∧ PyData.depth (wD w d) < 60 ∧ (PyData.shown (wD w d)).length ≤ sizeLine := by
  obtain ⟨h1, h2, h3, h4⟩ := h
  refine ⟨?_, ?_, ?_, ?_⟩
  · simp [wD, PyData.showable, PyData.showableAll, h1]
  · simp [wD, PyData.hasDict, PyData.hasDictAll, h2]
  · simp [wD, PyData.depth, PyData.depthAll]
    omega
  · have e : PyData.shown (wD w d) = listText [reprText w, PyData.shown d] := by
      simp [wD, PyData.shown, PyData.shownAll]
    rw [e, list2_len]
    have h6 : 20000 ≤ sizeLine := by decide
    omega
theorem wd_dp {K : PySem.W.Frag} {H : Hp} {p : Addr} {v : V} {d : PyData} {w : Str} (h : H p = some (.lst [.str w, v])) (hd : Dp K H v d) : Dp K H (.ref p) (wD w d) := .lst (SqL.of h) (.cons (.str _) (.cons hd .nil))
def madeD (z : Str) (k : Int) (t : Str) : PyData := .list [.str "made", .str z, .int k, .str t]
theorem list4_len (a b c d : Str) : (listText [a, b, c, d]).length = a.length + b.length + c.length + d.length + 8 := by
  show ((((("[" ++ ((if 0 > 0 then ", " else "" : String) : Str) ++ a) ++ ((if 1 > 0 then ", " else "" : String) : Str) ++ b) ++ ((if 2 > 0 then ", " else "" : String) : Str) ++ c) ++ ((if 3 > 0 then ", " else "" : String) : Str) ++ d) ++ "]" : Str).length = _
  rw [if_neg (by decide), if_pos (by decide), if_pos (by decide), if_pos (by decide)]
  simp only [strLen_append]
  have e1 : (("[" : String) : Str).length = 1 := by decide +kernel
  have e2 : (("" : String) : Str).length = 0 := by decide +kernel
  have e3 : ((", " : String) : Str).length = 2 := by decide +kernel
  have e4 : (("]" : String) : Str).length = 1 := by decide +kernel
  rw [e1, e2, e3, e4]
  omega
theorem strP_sm {z : Str} {k : Int} (g : Good z k) : Sm 1002 (strP z k) := by
  by_cases hz : z = ""
  · subst hz
    have h0 : 0 ≤ k := g.2.2.2.1
    have h1 := g.2.2.2.2
    unfold Sm
    rcases (show k = 0 ∨ k = 1 ∨ k = 2 ∨ k = 3 by omega) with rfl | rfl | rfl | rfl
    all_goals decide +kernel
  · unfold strP
    rw [if_neg hz]
    by_cases hk : k = 0
    · rw [if_pos hk]
      exact Sm.mono (n := 1000) ⟨g.1, g.2.1⟩ (by decide)
    · rw [if_neg hk]
      have hs : Sm 2 (signS k) := by
        rcases small_six g.lo g.hi hk with rfl | rfl | rfl | rfl | rfl | rfl
        all_goals (unfold Sm; decide +kernel)
      have h0 : Sm 0 ("" : Str) := by
        unfold Sm
        decide +kernel
      exact Sm.mono ((h0.app (n := 0) (m := 1000) ⟨g.1, g.2.1⟩).app hs) (by decide)
theorem made_fit {z : Str} {k : Int} (g : Good z k) : PyData.showable (madeD z k (strP z k)) = true ∧ PyData.hasDict (madeD z k (strP z k)) = false ∧ PyData.depth (madeD z k (strP z k)) < 60 ∧ (PyData.shown (madeD z k (strP z k))).length ≤ sizeLine := by
  refine ⟨?_, rfl, by simp [madeD, PyData.depth, PyData.depthAll], ?_⟩
  · have h := int_small g.lo g.hi
    simp [madeD, PyData.showable, PyData.showableAll, h]
  · have e : PyData.shown (madeD z k (strP z k)) = listText [reprText "made", reprText z, Str.ofString (toString k), reprText (strP z k)] := by
      simp [madeD, PyData.shown, PyData.shownAll]
    rw [e, list4_len]
    have h1 := repr_len (z := z) (n := 1000) ⟨g.1, g.2.1⟩
    have h2 := kshift_text g.lo g.hi
    have h3 : (reprText "made").length ≤ 20 := by decide +kernel
    have h4 := repr_len (strP_sm g)
    have h5 : 30000 ≤ sizeLine := by decide
    omega
theorem made_dp {K : PySem.W.Frag} {H : Hp} {p : Addr} {z t : Str} {k : Int} (h : H p = some (.lst [.str "made", .str z, .int k, .str t])) : Dp K H (.ref p) (madeD z k t) := .lst (SqL.of h) (.cons (.str _) (.cons (.str _) (.cons (.int _) (.cons (.str _) .nil))))
/-! lists of bools -/
theorem dp_bools {K : PySem.W.Frag} {H : Hp} : ∀ l : List Bool, DpAll K H (l.map V.bl) (l.map PyData.bool)
  | [] => .nil
  | b :: l => .cons (.bl b) (dp_bools l)
theorem bools_lay : ∀ l : List Bool, PyData.canLayAll0 (l.map PyData.bool) = true ∧ PyData.depthAll (l.map PyData.bool) = 0
  | [] => ⟨rfl, rfl⟩
  | b :: l => by
    obtain ⟨h1, h2⟩ := bools_lay l
    rw [List.map_cons]
    refine ⟨?_, ?_⟩
    · simp [PyData.canLayAll0, PyData.canLay0, h1]
    · simp [PyData.depthAll, PyData.depth, h2]
theorem shaped_bools (l : List Bool) : SeqAt.shaped (.list (l.map PyData.bool)) = true := by
  obtain ⟨h1, h2⟩ := bools_lay l
  unfold SeqAt.shaped
  simp [PyData.canLay0, PyData.depth, h1, h2]
theorem eqv_bools : ∀ l : List Bool, PyData.eqvAll (l.map PyData.bool) (l.map PyData.bool) = true
  | [] => rfl
  | b :: l => by
    rw [List.map_cons]
    show (PyData.eqv (.bool b) (.bool b) && PyData.eqvAll (l.map PyData.bool) (l.map PyData.bool)) = true
    rw [eqv_bools l, show PyData.eqv (.bool b) (.bool b) = (b == b) from rfl]
    cases b <;> rfl
theorem ne_bools {K : PySem.W.Frag} {H : Hp} {p r : Addr} {l : List Bool} {Q : VK} (hp : H p = some (.lst (l.map V.bl))) (hr : H r = some (.lst (l.map V.bl))) (q : Q (.bl false) H) : rNeD K (.ref p) (.ref r) H Q := by
  refine ⟨.list (l.map PyData.bool), .list (l.map PyData.bool), .lst (SqL.of hp) (dp_bools l), .lst (SqL.of hr) (dp_bools l), shaped_bools l, shaped_bools l, ?_⟩
  rw [show PyData.eqv (.list (l.map PyData.bool)) (.list (l.map PyData.bool)) = PyData.eqvAll (l.map PyData.bool) (l.map PyData.bool) by simp only [PyData.eqv], eqv_bools]
  exact q
/-- a list of bools, one for each item -/
theorem lc_bools {K : PySem.W.Frag} {a D : Addr} {xs : List V} {fs : List Bool} {g : TG} {te : TE} {vs : List Nat} {σ : L2.St} {H1 : Hp} {Qd : Hp → Prop} (hlen : fs.length = xs.length) (hD : H1 D = none) (hl : SqL K H1 a xs) (short : xs.length < sizeLine)
    (hs : ∀ (i : Nat) (x : V) (b : Bool) (H : Hp), xs[i]? = some x → fs[i]? = some b → Same H1 H → ∀ R : VK, R (.bl b) H → g x (wipe σ vs) H fun σ2 H2 => wipe σ2 vs = wipe σ vs ∧ te σ2 H2 R) (hd : Qd (upd H1 D (.lst (fs.map V.bl)))) :
    ∃ W : Nat → Nat → Hp → Prop, (∃ m, W 0 m (upd H1 D (.lst []))) ∧ ∀ i m H, W i m H →
      ((Itl K a).stop i H ∧ Qd H) ∨ ((Itl K a).go i H ∧ ∃ Nx : Hp → Prop, (∀ H', Nx H' → ∃ m', m' < m ∧ W (i + 1) m' H') ∧ ∀ x H', (Itl K a).yld i H x H' → g x (wipe σ vs) H' fun σ2 H2 => wipe σ2 vs = wipe σ vs ∧ tYes σ2 H2 fun b H3 =>
        if b = true then te σ2 H3 fun y H4 => ∃ acc, H4 D = some (.lst acc) ∧ acc.length < sizeLine ∧ Nx (upd H4 D (.lst (acc ++ [y]))) else Nx H3) := by
  have sm : ∀ i, Same H1 (upd H1 D (.lst ((fs.take i).map V.bl))) := fun i => same_nw hD
  refine lc_list (K := K) (a := a) (xs := xs) (fun i H => H = upd H1 D (.lst ((fs.take i).map V.bl))) rfl (fun i H _ e => ?_) ?_ ?_
  · subst e
    exact (sm i).seq hl
  · rintro i x H hx rfl
    have hi : i < fs.length := by
      rw [hlen]
      exact (List.getElem?_eq_some_iff.mp hx).1
    have hb : fs[i]? = some fs[i] := List.getElem?_eq_getElem hi
    have h := hs i x fs[i] _ hx hb (sm i)
    unfold tYes
    refine h (fun y H4 => ∃ acc, H4 D = some (.lst acc) ∧ acc.length < sizeLine ∧ upd H4 D (.lst (acc ++ [y])) = upd H1 D (.lst ((fs.take (i + 1)).map V.bl))) ⟨_, upd_same, ?_, ?_⟩
    · rw [List.length_map, List.length_take]
      omega
    · rw [upd_upd, List.take_add_one, hb, List.map_append]
      rfl
  · rintro H rfl
    rw [← hlen, List.take_length]
    exact hd
end Mz
set_option Elab.async false
set_option linter.all false
set_option maxRecDepth 100000
set_option maxHeartbeats 4000000
namespace Mz
open PySem PySem.Spec PyProof.Rows L2
section
variable {X : Cx} {CX : CXT} {k : Nat} {f : Addr} {fd : FuncData} {ps ks : List Str} {sp : Sp} {E : XK} {x : Str} {p pos : Pos} {kws : List Keyword} {tk : TA} {g : List Value → List Value → List Value} {gV : List V → List V → List V}
/-- f(k = v, ..): keywords alone -/
theorem pe_callN0 (F : FnOk X.prog X.w X.K X.mg X.base CX k f fd ps sp) (hr : Room k X.A) (hg : Gl X x) (hm : X.mg x = some (.ref f)) (hk : PySem.W.keepIn X.K (.ref f) = true) (hb : KBn X.K fd ps 0 ks g gV) (hx : Passes CX X E) (hkw : PK X kws tk)
    (hall : (backToKw pos (keywordEach kws X.env)).all (·.1.isSome) = true := by rfl) (hks : (backToKw pos (keywordEach kws X.env)).filterMap (·.1) = ks := by rfl) (hdb : (x == ("__debug__" : Str)) = false := by decide)
    (hpl : ((backTo pos (starEach [] X.env)).any (·.1) || (backToKw pos (keywordEach kws X.env)).any (·.1.isNone)) = false := by rfl) :
    PE X (.Call (.Name x p) [] kws pos) (tCallN 0 ks.length sp gV E tNil tk) := by
  refine ⟨fun pins s σ H Q I h => wpAny_Call_Name_kw (ld_glob I hg hm ?_ hdb)⟩
  refine PySem.W.callWith_KW0 (h₀ := X.base) I.ok.mod.kin hk hall (thn (hkw.run pos pins s σ H _ I h) fun ws s2 hv => ?_) hpl
  obtain ⟨zs, H2, I2, rz, l1, l2, q2⟩ := hv
  rw [hks]
  exact ⟨I2.kIn, run_fnN (us := []) (vs := []) F hr hb hx I2 .nil rz rfl l2 q2⟩
end
theorem same_of {b : Addr} {H H' : Hp} (h : H b = none) (k : Kp b H H') : Same H H' := fun q o e => k q o (ne_of_none e h) e
def rReprU3 (X : Cx) : List V → Hp → VK → Prop := fun xs H Q => rReprD X.K xs H Q ∨ rReprO X 1 xs H Q
theorem call_reprU3 {X : Cx} (g0 : X.A.guards = some []) (hr : Room 3 X.A) : CallR X (.builtin "repr") (rReprU3 X) := by
  intro pins s σ H xs us Q I r h
  rcases h with h | h
  · exact call_reprD g0 hr.units pins s σ H xs us Q I r h
  · exact call_reprO g0 hr pins s σ H xs us Q I r h
abbrev rEqO (K : PySem.W.Frag) (C : Addr) : R2 := fun x y H Q => ∃ a dx fs, x = .ref a ∧ H a = some (.ins C dx fs) ∧ Oth K C H y ∧ spEq K C [.ref a, y] H (fun v H2 => ∃ b : Bool, v = .bl b ∧ Q (.bl b) H2) E0
abbrev rNeO (K : PySem.W.Frag) (C : Addr) : R2 := fun x y H Q => ∃ a dx fs, x = .ref a ∧ H a = some (.ins C dx fs) ∧ Oth K C H y ∧ spEq K C [.ref a, y] H (fun v H2 => ∃ b : Bool, v = .bl b ∧ Q (.bl (!b)) H2) E0
/-- what has been made: a tuple of the place, its base and its shift -/
abbrev Row := Addr × Addr × Str × Int
def Seen (C : Addr) (H : Hp) (sn : Addr) (rows : List Row) : Prop := H sn = some (.lst (rows.map fun r => V.ref r.1)) ∧ ∀ r ∈ rows, H r.1 = some (.tup [.ref r.2.1, .str r.2.2.1, .int r.2.2.2]) ∧ Pl C H r.2.1 r.2.2.1 r.2.2.2 ∧ Good r.2.2.1 r.2.2.2
theorem Pl.same3 {C a : Addr} {H H' : Hp} {z : Str} {k : Int} (h : Pl C H a z k) (s : Same H H') : Pl C H' a z k := by
  obtain ⟨dx, ha⟩ := h
  exact ⟨dx, s _ _ ha⟩
theorem Seen.same {C sn : Addr} {H H' : Hp} {rows : List Row} (s : Same H H') (h : Seen C H sn rows) : Seen C H' sn rows := by
  obtain ⟨h1, h2⟩ := h
  refine ⟨s _ _ h1, fun r hr => ?_⟩
  obtain ⟨a, ⟨dx, b⟩, c⟩ := h2 r hr
  exact ⟨s _ _ a, ⟨dx, s _ _ b⟩, c⟩
theorem Seen.put {C sn t p : Addr} {z : Str} {k : Int} {H : Hp} {rows : List Row} (h : Seen C H sn rows) (ht : H t = some (.tup [.ref p, .str z, .int k])) (hp : Pl C H p z k) (g : Good z k) : Seen C (upd H sn (.lst ((rows.map fun r => V.ref r.1) ++ [.ref t]))) sn (rows ++ [(t, p, z, k)]) := by
  obtain ⟨h1, h2⟩ := h
  have ne : ∀ {q : Addr} {o : HO}, H q = some o → (∀ xs, o ≠ .lst xs) → q ≠ sn := fun e no x => by
    subst x
    rw [h1] at e
    cases e
    exact no _ rfl
  have all : ∀ r : Row, H r.1 = some (.tup [.ref r.2.1, .str r.2.2.1, .int r.2.2.2]) → Pl C H r.2.1 r.2.2.1 r.2.2.2 → Good r.2.2.1 r.2.2.2 → (upd H sn (.lst ((rows.map fun r => V.ref r.1) ++ [.ref t]))) r.1 = some (.tup [.ref r.2.1, .str r.2.2.1, .int r.2.2.2]) ∧ Pl C (upd H sn (.lst ((rows.map fun r => V.ref r.1) ++ [.ref t]))) r.2.1 r.2.2.1 r.2.2.2 ∧ Good r.2.2.1 r.2.2.2 := by
    rintro r a ⟨dx, b⟩ c
    refine ⟨?_, ⟨dx, ?_⟩, c⟩
    · rw [upd_ne (ne a fun xs e => nomatch e)]
      exact a
    · rw [upd_ne (ne b fun xs e => nomatch e)]
      exact b
  refine ⟨by rw [upd_same, List.map_append]; rfl, fun r hr => ?_⟩
  rcases List.mem_append.mp hr with h | h
  · obtain ⟨a, b, c⟩ := h2 r h
    exact all r a b c
  · rw [List.mem_singleton.mp h]
    exact all (t, p, z, k) ht hp g
theorem ne_not (u : V) : (!decide (u = u)) = false := by rw [decide_eq_true rfl]; rfl
theorem show_data {X : Cx} {w : Str} {v : V} {H1 : Hp} {d : PyData} (hw : (reprText w).length ≤ 20) (h : Fl H1 v d) (hf : Fit d) :
    ∃ t : Str, ∀ (H2 : Hp) (p : Addr) (QQ : VK), Same H1 H2 → H2 p = some (.lst [.str w, v]) → (∀ H', Same H2 H' → QQ (.str t) H') → rReprU3 X [.ref p] H2 QQ := by
  obtain ⟨f1, f2, f3, f4⟩ := wd_fit hw hf
  exact ⟨_, fun H2 p QQ s e q => .inl ⟨.ref p, wD w d, rfl, wd_dp e (h.at fun a _ o e => s a o e).dp, f1, f2, f3, f4, q H2 (Same.refl H2)⟩⟩
theorem show_sv {X : Cx} {w : Str} {v : V} {H1 : Hp} (hw : (reprText w).length ≤ 20) (h : Sv X.K H1 v) :
    ∃ t : Str, ∀ (H2 : Hp) (p : Addr) (QQ : VK), Same H1 H2 → H2 p = some (.lst [.str w, v]) → (∀ H', Same H2 H' → QQ (.str t) H') → rReprU3 X [.ref p] H2 QQ := by
  obtain ⟨⟨d, h1, h2⟩, _⟩ := h
  exact show_data hw h1 h2
theorem show_bs {X : Cx} {C fR : Addr} {fdR : FuncData} {w : Str} {v : V} {H1 : Hp} (GR : FnOk X.prog X.w X.K X.mg X.base CX0 1 fR fdR ["self"] (spRepr C)) (bR : Binds X.K fdR ["self"] []) (iR : PySem.W.findIn X.K (.ref C) "__repr__" = some (some (.ref fR))) (jR : PySem.W.isFn X.K (.ref fR) = true)
    (hw : (reprText w).length ≤ 20) (h : Bs X.K C H1 v) : ∃ t : Str, ∀ (H2 : Hp) (p : Addr) (QQ : VK), Same H1 H2 → H2 p = some (.lst [.str w, v]) → (∀ H', Same H2 H' → QQ (.str t) H') → rReprU3 X [.ref p] H2 QQ := by
  rcases h with ⟨z, rfl, hz⟩ | ⟨⟨d, h1, h2, _⟩, _⟩ | ⟨a, rfl, pa⟩
  · obtain ⟨⟨d, h1, h2⟩, _⟩ := sv_str (K := X.K) (H := H1) hz
    exact show_data hw h1 h2
  · exact show_data hw h1 h2
  · refine ⟨listText [reprText w, reprP "n" 0], fun H2 p QQ s e q => .inr ⟨p, .str w, [.ref a], [reprText w, reprP "n" 0], fun H => Pl C H a "n" 0, rfl, e, fun H H' s ⟨dx, h⟩ => ⟨dx, s _ _ h⟩, ?_, rfl, ?_, ?_, q⟩⟩
    · obtain ⟨dx, h⟩ := pa
      exact ⟨dx, s _ _ h⟩
    · intro i u hu
      match i, hu with
      | 0, hu =>
        cases hu
        exact ⟨_, rfl, shv_str (Nat.le_trans hw (by decide))⟩
      | 1, hu =>
        cases hu
        refine ⟨_, rfl, shv_own (j := 0) GR bR iR jR fun H h => ?_⟩
        obtain ⟨dx, hx⟩ := id h
        exact ⟨dx, _, hx, a, "n", 0, rfl, h, ⟨by decide +kernel, by decide +kernel, .inr (by decide +kernel), by decide +kernel, by decide⟩, rfl, Same.refl H⟩
      | i + 2, hu => exact absurd hu (by simp)
    · rw [list2_len]
      have h1 : (reprP "n" 0).length ≤ 100 := by decide +kernel
      have h2 : 1000 ≤ sizeLine := by decide
      omega
def spLaw (K : PySem.W.Frag) : Sp := fun vs H Q _ => ∃ (a : Addr) (ns : List Int), vs = [.ref a] ∧ SqL K H a (ns.map V.int) ∧ ns.length ≤ 63 ∧ ∀ H', Q (.bl true) H'
section
variable {P : Program} {w : World} {K : PySem.W.Frag} {mg : Str → Option Value} {base : Heap}
/-- a def that the law calls -/
structure C1 (P : Program) (w : World) (K : PySem.W.Frag) (mg : Str → Option Value) (base : Heap) (x : Str) (k : Nat) (ps : List Str) (sp : Sp) (f : Addr) (fd : FuncData) : Prop where
  ok : FnOk P w K mg base CX0 k f fd ps sp
  m : mg x = some (.ref f)
  k : PySem.W.keepIn K (.ref f) = true
  b : Binds K fd ps []
abbrev NLaw : List Str := ["_law_script", "_law_k", "_law_box_here", "_law_root", "_law_other", "_law_seen", "_law_step", "_law_one", "_law_due_here", "_law_place", "_law_same", "_law_far"]
theorem scLaw : FnScope NLaw ["_law_script"] (defScope sLaw) := ⟨rfl, rfl, rfl, by decide +kernel, rfl, by decide +kernel, by decide +kernel⟩
theorem ok_law {f fC fB fA fS2 fD fM fP fI fS fE fR C : Addr} {fd fdC fdB fdA fdS2 fdD fdM fdP fdI fdS fdE fdR : FuncData} {gB g2 gP : List Value → List Value → List Value} {d0 d1 : List Value}
    (F : Fun K "law" "law" sLaw f fd) (B : Blt mg) (D : Blp mg) (Z : Cpl K mg C) (Y : Pty K C) (N : Npl K C) (N2 : PySem.W.kitOne K (.type "tuple") (.ref C) = some false) (mR : mg "repr" = none)
    (GC : C1 P w K mg base "_law_cell" 1 ["_law_script", "_law_k"] (spCell K) fC fdC) (GB : C1 P w K mg base "_law_box" 1 ["_law_cell_here"] spBox fB fdB) (GA : C1 P w K mg base "_law_base" 5 ["_law_box_here"] (spBase3 K C) fA fdA) (GH : C1 P w K mg base "_law_shifts" 2 ["_law_box_here"] (spShifts K) fS2 fdS2)
    (GD : C1 P w K mg base "_law_due" 3 ["_law_root", "_law_step"] (spMade K C) fD fdD) (GM : C1 P w K mg base "_law_made" 5 ["_law_root", "_law_step"] (spMade K C) fM fdM) (GP : C1 P w K mg base "is_place" 6 ["value"] (spIsPl K C) fP fdP) (cP : KBn K fdP ["value"] 0 ["value"] gP (fun vs zs => vs ++ zs))
    (M : Mk K C fI) (GI : FnOk P w K mg base CX0 3 fI fdI ["self", "base", "shift"] (spInit C)) (kI2 : KBn K fdI ["self", "base", "shift"] 2 ["shift"] g2 (fun vs zs => vs ++ zs)) (kB : KBn K fdI ["self", "base", "shift"] 1 ["base"] gB (fun vs zs => vs ++ zs ++ [.int 0]))
    (h0 : Vals [.str "", .int 0] d0) (b0 : Binds K fdI ["self", "base", "shift"] d0)
    (GS : FnOk P w K mg base CX0 1 fS fdS ["self"] (spStr C)) (bS : Binds K fdS ["self"] []) (iS : PySem.W.findIn K (.ref C) "__str__" = some (some (.ref fS))) (jS : PySem.W.isFn K (.ref fS) = true) (hfm : PySem.W.findIn K (.ref C) "__format__" = some (some (.builtin "object.__format__")))
    (GE : FnOk P w K mg base CX0 1 fE fdE ["self", "other"] (spEq K C)) (bE : Binds K fdE ["self", "other"] []) (iE : PySem.W.findIn K (.ref C) "__eq__" = some (some (.ref fE))) (jE : PySem.W.isFn K (.ref fE) = true) (hn : PySem.W.findIn K (.ref C) "__ne__" = some (some (.builtin "object.__ne__")))
    (GR : FnOk P w K mg base CX0 1 fR fdR ["self"] (spRepr C)) (bR : Binds K fdR ["self"] []) (iR : PySem.W.findIn K (.ref C) "__repr__" = some (some (.ref fR))) (jR : PySem.W.isFn K (.ref fR) = true) : FnG P w K mg base CX0 7 f fd ["_law_script"] (spLaw K) := by
  refine fun_okG F scLaw (fun vs H Q E h => ?_) (fun cdv A outer s H vs Q E hg hr h => ?_)
  · obtain ⟨a, ns, rfl, _⟩ := h
    rfl
  · obtain ⟨a, ns, rfl, hS, hlen, q⟩ := h
    have nd := scLaw.nd
    have hr1 : Room 1 _ := hr.mono (by decide)
    have hr2 : Room 2 _ := hr.mono (by decide)
    have hr3 : Room 3 _ := hr.mono (by decide)
    have hr4 : Room 4 _ := hr.mono (by decide)
    have hr5 : Room 5 _ := hr.mono (by decide)
    refine ⟨_, pss_cons (ps_for PassesOwn.never rfl (pi_range1 rfl B.range (pa_cons (pe_callB (call_max2 rfl) (by rfl) B.max (by decide +kernel) (pa_cons pe_int (pa_cons (pe_callB (call_min2 rfl) (by rfl) B.min (by decide +kernel)
          (pa_cons pe_int (pa_cons (pe_callB call_len_seq (by rfl) B.len PySem.boot_len (pa_cons (pv 0) pa_nil)) pa_nil))) pa_nil))) pa_nil)) (pg_name (i := 1) nd rfl (Or.inl rfl))
        (pss_cons (ps_set (i := 2) nd rfl (Or.inl rfl) (pe_call GB.ok hr1 (by rfl) GB.m GB.k GB.b .nil pass0 (pa_cons (pe_call GC.ok hr1 (by rfl) GC.m GC.k GC.b .nil pass0 (pa_cons (pv 0) (pa_cons (pv 1) pa_nil))) pa_nil)))
        (pss_cons (ps_par3 (i := 3) (j := 4) (l := 5) rfl nd rfl rfl rfl (by decide) (by decide) (by decide) rfl rfl rfl (pa_cons (pe_call GA.ok hr5 (by rfl) GA.m GA.k GA.b .nil pass0 (pa_cons (pv 2) pa_nil)) (pa_cons (pe_call GA.ok hr5 (by rfl) GA.m GA.k GA.b .nil pass0 (pa_cons (pv 2) pa_nil)) (pa_cons (pe_lst pa_nil) pa_nil))) (by rfl))
        (pss_cons (ps_for PassesOwn.never rfl (pi_list (pe_call GH.ok hr2 (by rfl) GH.m GH.k GH.b .nil pass0 (pa_cons (pv 2) pa_nil))) (pg_name (i := 6) nd rfl (Or.inr rfl))
          (pss_one (ps_for PassesOwn.never rfl (pi_list (pe_lst (pa_cons (pv 3) (pa_cons (pv 4) pa_nil)))) (pg_name (i := 7) nd rfl (Or.inr rfl))
            (pss_cons (ps_set (i := 8) nd rfl (Or.inl rfl) (pe_call GD.ok hr3 (by rfl) GD.m GD.k GD.b .nil pass0 (pa_cons (pv 7) (pa_cons (pv 6) pa_nil))))
            (pss_cons (ps_if (pt_cmpR op_ne (pe_callB (call_reprU3 hg hr3) (by rfl) mR (by decide +kernel) (pa_cons (pe_call GM.ok hr5 (by rfl) GM.m GM.k GM.b .nil pass0 (pa_cons (pv 7) (pa_cons (pv 6) pa_nil))) pa_nil)) (pe_callB (call_reprU3 hg hr3) (by rfl) mR (by decide +kernel) (pa_cons (pv 8) pa_nil)) (nomark _)) (pss_one (ps_ret pe_bl)) pss_nil)
            (pss_one (ps_if (pt_cmpR op_eq (pe_ix ix_list (pv 8) pe_int (fun _ _ => rfl)) pe_str (nomark _))
              (pss_one (ps_expr (pe_bm PySem.F.plainAttrs_list PySem.F.slot_list_append PySem.F.type_list_append mt_append (pv 5) (pa_cons (pe_tup (pa_cons (pe_makeK M GI hr4 (by rfl) Z.mgC kI2 pass0 (pa_cons (pv 7) pa_nil) (pk_cons (pv 6) pk_nil)) (pa_cons (pv 7) (pa_cons (pv 6) pa_nil)))) pa_nil)))) pss_nil)))))))
        (pss_cons (ps_for PassesOwn.never rfl (pi_list (pv 5)) (pg_tup (by rfl) (pgs_cons (pg_name (i := 9) nd rfl (Or.inr rfl)) (pgs_cons (pg_name (i := 7) nd rfl (Or.inr rfl)) (pgs_cons (pg_name (i := 6) nd rfl (Or.inr rfl)) pgs_nil))))
          (pss_cons (ps_setLc (i := 10) (own := [("_law_far", 11)]) (g := gName 11) rfl nd rfl rfl (sw_true rfl rfl rfl (by decide +kernel)) (pi_list (pv 5)) (blkOk_by (N := NLaw) (sc := defScope sLaw) (by decide +kernel)) (fun _ _ _ _ _ => pg_name (i := 11) nd rfl (Or.inl rfl)) (fun _ _ _ _ _ => pts_nil)
            (fun _ _ _ _ _ => pe_cmpR (r := rEqO K C) (op_eqO GE hr1 bE iE jE) (pv 9) (pe_ix (r := rIxT K) ix_tup (pv 11) pe_int (fun _ _ => rfl)) (nomark _)))
          (pss_cons (ps_if (PW.pt (pw_or (pt_cmpR (op_neD hr.units) (pv 10) (pe_lc (own := [("_law_far", 11)]) (g := gName 11) (tt := tYes) rfl nd (pi_list (pv 5)) (blkOk_by (N := NLaw) (sc := defScope sLaw) (by decide +kernel)) (fun _ _ _ _ _ => pg_name (i := 11) nd rfl (Or.inl rfl)) (fun _ _ _ _ _ => pts_nil)
              (fun _ _ _ _ _ => pe_and (pe_cmpR op_eq (pv 7) (pe_ix (r := rIxT K) ix_tup (pv 11) pe_int (fun _ _ => rfl)) (nomark _)) (pe_one (pe_cmpR op_eq (pv 6) (pe_ix (r := rIxT K) ix_tup (pv 11) pe_int (fun _ _ => rfl)) (nomark _))))) (nomark _)) (pw_or1 (pt_not (pt_val (pe_callN0 GP.ok hr (by rfl) GP.m GP.k cP pass0 (pk_cons (pv 9) pk_nil))))))) (pss_one (ps_ret pe_bl)) pss_nil)
          (pss_cons (ps_if (pt_cmpR (op_neD hr.units) (pe_lc (own := [("_law_far", 11)]) (g := gName 11) (tt := tYes) rfl nd (pi_list (pv 5)) (blkOk_by (N := NLaw) (sc := defScope sLaw) (by decide +kernel)) (fun _ _ _ _ _ => pg_name (i := 11) nd rfl (Or.inl rfl)) (fun _ _ _ _ _ => pts_nil) (fun _ _ _ _ _ => pe_cmpR (r := rNeO K C) (op_neO GE hr2 bE iE jE hn Y.hm) (pv 9) (pe_ix (r := rIxT K) ix_tup (pv 11) pe_int (fun _ _ => rfl)) (nomark _)))
              (pe_lc (own := [("_law_due_here", 8)]) (g := gName 8) (tt := tYes) rfl nd (pi_list (pv 10)) (blkOk_by (N := NLaw) (sc := defScope sLaw) (by decide +kernel)) (fun _ _ _ _ _ => pg_name (i := 8) nd rfl (Or.inl rfl)) (fun _ _ _ _ _ => pts_nil) (fun _ _ _ _ _ => pe_not (pv 8))) (nomark _)) (pss_one (ps_ret pe_bl)) pss_nil)
          (pss_cons (ps_if (PW.pt (pw_or (pt_cmpR (op_eqO GE hr1 bE iE jE) (pv 9) (pe_callTy (call_strO GS hr3 bS iS jS) (by rfl) D.str (by decide +kernel) (pa_cons (pv 9) pa_nil)) (nomark _)) (pw_or (pt_cmpR (op_eqO GE hr1 bE iE jE) (pv 9) (pe_tup (pa_cons (pv 7) (pa_cons (pv 6) pa_nil))) (nomark _)) (pw_or (pt_cmpR (op_eqO GE hr1 bE iE jE) (pv 9) (pv 6) (nomark _)) (pw_or1 (pt_not (pt_cmpR (op_neO GE hr2 bE iE jE hn Y.hm) (pv 9) pe_non (nomark _)))))))) (pss_one (ps_ret pe_bl)) pss_nil)
          (pss_one (ps_if (PW.pt (pw_or (pt_cmpR op_ne (pe_joined1 (pe_fmtO (pv 9) GS hr3 bS iS jS hfm Y.hm)) (pe_callTy (call_strO GS hr3 bS iS jS) (by rfl) D.str (by decide +kernel) (pa_cons (pv 9) pa_nil)) (nomark _)) (pw_or1 (pt_not (pt_cmpR (op_neO GE hr2 bE iE jE hn Y.hm) (pv 9) (pv 6) (nomark _)))))) (pss_one (ps_ret pe_bl)) pss_nil)))))))
        (pss_one (ps_if (PW.pt (pw_or (pt_cmpR op_ne (pe_callTy (call_strO GS hr3 bS iS jS) (by rfl) D.str (by decide +kernel) (pa_cons (pe_make0 M GI hr4 (by rfl) Z.mgC b0 h0 pass0) pa_nil)) pe_str (nomark _)) (pw_or1 (pt_cmpR (op_neO GE hr2 bE iE jE hn Y.hm) (pe_makeK0 M GI hr4 (by rfl) Z.mgC kB pass0 (pk_cons pe_str pk_nil)) (pe_makeK M GI hr4 (by rfl) Z.mgC kI2 pass0 (pa_cons pe_str pa_nil) (pk_cons pe_int pk_nil)) (nomark _))))) (pss_one (ps_ret pe_bl)) pss_nil)))))))
      (pss_one (ps_ret pe_bl)), ?_⟩
    refine ⟨_, rfl, a, _, rfl, .inl hS, _, _, rfl, _, _, rfl, ?_⟩
    have lenE : ((ns.map V.int).length : Int) = (ns.length : Int) := by rw [List.length_map]
    generalize hm : (if (if (((ns.map V.int).length : Nat) : Int) < 8 then (((ns.map V.int).length : Nat) : Int) else 8) > 2 then (if (((ns.map V.int).length : Nat) : Int) < 8 then (((ns.map V.int).length : Nat) : Int) else 8) else 2) = m
    have m0 : 2 ≤ m ∧ m ≤ 8 := by
      rw [← hm]
      split <;> split <;> omega
    refine ⟨m, rfl, by omega, by omega, for_range (lo := 0) (n := m.toNat) (fun _ σ H' => ∃ v1 v2 v3 v4 v5 v6 v7 v8 v9 v10 v11 : Option V, σ = [some (.ref a), v1, v2, v3, v4, v5, v6, v7, v8, v9, v10, v11] ∧ Same H H')
      ⟨_, _, _, _, _, _, _, _, _, _, _, rfl, Same.refl H⟩ ?_ fun σ H' _ => q H'⟩
    rintro i σ H0 hi ⟨v1, v2, v3, v4, v5, v6, v7, v8, v9, v10, v11, rfl, s0⟩
    have ei : (0 + (i : Int)) = ((i : Nat) : Int) := by omega
    rw [ei]
    refine ⟨_, rfl, _, rfl, a, ns, i, rfl, s0.seq hS, by omega, fun c => ?_⟩
    refine ⟨c, rfl, fun b H1 nb B1 K1 => ?_⟩
    refine ⟨_, rfl, b, 0, rfl, B1, by omega, fun root H2 r2 n2 B2 K2 => ?_⟩
    refine ⟨_, rfl, b, 12, rfl, B2, by omega, fun other H3 o3 n3 B3 K3 => ?_⟩
    refine ⟨Nat.zero_le _, fun sn nsn => ⟨_, _, _, rfl, ?_⟩⟩
    have r3 := r2.kp K3 n2
    have s4 : Same H3 (upd H3 sn (.lst [])) := same_nw nsn
    have t4 : upd H3 sn (.lst []) sn = some (.lst []) := upd_same
    have rsn : ∀ a, root = .ref a → a ≠ sn := fun a e => by
      obtain ⟨o, ho⟩ := r3.live e
      exact ne_of_none ho nsn
    have osn : ∀ a, other = .ref a → a ≠ sn := fun a e => by
      obtain ⟨o, ho⟩ := o3.live e
      exact ne_of_none ho nsn
    have snb : sn ≠ b := by
      obtain ⟨_, _, _, e, _⟩ := B3
      exact (ne_of_none e nsn).symm
    generalize upd H3 sn (.lst []) = H4 at s4 t4
    have B4 := B3.same s4
    refine ⟨_, rfl, b, 24, rfl, B4, by omega, fun ps od H5 sod nps e5 fo B5 K5 => ?_⟩
    have r5 := (r3.same s4).kp K5 n2
    have o5 := (o3.same s4).kp K5 n3
    have t5 : H5 sn = some (.lst []) := K5 _ _ snb t4
    have s05 : Same H0 H5 := same_of nb (K1.trans (K2.trans (K3.trans ((Kp.same s4).trans K5))))
    have odsn : ∀ a, od = .ref a → a ≠ sn := fun a e x => by
      have h := fo a e
      rw [x, t4] at h
      cases h
    have psn : ps ≠ sn := fun x => by
      rw [x, t4] at nps
      cases nps
    have steps : ∀ x ∈ sh11 ++ [od], Sv K H5 x ∧ ∀ a, x = .ref a → a ≠ sn := by
      intro x hx
      rcases List.mem_append.mp hx with h | h
      · obtain ⟨j, hj, rfl⟩ := List.mem_map.mp h
        have hj2 : j < 11 := List.mem_range.mp hj
        refine ⟨?_, fun a e => nomatch e⟩
        have all : ∀ j : Fin 11, ((((j.val : Nat) : Int) - 5).natAbs.log2 < 1920) ∧ (Str.ofString (toString (((j.val : Nat) : Int) - 5))).length ≤ 2000 := by decide +kernel
        obtain ⟨h1, h2⟩ := all ⟨j, hj2⟩
        exact sv_int h1 h2
      · rw [List.mem_singleton.mp h]
        exact ⟨sod, odsn⟩
    generalize hTS : tFor _ (gTup _ _ _) _ = TS
    have second : ∀ (x6 x7 x8 x9 x10 x11 : Option V) (H6 : Hp) (rows : List Row) (D : Ends), Same H0 H6 → Seen C H6 sn rows → rows.length ≤ 24 → (∀ H' y6 y7 y9 y10, Same H0 H' → D.nx [some (.ref a), some (.int i), some (.ref b), some root, some other, some (.ref sn), y6, y7, x8, y9, y10, x11] H') →
        TS D [some (.ref a), some (.int i), some (.ref b), some root, some other, some (.ref sn), x6, x7, x8, x9, x10, x11] H6 := by
      intro x6 x7 x8 x9 x10 x11 H6 rows DD s06 sn6 len dq
      rw [← hTS]
      refine ⟨_, rfl, sn, rfl, ⟨_, SqL.of sn6.1⟩, for_list (K := K) (a := sn) (xs := rows.map fun r => V.ref r.1)
        (fun _ σ H' => ∃ y6 y7 y9 y10 : Option V, σ = [some (.ref a), some (.int i), some (.ref b), some root, some other, some (.ref sn), y6, y7, x8, y9, y10, x11] ∧ Same H6 H')
        ⟨_, _, _, _, rfl, Same.refl _⟩ (fun _ σ H' _ ⟨_, _, _, _, _, sm⟩ => SqL.of (sm _ _ sn6.1)) ?_ fun σ H' ⟨y6, y7, y9, y10, e, sm⟩ => by rw [e]; exact dq H' y6 y7 y9 y10 (s06.trans sm)⟩
      rintro j xx σ H7 hxx ⟨y6, y7, y9, y10, rfl, s67⟩
      rw [List.getElem?_map] at hxx
      obtain ⟨⟨t, p, z, k⟩, hr, rfl⟩ := Option.map_eq_some_iff.mp hxx
      have hrm := List.mem_of_getElem? hr
      have S7 := sn6.same s67
      obtain ⟨ht, hp, g⟩ := S7.2 _ hrm
      have short : (rows.map fun r => V.ref r.1).length < sizeLine := by
        rw [List.length_map]
        exact Nat.lt_of_le_of_lt len (by decide)
      have pick : ∀ {i2 : Nat} {x2 : V}, (rows.map fun r => V.ref r.1)[i2]? = some x2 → ∃ r2 : Row, rows[i2]? = some r2 ∧ x2 = .ref r2.1 := by
        intro i2 x2 h
        rw [List.getElem?_map] at h
        obtain ⟨r2, h2, e2⟩ := Option.map_eq_some_iff.mp h
        exact ⟨r2, h2, e2.symm⟩
      generalize heq : (rows.map fun r : Row => decide (z = r.2.2.1) && decide (k = r.2.2.2)) = eqs
      have eql : eqs.length = (rows.map fun r => V.ref r.1).length := by rw [← heq, List.length_map, List.length_map]
      have eqb : ∀ {i2 : Nat} {r2 : Row} {b2 : Bool}, rows[i2]? = some r2 → eqs[i2]? = some b2 → b2 = (decide (z = r2.2.2.1) && decide (k = r2.2.2.2)) := by
        intro i2 r2 b2 h1 h2
        rw [← heq, List.getElem?_map, h1] at h2
        exact (Option.some.inj h2).symm
      refine ⟨t, _, rfl, SqT.of ht, rfl, _, _, rfl, _, _, rfl, _, _, rfl, rfl, ?_⟩
      refine ⟨_, rfl, sn, rfl, ⟨_, SqL.of S7.1⟩, fun D1 nD1 => lc_bools (K := K) (fs := eqs) eql nD1 (SqL.of S7.1) short ?_ ?_⟩
      · intro i2 x2 b2 H8 hx2 hb2 s8 R hR
        obtain ⟨r2, hr2, rfl⟩ := pick hx2
        obtain rfl := eqb hr2 hb2
        have S8 := S7.same s8
        obtain ⟨h2, p2, _⟩ := S8.2 _ (List.mem_of_getElem? hr2)
        obtain ⟨dx, ha⟩ := hp.same3 s8
        exact ⟨rfl, _, rfl, _, rfl, r2.1, _, _, _, rfl, rfl, SqT.of h2, rfl, p, dx, _, rfl, ha, ⟨_, p2.ty Y, by simp [PySem.W.notFirst]⟩, p, z, k, ⟨dx, ha⟩, .inl ⟨r2.2.1, _, _, rfl, p2, _, rfl, hR⟩⟩
      have s78 : Same H7 (upd H7 D1 (.lst (eqs.map V.bl))) := same_nw nD1
      have t8 : upd H7 D1 (.lst (eqs.map V.bl)) D1 = some (.lst (eqs.map V.bl)) := upd_same
      generalize upd H7 D1 (.lst (eqs.map V.bl)) = H8 at s78 t8
      have S8 := S7.same s78
      have hp8 := hp.same3 s78
      -- which are alike, by their parts
      refine ⟨_, rfl, _, rfl, sn, rfl, ⟨_, SqL.of S8.1⟩, fun D2 nD2 => lc_bools (K := K) (fs := eqs) eql nD2 (SqL.of S8.1) short ?_ ?_⟩
      · intro i2 x2 b2 H9 hx2 hb2 s9 R hR
        obtain ⟨r2, hr2, rfl⟩ := pick hx2
        obtain rfl := eqb hr2 hb2
        obtain ⟨h2, p2, _⟩ := (S8.same s9).2 _ (List.mem_of_getElem? hr2)
        refine ⟨rfl, _, rfl, _, rfl, r2.1, _, _, _, rfl, rfl, SqT.of h2, rfl, rfl, _, rfl, ite2 (fun h1 => ?_) (fun h1 => ?_)⟩
        · refine ⟨_, rfl, _, rfl, r2.1, _, _, _, rfl, rfl, SqT.of h2, rfl, rfl, ?_⟩
          have e1 : z = r2.2.2.1 := V.str.inj (of_decide_eq_true h1)
          have e2 : decide (V.int k = V.int r2.2.2.2) = decide (k = r2.2.2.2) := decide_eq_decide.mpr ⟨fun x => V.int.inj x, fun x => by rw [x]⟩
          rw [decide_eq_true e1, Bool.true_and] at hR
          rw [e2]
          exact hR
        · have e1 : ¬ z = r2.2.2.1 := fun x => h1 (decide_eq_true (by rw [x]))
          rw [decide_eq_false e1, Bool.false_and] at hR
          exact hR
      have s89 : Same H8 (upd H8 D2 (.lst (eqs.map V.bl))) := same_nw nD2
      have t9 : upd H8 D2 (.lst (eqs.map V.bl)) D2 = some (.lst (eqs.map V.bl)) := upd_same
      generalize upd H8 D2 (.lst (eqs.map V.bl)) = H9 at s89 t9
      have S9 := S8.same s89
      have hp9 := hp8.same3 s89
      refine ne_bools (s89 _ _ t8) t9 ⟨_, rfl, iteF ?_⟩
      refine ⟨_, rfl, rfl, rfl, .ref p, rfl, .inl ⟨p, z, k, rfl, hp9, _, rfl, iteF ?_⟩⟩
      -- which are unlike
      refine ⟨_, rfl, sn, rfl, ⟨_, SqL.of S9.1⟩, fun D3 nD3 => lc_bools (K := K) (fs := eqs.map (!·)) (by rw [List.length_map]; exact eql) nD3 (SqL.of S9.1) short ?_ ?_⟩
      · intro i2 x2 b2 H10 hx2 hb2 s10 R hR
        obtain ⟨r2, hr2, rfl⟩ := pick hx2
        rw [List.getElem?_map] at hb2
        obtain ⟨b3, hb3, rfl⟩ := Option.map_eq_some_iff.mp hb2
        obtain rfl := eqb hr2 hb3
        obtain ⟨h2, p2, _⟩ := (S9.same s10).2 _ (List.mem_of_getElem? hr2)
        obtain ⟨dx, ha⟩ := hp9.same3 s10
        exact ⟨rfl, _, rfl, _, rfl, r2.1, _, _, _, rfl, rfl, SqT.of h2, rfl, p, dx, _, rfl, ha, ⟨_, p2.ty Y, by simp [PySem.W.notFirst]⟩, p, z, k, ⟨dx, ha⟩, .inl ⟨r2.2.1, _, _, rfl, p2, _, rfl, hR⟩⟩
      have s910 : Same H9 (upd H9 D3 (.lst ((eqs.map (!·)).map V.bl))) := same_nw nD3
      have t10 : upd H9 D3 (.lst ((eqs.map (!·)).map V.bl)) D3 = some (.lst ((eqs.map (!·)).map V.bl)) := upd_same
      generalize upd H9 D3 (.lst ((eqs.map (!·)).map V.bl)) = H10 at s910 t10
      have t8' : H10 D1 = some (.lst (eqs.map V.bl)) := s910 _ _ (s89 _ _ t8)
      have shortB : (eqs.map V.bl).length < sizeLine := by
        rw [List.length_map, eql]
        exact short
      refine ⟨_, rfl, D1, rfl, ⟨_, SqL.of t8'⟩, fun D4 nD4 => lc_bools (K := K) (fs := eqs.map (!·)) (by rw [List.length_map, List.length_map]) nD4 (SqL.of t8') shortB ?_ ?_⟩
      · intro i2 x2 b2 H11 hx2 hb2 s11 R hR
        rw [List.getElem?_map] at hx2 hb2
        obtain ⟨b3, hb3, rfl⟩ := Option.map_eq_some_iff.mp hx2
        rw [hb3] at hb2
        obtain rfl := Option.some.inj hb2
        exact ⟨rfl, _, rfl, _, rfl, hR⟩
      have s1011 : Same H10 (upd H10 D4 (.lst ((eqs.map (!·)).map V.bl))) := same_nw nD4
      have t11 : upd H10 D4 (.lst ((eqs.map (!·)).map V.bl)) D4 = some (.lst ((eqs.map (!·)).map V.bl)) := upd_same
      generalize upd H10 D4 (.lst ((eqs.map (!·)).map V.bl)) = H11 at s1011 t11
      have hp11 := (hp9.same3 s910).same3 s1011
      have s711 := s78.trans (s89.trans (s910.trans s1011))
      obtain ⟨dx, h11⟩ := id hp11
      refine ne_bools (s1011 _ _ t10) t11 ⟨_, rfl, iteF ?_⟩
      have nf : ∀ {T : String}, PySem.W.subIn K (.type T) (.ref C) = some false → PySem.W.notFirst K C (.type T) = true := fun h => by
        unfold PySem.W.notFirst
        rw [h]
        simp
      refine ⟨_, rfl, _, rfl, p, dx, _, rfl, h11, p, z, k, rfl, hp11, g, _, rfl, p, dx, _, rfl, h11, ⟨_, .base (.str _), nf rfl⟩, p, z, k, hp11, .inr ⟨_, rfl, ⟨_, .base (.str _), N.str⟩, _, rfl, _, rfl, iteF ?_⟩⟩
      refine ⟨_, rfl, _, rfl, _, rfl, (by show 2 ≤ sizeLine; decide), fun tp ntp => ?_⟩
      have s1112 : Same H11 (upd H11 tp (.tup [.str z, .int k])) := same_nw ntp
      have t12 : upd H11 tp (.tup [.str z, .int k]) tp = some (.tup [.str z, .int k]) := upd_same
      generalize upd H11 tp (.tup [.str z, .int k]) = H12 at s1112 t12
      have h12 := s1112 _ _ h11
      have hp12 := hp11.same3 s1112
      refine ⟨p, dx, _, rfl, h12, ⟨_, .base (.tup t12), nf rfl⟩, p, z, k, hp12, .inr ⟨_, rfl, ⟨_, .base (.tup t12), N2⟩, _, rfl, _, rfl, iteF ?_⟩⟩
      refine ⟨_, rfl, _, rfl, p, dx, _, rfl, h12, ⟨_, .base (.int k), nf rfl⟩, p, z, k, hp12, .inr ⟨_, rfl, ⟨_, .base (.int k), N.int⟩, _, rfl, _, rfl, iteF ?_⟩⟩
      refine ⟨_, rfl, p, dx, _, rfl, h12, ⟨_, .base .non, nf rfl⟩, p, z, k, hp12, .inr ⟨_, rfl, ⟨_, .base .non, N.non⟩, _, rfl, _, rfl, iteF ?_⟩⟩
      have zl : (strP z k).length ≤ sizeLine := Nat.le_trans (strP_sm g).1 (by decide)
      refine ⟨_, rfl, p, dx, _, rfl, h12, p, z, k, rfl, hp12, g, _, rfl, zl, _, rfl, p, dx, _, rfl, h12, p, z, k, rfl, hp12, g, _, rfl, rfl, _, rfl, ?_⟩
      rw [ne_not]
      refine iteF ⟨_, rfl, _, rfl, p, dx, _, rfl, h12, ⟨_, .base (.int k), nf rfl⟩, p, z, k, hp12, .inr ⟨_, rfl, ⟨_, .base (.int k), N.int⟩, _, rfl, _, rfl, iteF ?_⟩⟩
      exact ⟨_, _, _, _, rfl, s67.trans (s711.trans s1112)⟩
    clear hTS
    refine ⟨ps, rfl, ⟨_, SqL.of e5⟩, for_list (K := K) (a := ps) (xs := sh11 ++ [od])
      (fun j σ H' => ∃ (x6 x7 x8 : Option V) (rows : List Row), σ = [some (.ref a), some (.int i), some (.ref b), some root, some other, some (.ref sn), x6, x7, x8, v9, v10, v11] ∧ Kp sn H5 H' ∧ Seen C H' sn rows ∧ rows.length ≤ 2 * j)
      ⟨_, _, _, [], rfl, Kp.refl, ⟨t5, fun r hr => nomatch hr⟩, Nat.le_refl _⟩ (fun _ σ H' _ ⟨_, _, _, _, _, kp, _⟩ => SqL.of (kp _ _ psn e5)) ?_ ?_⟩
    · rintro j x σ H6 hx ⟨x6, x7, x8, rows, rfl, kp, sn6, len⟩
      obtain ⟨sx5, xsn⟩ := steps x (List.mem_of_getElem? hx)
      refine ⟨_, rfl, _, rfl, (by show 2 ≤ sizeLine; decide), fun p2 np2 => ?_⟩
      have s67 : Same H6 (upd H6 p2 (.lst [root, other])) := same_nw np2
      have t7 : upd H6 p2 (.lst [root, other]) p2 = some (.lst [root, other]) := upd_same
      have p2n : p2 ≠ sn := fun y => by
        rw [y, sn6.1] at np2
        cases np2
      generalize upd H6 p2 (.lst [root, other]) = H7 at s67 t7
      refine ⟨p2, rfl, ⟨_, SqL.of t7⟩, for_list (K := K) (a := p2) (xs := [root, other])
        (fun jj σ H' => ∃ (x7 x8 : Option V) (rows' : List Row), σ = [some (.ref a), some (.int i), some (.ref b), some root, some other, some (.ref sn), some x, x7, x8, v9, v10, v11] ∧ Kp sn H7 H' ∧ Seen C H' sn rows' ∧ rows'.length ≤ 2 * j + jj)
        ⟨_, _, rows, rfl, Kp.refl, sn6.same s67, by omega⟩ (fun _ σ H' _ ⟨_, _, _, _, kp', _⟩ => SqL.of (kp' _ _ p2n t7)) ?_ ?_⟩
      · rintro jj y σ H8 hy ⟨x7, x8, rows', rfl, kp8, sn8, len8⟩
        have k58 : Kp sn H5 H8 := (kp.trans (Kp.same s67)).trans kp8
        have by8 : Bs K C H8 y := by
          have hm := List.mem_of_getElem? hy
          simp only [List.mem_cons, List.not_mem_nil, or_false] at hm
          rcases hm with rfl | rfl
          · exact r5.kp k58 rsn
          · exact o5.kp k58 osn
        have sx8 : Sv K H8 x := sx5.at fun a e o ho => k58 a o (xsn a e) ho
        have jlt : jj < 2 := (List.getElem?_eq_some_iff.mp hy).1
        refine ⟨_, rfl, _, rfl, y, x, rfl, by8, sx8, ?_⟩
        have over : ∀ (p3 : Addr) (H10 : Hp) (wd : Str) (v : V), Same H8 H10 → ∃ (x7 x8 : Option V) (rows'' : List Row), [some (.ref a), some (.int i), some (.ref b), some root, some other, some (.ref sn), some x, some y, some (.ref p3), v9, v10, v11] = [some (.ref a), some (.int i), some (.ref b), some root, some other, some (.ref sn), some x, x7, x8, v9, v10, v11] ∧ Kp sn H7 H10 ∧ Seen C H10 sn rows'' ∧ rows''.length ≤ 2 * j + (jj + 1) :=
          fun p3 H10 wd v s => ⟨_, _, rows', rfl, kp8.trans (Kp.same s), sn8.same s, by omega⟩
        rcases cls_bv by8 sx8 with ⟨z, k, rfl, rfl, g⟩ | e1 | ⟨z, rfl, e1, e2⟩
        · refine .inl ⟨z, k, rfl, rfl, g, fun p3 H9 s9 np3 e3 => ?_⟩
          refine ⟨_, rfl, _, rfl, _, _, rfl, by8.same s9, sx8.same s9, .inl ⟨z, k, rfl, rfl, g, fun p4 H10 s10 np4 e4 => ?_⟩⟩
          obtain ⟨f1, f2, f3, f4⟩ := made_fit g
          refine .inl ⟨.ref p4, madeD z k _, rfl, made_dp e4, f1, f2, f3, f4, ?_⟩
          refine ⟨_, rfl, .inl ⟨.ref p3, madeD z k _, rfl, made_dp (s10 _ _ e3), f1, f2, f3, f4, rfl, _, rfl, ?_⟩⟩
          rw [ne_not]
          have s810 := s9.trans s10
          refine iteF ⟨_, rfl, p3, _, _, _, rfl, rfl, SqL.of (s10 _ _ e3), rfl, rfl, _, rfl, ite2 (fun _ => ?_) (fun h => (h (decide_eq_true rfl)).elim)⟩
          refine ⟨_, rfl, .inl ⟨rfl, _, SqL.of (s810 _ _ sn8.1)⟩, _, rfl, _, rfl, rfl, rfl, fun x1 d1 nx nd1 nn => ?_⟩
          have sM : Same H10 (upd (upd H10 d1 (.own x1)) x1 (.ins C d1 [])) := fun r o h => by
            rw [upd_ne (ne_of_none h nx), upd_ne (ne_of_none h nd1)]
            exact h
          refine ⟨x1, d1, z, k, rfl, upd_same, g.1, g.2.1, g.2.2.1, g.2.2.2.1, g.2.2.2.2, fun H11 u11 t11 => ⟨rfl, ?_⟩⟩
          have s11 : Same H10 H11 := fun r o h => u11 r o (ne_of_none h nx) (sM _ _ h)
          refine ⟨_, rfl, _, rfl, (by show 3 ≤ sizeLine; decide), fun tt ntt => ?_⟩
          have s12 : Same H11 (upd H11 tt (.tup [.ref x1, .str z, .int k])) := same_nw ntt
          have t12 : upd H11 tt (.tup [.ref x1, .str z, .int k]) tt = some (.tup [.ref x1, .str z, .int k]) := upd_same
          generalize upd H11 tt (.tup [.ref x1, .str z, .int k]) = H12 at s12 t12
          have s812 := s810.trans (s11.trans s12)
          have sn12 := sn8.same s812
          refine ⟨sn, _, _, rfl, rfl, sn12.1, ?_, ?_⟩
          · rw [List.length_map]
            exact Nat.lt_of_le_of_lt len8 (Nat.lt_of_lt_of_le (show 2 * j + jj < 100 by have hj := (List.getElem?_eq_some_iff.mp hx).1; have : (sh11 ++ [od]).length = 12 := rfl; omega) (by decide))
          · refine ⟨_, _, rows' ++ [(tt, x1, z, k)], rfl, (kp8.trans (Kp.same s812)).trans Kp.here, sn12.put t12 ⟨d1, s12 _ _ t11⟩ g, ?_⟩
            rw [List.length_append]
            show rows'.length + 1 ≤ _
            omega
        · refine .inr (.inl ⟨e1, fun p3 H9 s9 np3 e3 => ?_⟩)
          refine ⟨_, rfl, _, rfl, _, _, rfl, by8.same s9, sx8.same s9, .inr (.inl ⟨e1, fun p4 H10 s10 np4 e4 => ?_⟩)⟩
          have s810 := s9.trans s10
          obtain ⟨t, ht⟩ := show_bs (X := (cxOf CX0 P w K mg base NLaw "law" (defScope sLaw) f cdv A outer s H E).nox) (w := "name") GR bR iR jR (by decide +kernel) (by8.same s810)
          refine ht H10 p4 _ (Same.refl H10) e4 fun H11 s11 => ?_
          refine ⟨_, rfl, ht H11 p3 _ s11 (s11 _ _ (s10 _ _ e3)) fun H12 s12 => ⟨rfl, _, rfl, ?_⟩⟩
          rw [ne_not]
          have s1012 := s11.trans s12
          refine iteF ⟨_, rfl, p3, _, _, _, rfl, rfl, SqL.of (s1012 _ _ (s10 _ _ e3)), rfl, rfl, _, rfl, ite2 (fun h => absurd (V.str.inj (of_decide_eq_true h)) (by decide +kernel)) (fun _ => ?_)⟩
          exact over p3 H12 "" .non (s810.trans s1012)
        · refine .inr (.inr ⟨z, rfl, e1, e2, fun p3 H9 s9 np3 e3 => ?_⟩)
          refine ⟨_, rfl, _, rfl, _, _, rfl, by8.same s9, sx8.same s9, .inr (.inr ⟨z, rfl, e1, e2, fun p4 H10 s10 np4 e4 => ?_⟩)⟩
          have s810 := s9.trans s10
          obtain ⟨t, ht⟩ := show_sv (X := (cxOf CX0 P w K mg base NLaw "law" (defScope sLaw) f cdv A outer s H E).nox) (w := "integer") (by decide +kernel) (sx8.same s810)
          refine ht H10 p4 _ (Same.refl H10) e4 fun H11 s11 => ?_
          refine ⟨_, rfl, ht H11 p3 _ s11 (s11 _ _ (s10 _ _ e3)) fun H12 s12 => ⟨rfl, _, rfl, ?_⟩⟩
          rw [ne_not]
          have s1012 := s11.trans s12
          refine iteF ⟨_, rfl, p3, _, _, _, rfl, rfl, SqL.of (s1012 _ _ (s10 _ _ e3)), rfl, rfl, _, rfl, ite2 (fun h => absurd (V.str.inj (of_decide_eq_true h)) (by decide +kernel)) (fun _ => ?_)⟩
          exact over p3 H12 "" .non (s810.trans s1012)
      · rintro σ H8 ⟨x7, x8, rows', rfl, kp8, sn8, len8⟩
        exact ⟨_, _, _, rows', rfl, (kp.trans (Kp.same s67)).trans kp8, sn8, by have : [root, other].length = 2 := rfl; omega⟩
    · rintro σ H6 ⟨x6, x7, x8, rows, rfl, kp, sn6, len⟩
      have n0 : H0 sn = none := (same_of nb (K1.trans (K2.trans K3))).free nsn
      have s06 : Same H0 H6 := fun p o e => kp p o (ne_of_none e n0) (s05 p o e)
      refine second x6 x7 x8 v9 v10 v11 H6 rows _ s06 sn6 (by have : (sh11 ++ [od]).length = 12 := rfl; omega) fun H' y6 y7 y9 y10 s07 => ?_
      -- the three places of the end
      refine fun x1 d1 nx nd1 nn => ?_
      have sA : Same H' (upd (upd H' d1 (.own x1)) x1 (.ins C d1 [])) := fun r o h => by
        rw [upd_ne (ne_of_none h nx), upd_ne (ne_of_none h nd1)]
        exact h
      have g0 : Good "" 0 := good_num (by decide) (by decide)
      have gn : Good "n" 0 := ⟨by decide +kernel, by decide +kernel, .inr (by decide +kernel), by decide +kernel, by decide⟩
      refine ⟨x1, d1, "", 0, rfl, upd_same, g0.1, g0.2.1, g0.2.2.1, g0.2.2.2.1, g0.2.2.2.2, fun H7 u7 t7 => ⟨rfl, ?_⟩⟩
      have s17 : Same H' H7 := fun r o h => u7 r o (ne_of_none h nx) (sA _ _ h)
      refine ⟨x1, d1, _, rfl, t7, x1, "", 0, rfl, ⟨d1, t7⟩, g0, _, rfl, rfl, _, rfl, ?_⟩
      rw [show strP "" 0 = "0" by decide +kernel, ne_not]
      refine iteF ⟨rfl, rfl, fun x2 d2 nx2 nd2 nn2 => ?_⟩
      have sB : Same H7 (upd (upd H7 d2 (.own x2)) x2 (.ins C d2 [])) := fun r o h => by
        rw [upd_ne (ne_of_none h nx2), upd_ne (ne_of_none h nd2)]
        exact h
      refine ⟨x2, d2, "n", 0, rfl, upd_same, gn.1, gn.2.1, gn.2.2.1, gn.2.2.2.1, gn.2.2.2.2, fun H8 u8 t8 => ⟨rfl, ?_⟩⟩
      have s78 : Same H7 H8 := fun r o h => u8 r o (ne_of_none h nx2) (sB _ _ h)
      refine ⟨rfl, rfl, fun x3 d3 nx3 nd3 nn3 => ?_⟩
      have sC : Same H8 (upd (upd H8 d3 (.own x3)) x3 (.ins C d3 [])) := fun r o h => by
        rw [upd_ne (ne_of_none h nx3), upd_ne (ne_of_none h nd3)]
        exact h
      refine ⟨x3, d3, "n", 0, rfl, upd_same, gn.1, gn.2.1, gn.2.2.1, gn.2.2.2.1, gn.2.2.2.2, fun H9 u9 t9 => ⟨rfl, ?_⟩⟩
      have s89 : Same H8 H9 := fun r o h => u9 r o (ne_of_none h nx3) (sC _ _ h)
      have p3 : Pl C H9 x3 "n" 0 := ⟨d3, t9⟩
      have p2 : Pl C H9 x2 "n" 0 := ⟨d2, s89 _ _ t8⟩
      refine ⟨x2, d2, _, rfl, s89 _ _ t8, ⟨_, p3.ty Y, by simp [PySem.W.notFirst]⟩, x2, "n", 0, p2, .inl ⟨x3, "n", 0, rfl, p3, _, rfl, _, rfl, ?_⟩⟩
      exact iteF ⟨_, _, _, _, _, _, _, _, _, _, _, rfl, s0.trans (s07.trans (s17.trans (s78.trans s89)))⟩
end
end Mz
set_option Elab.async false
set_option linter.all false
set_option maxRecDepth 100000
set_option maxHeartbeats 4000000
namespace Mz
open PySem PySem.Spec PyProof.Rows L2
theorem kb_one {K : PySem.W.Frag} {x qual : Str} {st : Stmt} {f : Addr} {fd : FuncData} {ps : List Str} (F : Fun K x qual st f fd) (n : Nat) (ks : List Str)
    (h : ∀ (kV doc pm : Value) (an : Option Addr) (cdv ct : Value) (us ws : List Value), us.length = n → ws.length = ks.length → bindArgs (PySem.W.fnOf x qual (defArgs st) (defBody st) (defScope st) .none kV doc pm an cdv ct) ⟨us, ks.zip ws⟩ = pure (ps.zip (us ++ ws))) :
    KBn K fd ps n ks (fun us ws => us ++ ws) (fun vs zs => vs ++ zs) := by
  obtain ⟨oc, od, kV, doc, pm, an, cdv, ct, osl, rfl, lk, hcd⟩ := F.ex
  exact ⟨fun s us ws _ hu hw => .of_eq (h kV doc pm an cdv ct us ws hu hw), fun r1 r2 => r1.append r2⟩
theorem kit_own {K : PySem.W.Frag} {C : Addr} {T : String} (hm : PySem.W.mroIn K C (.type T) = some false) (h2 : PySem.W.kitMeta T = true) : PySem.W.kitOne K (.ref C) (.type T) = some false := by
  unfold PySem.W.kitOne
  rw [if_neg (by intro e; cases e)]
  show (if PySem.W.kitMeta T = true then PySem.W.mroIn K C (.type T) else none) = some false
  rw [if_pos h2, hm]
theorem kit_ref {K : PySem.W.Frag} {C : Addr} {T : String} {b : Bool} (hdct : PySem.W.hasDictIn K C = true) (ht : PySem.W.typeIn K (.ref C) = some (.type "type")) (h4 : PySem.W.subIn K (.type T) (.ref C) = some b) : PySem.W.kitOne K (.type T) (.ref C) = some b := by
  obtain ⟨cd, hc, _⟩ := PySem.W.any_some hdct
  unfold PySem.W.kitOne
  rw [if_neg (by intro e; cases e)]
  show (if ((PySem.W.clsIn K C).isSome && PySem.W.typeIn K (.ref C) == some (.type "type")) = true then PySem.W.subIn K (.type T) (.ref C) else none) = some b
  rw [if_pos (by rw [hc, ht] <;> rfl)]
  exact h4
/-! a written dict from texts to ints -/
def entOf (P : Params) (q : Str × Int × Tok × Tok) : DictEntry := ⟨PyData.keyHash P q.1, .str q.1 q.2.2.1, .int q.2.1 q.2.2.2⟩
def lookF (z : Str) : List (Str × Int × Tok × Tok) → Option Int
  | [] => none
  | q :: r => if z = q.1 then some q.2.1 else lookF z r
theorem lit_of {P : Params} : ∀ l : List (Str × Int × Tok × Tok), PySem.W.KeysLit P (l.map (entOf P))
  | [] => trivial
  | q :: r => ⟨⟨q.1, q.2.2.1, rfl, rfl⟩, lit_of r⟩
theorem find_ent {P : Params} {z : Str} : ∀ l : List (Str × Int × Tok × Tok), (lookF z l = none ∧ (l.map (entOf P)).find? (fun x => x.key.isStr z) = none) ∨
    ∃ i t e, lookF z l = some i ∧ (l.map (entOf P)).find? (fun x => x.key.isStr z) = some e ∧ e.val = .int i t
  | [] => .inl ⟨rfl, rfl⟩
  | q :: r => by
    by_cases h : z = q.1
    · refine .inr ⟨q.2.1, q.2.2.2, entOf P q, if_pos h, ?_, rfl⟩
      rw [List.map_cons, List.find?_cons_of_pos]
      show (q.1 == z) = true
      rw [h]
      exact beq_self_eq_true _
    · have e1 : lookF z (q :: r) = lookF z r := if_neg h
      have e2 : ((q :: r).map (entOf P)).find? (fun x => x.key.isStr z) = (r.map (entOf P)).find? (fun x => x.key.isStr z) := by
        rw [List.map_cons, List.find?_cons_of_neg]
        show ¬ (q.1 == z) = true
        intro x
        exact h (beq_iff_eq.mp x).symm
      rw [e1, e2]
      exact find_ent r
theorem tab_of {K : PySem.W.Frag} {w : World} {d : Addr} {es : Array DictEntry} {n : Nat} {l : List (Str × Int × Tok × Tok)} {f : Str → Option Int} (h : K.lookup d = some ⟨.type "dict", none, .dict es n, #[]⟩) (hl : es.toList = l.map (entOf w.params)) (low : (d == sysModules) = false)
    (hf : ∀ z, f z = lookF z l) : Tab K w d f := by
  refine ⟨es, n, ⟨h, by rw [hl]; exact lit_of l, low⟩, fun z => ?_⟩
  have nr : (es.toList.any fun x => x.refKey) = false := by
    rw [hl]
    rw [List.any_eq_false]
    intro e he
    obtain ⟨q, _, rfl⟩ := List.mem_map.mp he
    exact Bool.false_ne_true
  unfold PySem.W.nsIn
  rw [h]
  dsimp only
  rcases find_ent (P := w.params) (z := z) l with ⟨e1, e2⟩ | ⟨i, t, e, e1, e2, e3⟩
  · rw [hl, e2]
    rw [hl] at nr
    refine ⟨none, ?_, .inl ⟨(hf z).trans e1, rfl⟩⟩
    dsimp only
    rw [nr]
    rfl
  · rw [hl, e2]
    exact ⟨some (.int i t), by rw [← e3], .inr ⟨i, t, (hf z).trans e1, rfl⟩⟩
theorem all_mk {l : PySem.W.OpenLaw} {w : World} {K : PySem.W.Frag} {h : Heap} {mg : Str → Option Value} {fa : Addr} (X : K.In h) (G : h.Ns mainGlobals mg) (hfa : mg "law" = some (.ref fa))
    {cP cX cI cN cM po pb ph fI tD kD dN dS : Addr} {ro rb rh : List Value}
    {fwh : Addr} {odwh anwh : Option Addr} {slwh : Array (Option Value)} {ocwh kVwh dcwh pmwh cdwh ctwh : Value}
    {fii : Addr} {odii anii : Option Addr} {slii : Array (Option Value)} {ocii kVii dcii pmii cdii ctii : Value}
    {fna : Addr} {odna anna : Option Addr} {slna : Array (Option Value)} {ocna kVna dcna pmna cdna ctna : Value}
    {fip : Addr} {odip anip : Option Addr} {slip : Array (Option Value)} {ocip kVip dcip pmip cdip ctip : Value}
    {fle : Addr} {odle anle : Option Addr} {slle : Array (Option Value)} {ocle kVle dcle pmle cdle ctle : Value}
    {fpt : Addr} {odpt anpt : Option Addr} {slpt : Array (Option Value)} {ocpt kVpt dcpt pmpt cdpt ctpt : Value}
    {fce : Addr} {odce ance : Option Addr} {slce : Array (Option Value)} {occe kVce dcce pmce cdce ctce : Value}
    {fbo : Addr} {odbo anbo : Option Addr} {slbo : Array (Option Value)} {ocbo kVbo dcbo pmbo cdbo ctbo : Value}
    {fta : Addr} {odta anta : Option Addr} {slta : Array (Option Value)} {octa kVta dcta pmta cdta ctta : Value}
    {fba : Addr} {odba anba : Option Addr} {slba : Array (Option Value)} {ocba kVba dcba pmba cdba ctba : Value}
    {fsh : Addr} {odsh ansh : Option Addr} {slsh : Array (Option Value)} {ocsh kVsh dcsh pmsh cdsh ctsh : Value}
    {fnd : Addr} {odnd annd : Option Addr} {slnd : Array (Option Value)} {ocnd kVnd dcnd pmnd cdnd ctnd : Value}
    {fma : Addr} {odma anma : Option Addr} {slma : Array (Option Value)} {ocma kVma dcma pmma cdma ctma : Value}
    {fte : Addr} {odte ante : Option Addr} {slte : Array (Option Value)} {octe kVte dcte pmte cdte ctte : Value}
    {fdu : Addr} {oddu andu : Option Addr} {sldu : Array (Option Value)} {ocdu kVdu dcdu pmdu cddu ctdu : Value}
    {fla : Addr} {odla anla : Option Addr} {slla : Array (Option Value)} {ocla kVla dcla pmla cdla ctla : Value}
    {fmo : Addr} {odmo anmo : Option Addr} {slmo : Array (Option Value)} {ocmo kVmo dcmo pmmo cdmo ctmo : Value}
    {fmb : Addr} {odmb anmb : Option Addr} {slmb : Array (Option Value)} {ocmb kVmb dcmb pmmb cdmb ctmb : Value}
    {fmh : Addr} {odmh anmh : Option Addr} {slmh : Array (Option Value)} {ocmh kVmh dcmh pmmh cdmh ctmh : Value}
    {fms : Addr} {odms anms : Option Addr} {slms : Array (Option Value)} {ocms kVms dcms pmms cdms ctms : Value}
    {fmr : Addr} {odmr anmr : Option Addr} {slmr : Array (Option Value)} {ocmr kVmr dcmr pmmr cdmr ctmr : Value}
    {fmq : Addr} {odmq anmq : Option Addr} {slmq : Array (Option Value)} {ocmq kVmq dcmq pmmq cdmq ctmq : Value}
    {fmx : Addr} {odmx anmx : Option Addr} {slmx : Array (Option Value)} {ocmx kVmx dcmx pmmx cdmx ctmx : Value}
    {fmi : Addr} {odmi anmi : Option Addr} {slmi : Array (Option Value)} {ocmi kVmi dcmi pmmi cdmi ctmi : Value}
    {fmn : Addr} {odmn anmn : Option Addr} {slmn : Array (Option Value)} {ocmn kVmn dcmn pmmn cdmn ctmn : Value}
    (awh : PySem.W.nsIn K mainGlobals "_is_whole" = some (some (.ref fwh))) (lwh : K.lookup fwh = some ⟨ocwh, odwh, .func (PySem.W.fnOf "_is_whole" "_is_whole" (defArgs sWhole) (defBody sWhole) (defScope sWhole) .none kVwh dcwh pmwh anwh cdwh ctwh), slwh⟩) (cwh : PySem.W.codeIn K cdwh "_is_whole" = true) (kwh : PySem.W.keepIn K (.ref fwh) = true)
    (aii : PySem.W.nsIn K mainGlobals "is_integer" = some (some (.ref fii))) (lii : K.lookup fii = some ⟨ocii, odii, .func (PySem.W.fnOf "is_integer" "is_integer" (defArgs sIsInt) (defBody sIsInt) (defScope sIsInt) .none kVii dcii pmii anii cdii ctii), slii⟩) (cii : PySem.W.codeIn K cdii "is_integer" = true) (kii : PySem.W.keepIn K (.ref fii) = true)
    (ana : PySem.W.nsIn K mainGlobals "is_name" = some (some (.ref fna))) (lna : K.lookup fna = some ⟨ocna, odna, .func (PySem.W.fnOf "is_name" "is_name" (defArgs sIsName) (defBody sIsName) (defScope sIsName) .none kVna dcna pmna anna cdna ctna), slna⟩) (cna : PySem.W.codeIn K cdna "is_name" = true) (kna : PySem.W.keepIn K (.ref fna) = true)
    (aip : PySem.W.nsIn K mainGlobals "is_place" = some (some (.ref fip))) (lip : K.lookup fip = some ⟨ocip, odip, .func (PySem.W.fnOf "is_place" "is_place" (defArgs sIsPlace) (defBody sIsPlace) (defScope sIsPlace) .none kVip dcip pmip anip cdip ctip), slip⟩) (cip : PySem.W.codeIn K cdip "is_place" = true) (kip : PySem.W.keepIn K (.ref fip) = true)
    (ale : PySem.W.nsIn K mainGlobals "_least_shift" = some (some (.ref fle))) (lle : K.lookup fle = some ⟨ocle, odle, .func (PySem.W.fnOf "_least_shift" "_least_shift" (defArgs sLeast) (defBody sLeast) (defScope sLeast) .none kVle dcle pmle anle cdle ctle), slle⟩) (cle : PySem.W.codeIn K cdle "_least_shift" = true) (kle : PySem.W.keepIn K (.ref fle) = true)
    (apt : PySem.W.nsIn K mainGlobals "_parts_of_text" = some (some (.ref fpt))) (lpt : K.lookup fpt = some ⟨ocpt, odpt, .func (PySem.W.fnOf "_parts_of_text" "_parts_of_text" (defArgs sParts) (defBody sParts) (defScope sParts) .none kVpt dcpt pmpt anpt cdpt ctpt), slpt⟩) (cpt : PySem.W.codeIn K cdpt "_parts_of_text" = true) (kpt : PySem.W.keepIn K (.ref fpt) = true)
    (ace : PySem.W.nsIn K mainGlobals "_law_cell" = some (some (.ref fce))) (lce : K.lookup fce = some ⟨occe, odce, .func (PySem.W.fnOf "_law_cell" "_law_cell" (defArgs sCell) (defBody sCell) (defScope sCell) .none kVce dcce pmce ance cdce ctce), slce⟩) (cce : PySem.W.codeIn K cdce "_law_cell" = true) (kce : PySem.W.keepIn K (.ref fce) = true)
    (abo : PySem.W.nsIn K mainGlobals "_law_box" = some (some (.ref fbo))) (lbo : K.lookup fbo = some ⟨ocbo, odbo, .func (PySem.W.fnOf "_law_box" "_law_box" (defArgs sBox) (defBody sBox) (defScope sBox) .none kVbo dcbo pmbo anbo cdbo ctbo), slbo⟩) (cbo : PySem.W.codeIn K cdbo "_law_box" = true) (kbo : PySem.W.keepIn K (.ref fbo) = true)
    (ata : PySem.W.nsIn K mainGlobals "_law_take" = some (some (.ref fta))) (lta : K.lookup fta = some ⟨octa, odta, .func (PySem.W.fnOf "_law_take" "_law_take" (defArgs sTake) (defBody sTake) (defScope sTake) .none kVta dcta pmta anta cdta ctta), slta⟩) (cta : PySem.W.codeIn K cdta "_law_take" = true) (kta : PySem.W.keepIn K (.ref fta) = true)
    (aba : PySem.W.nsIn K mainGlobals "_law_base" = some (some (.ref fba))) (lba : K.lookup fba = some ⟨ocba, odba, .func (PySem.W.fnOf "_law_base" "_law_base" (defArgs sBase3) (defBody sBase3) (defScope sBase3) .none kVba dcba pmba anba cdba ctba), slba⟩) (cba : PySem.W.codeIn K cdba "_law_base" = true) (kba : PySem.W.keepIn K (.ref fba) = true)
    (ash : PySem.W.nsIn K mainGlobals "_law_shifts" = some (some (.ref fsh))) (lsh : K.lookup fsh = some ⟨ocsh, odsh, .func (PySem.W.fnOf "_law_shifts" "_law_shifts" (defArgs sShifts) (defBody sShifts) (defScope sShifts) .none kVsh dcsh pmsh ansh cdsh ctsh), slsh⟩) (csh : PySem.W.codeIn K cdsh "_law_shifts" = true) (ksh : PySem.W.keepIn K (.ref fsh) = true)
    (and : PySem.W.nsIn K mainGlobals "_law_name_due" = some (some (.ref fnd))) (lnd : K.lookup fnd = some ⟨ocnd, odnd, .func (PySem.W.fnOf "_law_name_due" "_law_name_due" (defArgs sNameDue) (defBody sNameDue) (defScope sNameDue) .none kVnd dcnd pmnd annd cdnd ctnd), slnd⟩) (cnd : PySem.W.codeIn K cdnd "_law_name_due" = true) (knd : PySem.W.keepIn K (.ref fnd) = true)
    (ama : PySem.W.nsIn K mainGlobals "_law_made" = some (some (.ref fma))) (lma : K.lookup fma = some ⟨ocma, odma, .func (PySem.W.fnOf "_law_made" "_law_made" (defArgs sMade) (defBody sMade) (defScope sMade) .none kVma dcma pmma anma cdma ctma), slma⟩) (cma : PySem.W.codeIn K cdma "_law_made" = true) (kma : PySem.W.keepIn K (.ref fma) = true)
    (ate : PySem.W.nsIn K mainGlobals "_law_text" = some (some (.ref fte))) (lte : K.lookup fte = some ⟨octe, odte, .func (PySem.W.fnOf "_law_text" "_law_text" (defArgs sText3) (defBody sText3) (defScope sText3) .none kVte dcte pmte ante cdte ctte), slte⟩) (cte : PySem.W.codeIn K cdte "_law_text" = true) (kte : PySem.W.keepIn K (.ref fte) = true)
    (adu : PySem.W.nsIn K mainGlobals "_law_due" = some (some (.ref fdu))) (ldu : K.lookup fdu = some ⟨ocdu, oddu, .func (PySem.W.fnOf "_law_due" "_law_due" (defArgs sDue3) (defBody sDue3) (defScope sDue3) .none kVdu dcdu pmdu andu cddu ctdu), sldu⟩) (cdu : PySem.W.codeIn K cddu "_law_due" = true) (kdu : PySem.W.keepIn K (.ref fdu) = true)
    (ala : PySem.W.nsIn K mainGlobals "law" = some (some (.ref fla))) (lla : K.lookup fla = some ⟨ocla, odla, .func (PySem.W.fnOf "law" "law" (defArgs sLaw) (defBody sLaw) (defScope sLaw) .none kVla dcla pmla anla cdla ctla), slla⟩) (cla : PySem.W.codeIn K cdla "law" = true) (kla : PySem.W.keepIn K (.ref fla) = true)
    (aP : PySem.W.nsIn K mainGlobals "Place" = some (some (.ref cP)))
    (aX : PySem.W.nsIn K mainGlobals "InvalidPlace" = some (some (.ref cX)))
    (aI : PySem.W.nsIn K mainGlobals "InvalidInteger" = some (some (.ref cI)))
    (aN : PySem.W.nsIn K mainGlobals "InvalidName" = some (some (.ref cN)))
    (aM : PySem.W.nsIn K mainGlobals "MapError" = some (some (.ref cM)))
    (amo : PySem.W.findCls K (.ref cP) (.type "type") "of" = some (.get (.builtin "classmethod.__get__") (.ref po) .none (.ref cP))) (amo2 : PySem.W.recIn K po "classmethod" = some (.ref fmo :: ro)) (lmo : K.lookup fmo = some ⟨ocmo, odmo, .func (PySem.W.fnOf "of" "Place.of" (defArgs (inClass sPlace 1)) (defBody (inClass sPlace 1)) (defScope (inClass sPlace 1)) .none kVmo dcmo pmmo anmo cdmo ctmo), slmo⟩) (cmo : PySem.W.codeIn K cdmo "Place.of" = true) (kmo : PySem.W.keepIn K (.ref fmo) = true)
    (amb : PySem.W.findIn K (.ref cP) "base" = some (some (.ref pb))) (amb1 : PySem.W.specialIn K (.ref pb) "__get__" = some (some (.builtin "property.__get__"))) (amb2 : PySem.W.takesIn K (.ref pb) = some true) (amb3 : PySem.W.recIn K pb "property" = some (.ref fmb :: rb)) (lmb : K.lookup fmb = some ⟨ocmb, odmb, .func (PySem.W.fnOf "base" "Place.base" (defArgs (inClass sPlace 2)) (defBody (inClass sPlace 2)) (defScope (inClass sPlace 2)) .none kVmb dcmb pmmb anmb cdmb ctmb), slmb⟩) (cmb : PySem.W.codeIn K cdmb "Place.base" = true) (kmb : PySem.W.keepIn K (.ref fmb) = true)
    (amh : PySem.W.findIn K (.ref cP) "shift" = some (some (.ref ph))) (amh1 : PySem.W.specialIn K (.ref ph) "__get__" = some (some (.builtin "property.__get__"))) (amh2 : PySem.W.takesIn K (.ref ph) = some true) (amh3 : PySem.W.recIn K ph "property" = some (.ref fmh :: rh)) (lmh : K.lookup fmh = some ⟨ocmh, odmh, .func (PySem.W.fnOf "shift" "Place.shift" (defArgs (inClass sPlace 3)) (defBody (inClass sPlace 3)) (defScope (inClass sPlace 3)) .none kVmh dcmh pmmh anmh cdmh ctmh), slmh⟩) (cmh : PySem.W.codeIn K cdmh "Place.shift" = true) (kmh : PySem.W.keepIn K (.ref fmh) = true)
    (ams : PySem.W.findIn K (.ref cP) "__str__" = some (some (.ref fms))) (lms : K.lookup fms = some ⟨ocms, odms, .func (PySem.W.fnOf "__str__" "Place.__str__" (defArgs (inClass sPlace 4)) (defBody (inClass sPlace 4)) (defScope (inClass sPlace 4)) .none kVms dcms pmms anms cdms ctms), slms⟩) (cms : PySem.W.codeIn K cdms "Place.__str__" = true) (kms : PySem.W.keepIn K (.ref fms) = true)
    (amr : PySem.W.findIn K (.ref cP) "__repr__" = some (some (.ref fmr))) (lmr : K.lookup fmr = some ⟨ocmr, odmr, .func (PySem.W.fnOf "__repr__" "Place.__repr__" (defArgs (inClass sPlace 5)) (defBody (inClass sPlace 5)) (defScope (inClass sPlace 5)) .none kVmr dcmr pmmr anmr cdmr ctmr), slmr⟩) (cmr : PySem.W.codeIn K cdmr "Place.__repr__" = true) (kmr : PySem.W.keepIn K (.ref fmr) = true)
    (amq : PySem.W.findIn K (.ref cP) "__eq__" = some (some (.ref fmq))) (lmq : K.lookup fmq = some ⟨ocmq, odmq, .func (PySem.W.fnOf "__eq__" "Place.__eq__" (defArgs (inClass sPlace 6)) (defBody (inClass sPlace 6)) (defScope (inClass sPlace 6)) .none kVmq dcmq pmmq anmq cdmq ctmq), slmq⟩) (cmq : PySem.W.codeIn K cdmq "Place.__eq__" = true) (kmq : PySem.W.keepIn K (.ref fmq) = true)
    (amx : PySem.W.findIn K (.ref cX) "__init__" = some (some (.ref fmx))) (lmx : K.lookup fmx = some ⟨ocmx, odmx, .func (PySem.W.fnOf "__init__" "InvalidPlace.__init__" (defArgs (inClass sInvPlace 0)) (defBody (inClass sInvPlace 0)) (defScope (inClass sInvPlace 0)) .none kVmx dcmx pmmx anmx cdmx ctmx), slmx⟩) (cmx : PySem.W.codeIn K cdmx "InvalidPlace.__init__" = true) (kmx : PySem.W.keepIn K (.ref fmx) = true)
    (ami : PySem.W.findIn K (.ref cI) "__init__" = some (some (.ref fmi))) (lmi : K.lookup fmi = some ⟨ocmi, odmi, .func (PySem.W.fnOf "__init__" "InvalidInteger.__init__" (defArgs (inClass sInvInt 0)) (defBody (inClass sInvInt 0)) (defScope (inClass sInvInt 0)) .none kVmi dcmi pmmi anmi cdmi ctmi), slmi⟩) (cmi : PySem.W.codeIn K cdmi "InvalidInteger.__init__" = true) (kmi : PySem.W.keepIn K (.ref fmi) = true)
    (amn : PySem.W.findIn K (.ref cN) "__init__" = some (some (.ref fmn))) (lmn : K.lookup fmn = some ⟨ocmn, odmn, .func (PySem.W.fnOf "__init__" "InvalidName.__init__" (defArgs (inClass sInvName 0)) (defBody (inClass sInvName 0)) (defScope (inClass sInvName 0)) .none kVmn dcmn pmmn anmn cdmn ctmn), slmn⟩) (cmn : PySem.W.codeIn K cdmn "InvalidName.__init__" = true) (kmn : PySem.W.keepIn K (.ref fmn) = true)
    (jms : PySem.W.isFn K (.ref fms) = true)
    (jmr : PySem.W.isFn K (.ref fmr) = true)
    (jmq : PySem.W.isFn K (.ref fmq) = true)
    (fo : PySem.W.fnIn K fmo = true)
    (tX : PySem.W.typeIn K (.ref fmx) = some (.type "function"))
    (tI : PySem.W.typeIn K (.ref fmi) = some (.type "function"))
    (tN_ : PySem.W.typeIn K (.ref fmn) = some (.type "function"))
    {odI anI odT : Option Addr} {slI slT : Array (Option Value)} {ocI dcI pmI cdI ctI : Value} {nT : Nat} {kT kS kL kA kM : Tok}
    (iI : PySem.W.findIn K (.ref cP) "__init__" = some (some (.ref fI)))
    (jI : PySem.W.isFn K (.ref fI) = true)
    (lI : K.lookup fI = some ⟨ocI, odI, .func (PySem.W.fnOf "__init__" "Place.__init__" (defArgs (inClass sPlace 0)) (defBody (inClass sPlace 0)) (defScope (inClass sPlace 0)) (.ref tD) (.ref kD) dcI pmI anI cdI ctI), slI⟩)
    (cI_ : PySem.W.codeIn K cdI "Place.__init__" = true)
    (kI : PySem.W.keepIn K (.ref fI) = true)
    (lT : K.lookup tD = some ⟨.type "tuple", odT, .seq #[.str "" kT] nT, slT⟩)
    (sD : PySem.W.nsIn K kD "shift" = some (some (.int 0 kS)))
    (pg : PySem.W.plainGet K cP Str.empty = true)
    (hd : PySem.W.hasDictIn K cP = true)
    (pv_ : PySem.W.plainOver K cP = true)
    (sa : PySem.W.findIn K (.ref cP) "__setattr__" = some (some (.builtin "object.__setattr__")))
    (mk : PySem.W.makesIn K cP = true)
    (kc : PySem.W.keepIn K (.ref cP) = true)
    (nB : PySem.W.findIn K (.ref cP) "_base" = some none)
    (nS : PySem.W.findIn K (.ref cP) "_shift" = some none)
    (ha : PySem.W.findIn K (.ref cP) "__class__" = some (some (.builtin "object.__class__")))
    (hn : PySem.W.specialIn K (.builtin "object.__class__") "__get__" = some (some (.builtin "getset_descriptor.__get__")))
    (htk : PySem.W.takesIn K (.builtin "object.__class__") = some true)
    (hm : PySem.W.mroIn K cP (.type "object") = some true)
    (ks : PySem.W.mroIn K cP (.type "str") = some false)
    (tP : PySem.W.typeIn K (.ref cP) = some (.type "type"))
    (hne : PySem.W.findIn K (.ref cP) "__ne__" = some (some (.builtin "object.__ne__")))
    (rdP : PySem.W.readsIn K cP (.type "type") = true)
    (gaP : PySem.W.specialIn K (.ref cP) "__getattribute__" = some (some (.builtin "type.__getattribute__")))
    (kiP : PySem.W.mroIn K cP (.type "int") = some false)
    (hfm : PySem.W.findIn K (.ref cP) "__format__" = some (some (.builtin "object.__format__")))
    {nmX qqX : Str} {NNX : Addr} {bsX bmX : List Value} {snX : List Str} {subX : List Value} {abX : Bool} {colX : Option Bool} {ddX : Option Addr} {k0X k1X k2X k3X k5X : Option Value}
    (lXx : K.lookup cX = some (excClassObj nmX qqX cX NNX bsX bmX true snX subX abX colX ddX k0X k1X k2X k3X k5X "ValueError.__new__"))
    (rX : PySem.HandSPX.refsVE bmX = true)
    (saXe : PySem.W.findIn K (.ref cX) "__setattr__" = some (some (.builtin "object.__setattr__")))
    (exXe : PySem.W.subIn K (.ref cX) (.type "BaseException") = some true)
    (tyXe : PySem.W.typeIn K (.ref cX) = some (.type "type"))
    (kXe : PySem.W.keepIn K (.ref cX) = true)
    (noXe : PySem.W.findIn K (.ref cX) "value" = some none)
    (gaXe : PySem.W.findIn K (.ref cX) "__getattribute__" = some (some (.builtin "BaseException.__getattribute__")))
    (ggXe : PySem.W.findIn K (.ref cX) "__getattr__" = some none)
    (hdXe : PySem.W.hasDictIn K cX = true)
    (suXe : PySem.W.subIn K (.ref cX) (.ref cX) = some true)
    {nmI qqI : Str} {NNI : Addr} {bsI bmI : List Value} {snI : List Str} {subI : List Value} {abI : Bool} {colI : Option Bool} {ddI : Option Addr} {k0I k1I k2I k3I k5I : Option Value}
    (lIx : K.lookup cI = some (excClassObj nmI qqI cI NNI bsI bmI true snI subI abI colI ddI k0I k1I k2I k3I k5I "ValueError.__new__"))
    (rI : PySem.HandSPX.refsVE bmI = true)
    (saIe : PySem.W.findIn K (.ref cI) "__setattr__" = some (some (.builtin "object.__setattr__")))
    (exIe : PySem.W.subIn K (.ref cI) (.type "BaseException") = some true)
    (tyIe : PySem.W.typeIn K (.ref cI) = some (.type "type"))
    (kIe : PySem.W.keepIn K (.ref cI) = true)
    (noIe : PySem.W.findIn K (.ref cI) "value" = some none)
    (gaIe : PySem.W.findIn K (.ref cI) "__getattribute__" = some (some (.builtin "BaseException.__getattribute__")))
    (ggIe : PySem.W.findIn K (.ref cI) "__getattr__" = some none)
    (hdIe : PySem.W.hasDictIn K cI = true)
    (suIe : PySem.W.subIn K (.ref cI) (.ref cI) = some true)
    {nmN qqN : Str} {NNN : Addr} {bsN bmN : List Value} {snN : List Str} {subN : List Value} {abN : Bool} {colN : Option Bool} {ddN : Option Addr} {k0N k1N k2N k3N k5N : Option Value}
    (lNx : K.lookup cN = some (excClassObj nmN qqN cN NNN bsN bmN true snN subN abN colN ddN k0N k1N k2N k3N k5N "ValueError.__new__"))
    (rN : PySem.HandSPX.refsVE bmN = true)
    (saNe : PySem.W.findIn K (.ref cN) "__setattr__" = some (some (.builtin "object.__setattr__")))
    (exNe : PySem.W.subIn K (.ref cN) (.type "BaseException") = some true)
    (tyNe : PySem.W.typeIn K (.ref cN) = some (.type "type"))
    (kNe : PySem.W.keepIn K (.ref cN) = true)
    (noNe : PySem.W.findIn K (.ref cN) "value" = some none)
    (gaNe : PySem.W.findIn K (.ref cN) "__getattribute__" = some (some (.builtin "BaseException.__getattribute__")))
    (ggNe : PySem.W.findIn K (.ref cN) "__getattr__" = some none)
    (hdNe : PySem.W.hasDictIn K cN = true)
    (suNe : PySem.W.subIn K (.ref cN) (.ref cN) = some true)
    (suIN : PySem.W.subIn K (.ref cI) (.ref cN) = some false)
    (rdM : PySem.W.readsIn K cM (.type "type") = true)
    (gaM : PySem.W.specialIn K (.ref cM) "__getattribute__" = some (some (.builtin "type.__getattribute__")))
    (fcM : PySem.W.findCls K (.ref cM) (.type "type") "__init__" = some (.val (.builtin "ValueError.__init__")))
    (gL : PySem.W.nsIn K mainGlobals "_LONGEST_NAME" = some (some (.int 6 kL)))
    (gA : PySem.W.nsIn K mainGlobals "_LETTERS" = some (some (.str abc kA)))
    (gM : PySem.W.nsIn K mainGlobals "_MOST" = some (some (.int 3 kM)))
    {znN : Nat} {uN0 uN1 uN2 uN3 : Int} {pN0 qN0 pN1 qN1 pN2 qN2 pN3 qN3 : Tok}
    (gN : PySem.W.nsIn K mainGlobals "_NUMBERS" = some (some (.ref dN)))
    (tN : K.lookup dN = some ⟨.type "dict", none, .dict #[⟨uN0, .str "0" pN0, .int 0 qN0⟩, ⟨uN1, .str "1" pN1, .int 1 qN1⟩, ⟨uN2, .str "2" pN2, .int 2 qN2⟩, ⟨uN3, .str "3" pN3, .int 3 qN3⟩] znN, #[]⟩)
    (eN0 : uN0 = PyData.keyHash w.params "0")
    (eN1 : uN1 = PyData.keyHash w.params "1")
    (eN2 : uN2 = PyData.keyHash w.params "2")
    (eN3 : uN3 = PyData.keyHash w.params "3")
    (wN : (dN == sysModules) = false)
    {znS : Nat} {uS0 uS1 uS2 uS3 uS4 uS5 : Int} {pS0 qS0 pS1 qS1 pS2 qS2 pS3 qS3 pS4 qS4 pS5 qS5 : Tok}
    (gS : PySem.W.nsIn K mainGlobals "_SHIFTS" = some (some (.ref dS)))
    (tS : K.lookup dS = some ⟨.type "dict", none, .dict #[⟨uS0, .str "-3" pS0, .int (-3) qS0⟩, ⟨uS1, .str "-2" pS1, .int (-2) qS1⟩, ⟨uS2, .str "-1" pS2, .int (-1) qS2⟩, ⟨uS3, .str "+1" pS3, .int 1 qS3⟩, ⟨uS4, .str "+2" pS4, .int 2 qS4⟩, ⟨uS5, .str "+3" pS5, .int 3 qS5⟩] znS, #[]⟩)
    (eS0 : uS0 = PyData.keyHash w.params "-3")
    (eS1 : uS1 = PyData.keyHash w.params "-2")
    (eS2 : uS2 = PyData.keyHash w.params "-1")
    (eS3 : uS3 = PyData.keyHash w.params "+1")
    (eS4 : uS4 = PyData.keyHash w.params "+2")
    (eS5 : uS5 = PyData.keyHash w.params "+3")
    (wS : (dS == sysModules) = false)
    (zlen : PySem.W.nsIn K mainGlobals "len" = some none)
    (zmax : PySem.W.nsIn K mainGlobals "max" = some none)
    (zmin : PySem.W.nsIn K mainGlobals "min" = some none)
    (zint : PySem.W.nsIn K mainGlobals "int" = some none)
    (zrange : PySem.W.nsIn K mainGlobals "range" = some none)
    (zisinstance : PySem.W.nsIn K mainGlobals "isinstance" = some none)
    (zbool : PySem.W.nsIn K mainGlobals "bool" = some none)
    (zstr : PySem.W.nsIn K mainGlobals "str" = some none)
    (zall : PySem.W.nsIn K mainGlobals "all" = some none)
    (zrepr : PySem.W.nsIn K mainGlobals "repr" = some none)
    : ∃ fd : FuncData, (∀ (s : Shared) (v : Value), BindsTo s fd ⟨[v], []⟩ [("_law_script", v)]) ∧ ∀ base : Heap, K.In base → base.Ns mainGlobals mg → FnG l.prog w K mg base CX0 7 fa fd ["_law_script"] (spLaw K) := by
  have e := hfa.symm.trans (PySem.W.mg_of X G ala)
  cases e
  have B : Blt mg := ⟨PySem.W.mg_none_of X G zlen, PySem.W.mg_none_of X G zmax, PySem.W.mg_none_of X G zmin, PySem.W.mg_none_of X G zint, PySem.W.mg_none_of X G zrange⟩
  have D : Blp mg := ⟨PySem.W.mg_none_of X G zisinstance, PySem.W.mg_none_of X G zbool, PySem.W.mg_none_of X G zstr, PySem.W.mg_none_of X G zall⟩
  have Fwh := fun_mk (st := sWhole) lwh cwh kwh
  have bwh := Fwh.binds (ps := ["value"]) fun _ _ _ _ _ _ us hl => match us, hl with | [_], _ => rfl
  have mwh := PySem.W.mg_of X G awh
  have Fii := fun_mk (st := sIsInt) lii cii kii
  have bii := Fii.binds (ps := ["value", "low", "high"]) fun _ _ _ _ _ _ us hl => match us, hl with | [_, _, _], _ => rfl
  have mii := PySem.W.mg_of X G aii
  have Fna := fun_mk (st := sIsName) lna cna kna
  have bna := Fna.binds (ps := ["value"]) fun _ _ _ _ _ _ us hl => match us, hl with | [_], _ => rfl
  have mna := PySem.W.mg_of X G ana
  have Fip := fun_mk (st := sIsPlace) lip cip kip
  have bip := Fip.binds (ps := ["value"]) fun _ _ _ _ _ _ us hl => match us, hl with | [_], _ => rfl
  have mip := PySem.W.mg_of X G aip
  have Fle := fun_mk (st := sLeast) lle cle kle
  have ble := Fle.binds (ps := ["base"]) fun _ _ _ _ _ _ us hl => match us, hl with | [_], _ => rfl
  have mle := PySem.W.mg_of X G ale
  have Fpt := fun_mk (st := sParts) lpt cpt kpt
  have bpt := Fpt.binds (ps := ["text"]) fun _ _ _ _ _ _ us hl => match us, hl with | [_], _ => rfl
  have mpt := PySem.W.mg_of X G apt
  have Fce := fun_mk (st := sCell) lce cce kce
  have bce := Fce.binds (ps := ["_law_script", "_law_k"]) fun _ _ _ _ _ _ us hl => match us, hl with | [_, _], _ => rfl
  have mce := PySem.W.mg_of X G ace
  have Fbo := fun_mk (st := sBox) lbo cbo kbo
  have bbo := Fbo.binds (ps := ["_law_cell_here"]) fun _ _ _ _ _ _ us hl => match us, hl with | [_], _ => rfl
  have mbo := PySem.W.mg_of X G abo
  have Fta := fun_mk (st := sTake) lta cta kta
  have bta := Fta.binds (ps := ["_law_box_here", "_law_many"]) fun _ _ _ _ _ _ us hl => match us, hl with | [_, _], _ => rfl
  have mta := PySem.W.mg_of X G ata
  have Fba := fun_mk (st := sBase3) lba cba kba
  have bba := Fba.binds (ps := ["_law_box_here"]) fun _ _ _ _ _ _ us hl => match us, hl with | [_], _ => rfl
  have mba := PySem.W.mg_of X G aba
  have Fsh := fun_mk (st := sShifts) lsh csh ksh
  have bsh := Fsh.binds (ps := ["_law_box_here"]) fun _ _ _ _ _ _ us hl => match us, hl with | [_], _ => rfl
  have msh := PySem.W.mg_of X G ash
  have Fnd := fun_mk (st := sNameDue) lnd cnd knd
  have bnd := Fnd.binds (ps := ["_law_thing"]) fun _ _ _ _ _ _ us hl => match us, hl with | [_], _ => rfl
  have mnd := PySem.W.mg_of X G and
  have Fma := fun_mk (st := sMade) lma cma kma
  have bma := Fma.binds (ps := ["_law_root", "_law_step"]) fun _ _ _ _ _ _ us hl => match us, hl with | [_, _], _ => rfl
  have mma := PySem.W.mg_of X G ama
  have Fte := fun_mk (st := sText3) lte cte kte
  have bte := Fte.binds (ps := ["_law_root", "_law_step"]) fun _ _ _ _ _ _ us hl => match us, hl with | [_, _], _ => rfl
  have mte := PySem.W.mg_of X G ate
  have Fdu := fun_mk (st := sDue3) ldu cdu kdu
  have bdu := Fdu.binds (ps := ["_law_root", "_law_step"]) fun _ _ _ _ _ _ us hl => match us, hl with | [_, _], _ => rfl
  have mdu := PySem.W.mg_of X G adu
  have Fla := fun_mk (st := sLaw) lla cla kla
  have bla := Fla.binds (ps := ["_law_script"]) fun _ _ _ _ _ _ us hl => match us, hl with | [_], _ => rfl
  have mla := PySem.W.mg_of X G ala
  have Fmo := fun_mk (st := (inClass sPlace 1)) lmo cmo kmo
  have bmo := Fmo.binds (ps := ["cls", "value"]) fun _ _ _ _ _ _ us hl => match us, hl with | [_, _], _ => rfl
  have Fmb := fun_mk (st := (inClass sPlace 2)) lmb cmb kmb
  have bmb := Fmb.binds (ps := ["self"]) fun _ _ _ _ _ _ us hl => match us, hl with | [_], _ => rfl
  have Fmh := fun_mk (st := (inClass sPlace 3)) lmh cmh kmh
  have bmh := Fmh.binds (ps := ["self"]) fun _ _ _ _ _ _ us hl => match us, hl with | [_], _ => rfl
  have Fms := fun_mk (st := (inClass sPlace 4)) lms cms kms
  have bms := Fms.binds (ps := ["self"]) fun _ _ _ _ _ _ us hl => match us, hl with | [_], _ => rfl
  have Fmr := fun_mk (st := (inClass sPlace 5)) lmr cmr kmr
  have bmr := Fmr.binds (ps := ["self"]) fun _ _ _ _ _ _ us hl => match us, hl with | [_], _ => rfl
  have Fmq := fun_mk (st := (inClass sPlace 6)) lmq cmq kmq
  have bmq := Fmq.binds (ps := ["self", "other"]) fun _ _ _ _ _ _ us hl => match us, hl with | [_, _], _ => rfl
  have Fmx := fun_mk (st := (inClass sInvPlace 0)) lmx cmx kmx
  have bmx := Fmx.binds (ps := ["self", "value"]) fun _ _ _ _ _ _ us hl => match us, hl with | [_, _], _ => rfl
  have Fmi := fun_mk (st := (inClass sInvInt 0)) lmi cmi kmi
  have bmi := Fmi.binds (ps := ["self", "value"]) fun _ _ _ _ _ _ us hl => match us, hl with | [_, _], _ => rfl
  have Fmn := fun_mk (st := (inClass sInvName 0)) lmn cmn kmn
  have bmn := Fmn.binds (ps := ["self", "value"]) fun _ _ _ _ _ _ us hl => match us, hl with | [_, _], _ => rfl
  have FI : FunD K "__init__" "Place.__init__" (defArgs (inClass sPlace 0)) (defBody (inClass sPlace 0)) (defScope (inClass sPlace 0)) [.str ""] [("shift", .int 0)] fI _ :=
    ⟨⟨ocI, odI, .ref tD, .ref kD, dcI, pmI, anI, cdI, ctI, slI, rfl, lI, cI_, .inr ⟨by simp, tD, _, [.str "" kT], nT, rfl, lT, rfl, .cons ⟨kT, rfl⟩ .nil⟩, .inr ⟨kD, rfl, fun q hq => by
      rw [List.mem_singleton.mp hq]
      exact ⟨_, sD, ⟨kS, rfl⟩⟩⟩⟩, kI⟩
  obtain ⟨ds2, hds2, bI2⟩ := FunD.binds (ps := ["self", "base", "shift"]) FI 2 1 (by simp) rfl (fun T D doc pm an cdv ct us its ks l1 l2 l3 => match us, its, ks, l1, l2, l3 with
    | [_, _], [_], [_], _, _, _ => ⟨_, rfl, ⟨_, _, _, _, _, _, rfl, rfl, rfl⟩⟩) (by simp)
  obtain ⟨ds1, hds1, bI1⟩ := FunD.binds (ps := ["self", "base", "shift"]) FI 1 0 (by simp) rfl (fun T D doc pm an cdv ct us its ks l1 l2 l3 => match us, its, ks, l1, l2, l3 with
    | [_], [_], [_], _, _, _ => ⟨_, rfl, ⟨_, _, _, _, _, _, rfl, rfl, rfl⟩⟩) (by simp)
  obtain ⟨its1, mv1, kb1⟩ := FunD.kbinds (ps := ["self", "base", "shift"]) FI 1 ["shift"] [] (fun us its _ ws => us ++ its ++ ws) (by simp) (by simp) (fun q hq => nomatch hq) (fun r1 r2 _ r4 => (r1.append r2).append r4)
    (fun T D doc pm an cdv ct us its mv ws l1 l2 l3 l4 => match us, its, mv, ws, l1, l2, l3, l4 with
    | [_], [_], [], [_], _, _, _, _ => ⟨_, rfl, rfl⟩)
  obtain ⟨its2, mv2, kb2⟩ := FunD.kbinds (ps := ["self", "base", "shift"]) FI 2 ["shift"] [] (fun us _ _ ws => us ++ ws) (by simp) (by simp) (fun q hq => nomatch hq) (fun r1 _ _ r4 => r1.append r4)
    (fun T D doc pm an cdv ct us its mv ws l1 l2 l3 l4 => match us, its, mv, ws, l1, l2, l3, l4 with
    | [_, _], [_], [], [_], _, _, _, _ => ⟨_, rfl, rfl⟩)
  obtain ⟨its3, mv3, kb3⟩ := FunD.kbinds (ps := ["self", "base", "shift"]) FI 1 ["base"] [("shift", .int 0)] (fun us _ mv ws => us ++ ws ++ mv) (by simp) (by simp) (fun q hq => hq) (fun r1 _ r3 r4 => (r1.append r4).append r3)
    (fun T D doc pm an cdv ct us its mv ws l1 l2 l3 l4 => match us, its, mv, ws, l1, l2, l3, l4 with
    | [_], [_], [_], [_], _, _, _, _ => ⟨_, rfl, ⟨_, _, _, _, _, _, rfl, rfl, rfl⟩⟩)
  have Z : Cpl K mg cP := ⟨⟨pg, hd, pv_, sa⟩, nB, nS, PySem.W.mg_of X G aP⟩
  have Y : Pty K cP := ⟨⟨pg, hd, pv_, sa⟩, ha, hn, htk, hm⟩
  have N1 : Npl K cP := ⟨kit_ref hd tP rfl, kit_ref hd tP rfl, kit_ref hd tP rfl, kit_ref hd tP rfl⟩
  have N2 : PySem.W.kitOne K (.type "tuple") (.ref cP) = some false := kit_ref hd tP rfl
  have ki : PySem.W.kitOne K (.ref cP) (.type "int") = some false := kit_own kiP (by decide +kernel)
  have kst : PySem.W.kitOne K (.ref cP) (.type "str") = some false := kit_own ks (by decide +kernel)
  have M : Mk K cP fI := ⟨mk, iI, jI, kc⟩
  have TX : Xcl K mg "InvalidPlace" cX "value" := ⟨⟨⟨nmX, qqX, NNX, bsX, bmX, snX, subX, abX, colX, ddX, k0X, k1X, k2X, k3X, k5X, lXx, rX⟩, saXe, exXe, tyXe, kXe⟩, noXe, PySem.W.mg_of X G aX, ⟨gaXe, ggXe, exXe, hdXe⟩⟩
  have TI : Xcl K mg "InvalidInteger" cI "value" := ⟨⟨⟨nmI, qqI, NNI, bsI, bmI, snI, subI, abI, colI, ddI, k0I, k1I, k2I, k3I, k5I, lIx, rI⟩, saIe, exIe, tyIe, kIe⟩, noIe, PySem.W.mg_of X G aI, ⟨gaIe, ggIe, exIe, hdIe⟩⟩
  have TN' : Xcl K mg "InvalidName" cN "value" := ⟨⟨⟨nmN, qqN, NNN, bsN, bmN, snN, subN, abN, colN, ddN, k0N, k1N, k2N, k3N, k5N, lNx, rN⟩, saNe, exNe, tyNe, kNe⟩, noNe, PySem.W.mg_of X G aN, ⟨gaNe, ggNe, exNe, hdNe⟩⟩
  have te : PySem.W.exmOne K (.ref cX) (.ref cX) = some true := PySem.W.exm_ref exXe hdXe tyXe suXe
  have eN : PySem.W.exmOne K (.ref cN) (.ref cN) = some true := PySem.W.exm_ref exNe hdNe tyNe suNe
  have eI : PySem.W.exmOne K (.ref cI) (.ref cI) = some true := PySem.W.exm_ref exIe hdIe tyIe suIe
  have eX : PySem.W.exmOne K (.ref cI) (.ref cN) = some false := PySem.W.exm_ref exNe hdNe tyNe suIN
  have pB : PropOf K cP "base" pb fmb := ⟨amb, amb1, amb2, rb, amb3⟩
  have pS : PropOf K cP "shift" ph fmh := ⟨amh, amh1, amh2, rh, amh3⟩
  have cip := kb_one (ps := ["value"]) Fip 0 ["value"] fun _ _ _ _ _ _ us ws hu hw => match us, ws, hu, hw with | [], [_], _, _ => rfl
  subst eN0 eN1 eN2 eN3 eS0 eS1 eS2 eS3 eS4 eS5
  have TN : Tab K w dN numS := tab_of (l := [("0", 0, pN0, qN0), ("1", 1, pN1, qN1), ("2", 2, pN2, qN2), ("3", 3, pN3, qN3)]) tN rfl wN fun z => rfl
  have TS : Tab K w dS shS := tab_of (l := [("-3", (-3), pS0, qS0), ("-2", (-2), pS1, qS1), ("-1", (-1), pS2, qS2), ("+1", 1, pS3, qS3), ("+2", 2, pS4, qS4), ("+3", 3, pS5, qS5)]) tS rfl wS fun z => rfl
  refine ⟨PySem.W.fnOf "law" "law" (defArgs sLaw) (defBody sLaw) (defScope sLaw) .none kVla dcla pmla anla cdla ctla, fun s v => .of_eq rfl, fun base _ _ => ?_⟩
  have gm := PySem.W.mg_of X G gM
  have Gwh : FnOk l.prog w K mg base CX0 1 _ _ ["value"] (spWhole K) := ok_whole Fwh B D
  have Gii : FnOk l.prog w K mg base CX0 2 _ _ ["value", "low", "high"] (spIsInt K) := ok_isInt Fii Gwh mwh kwh bwh
  have Gna : FnOk l.prog w K mg base CX0 1 _ _ ["value"] (spIsName K) := ok_isName Fna B D (PySem.W.mg_of X G gL) (PySem.W.mg_of X G gA)
  have Gle : FnOk l.prog w K mg base CX0 1 _ _ ["base"] spLeast := ok_least Fle gm
  have GI : FnOk l.prog w K mg base CX0 3 fI _ ["self", "base", "shift"] (spInit cP) := ok_init FI Z Gna mna kna bna Gii mii kii bii Gle mle kle ble gm
  have T : Tk l.prog w K mg base fta _ := ⟨ok_take Fta B, mta, kta, bta⟩
  have Gpt : FnOk l.prog w K mg base CX0 2 _ _ ["text"] spParts := ok_parts Fpt Gna mna kna bna (PySem.W.mg_of X G gN) (PySem.W.mg_of X G gS) TN TS
  have GX : FnOk l.prog w K mg base CX0 1 fmx _ ["self", "value"] (spX1 K cX "value") := ok_xinit Fmx TX (PySem.W.mg_of X G aM) ⟨rdM, gaM⟩ fcM
  have GXI : FnOk l.prog w K mg base CX0 1 fmi _ ["self", "value"] (spX1 K cI "value") := ok_xinitI Fmi TI (PySem.W.mg_of X G aM) ⟨rdM, gaM⟩ fcM
  have GXN : FnOk l.prog w K mg base CX0 1 fmn _ ["self", "value"] (spX1 K cN "value") := ok_xinitN Fmn TN' (PySem.W.mg_of X G aM) ⟨rdM, gaM⟩ fcM
  have GO : FnOk l.prog w K mg base (L2.CX l.prog w) 5 fmo _ ["cls", "value"] (spOf K cP cX) := ok_of Fmo Z Y N1 B D Gii mii kii bii Gpt mpt kpt bpt gm M GI kb1 kb2 TX GX amx tX bmx
  have O : OfM l.prog w K mg base cP cX po fmo _ := ⟨GO, ⟨rdP, gaP⟩, ⟨amo, ⟨_, amo2⟩, fo⟩, bmo⟩
  have Gb : FnOk l.prog w K mg base CX0 1 fmb _ ["self"] (spBase cP) := ok_base Fmb Z
  have Gs : FnOk l.prog w K mg base CX0 1 fmh _ ["self"] (spShift cP) := ok_shift Fmh Z
  have GS : FnOk l.prog w K mg base CX0 1 fms _ ["self"] (spStr cP) := ok_str Fms Z D
  have GRp : FnOk l.prog w K mg base CX0 1 fmr _ ["self"] (spRepr cP) := ok_repr Fmr Z
  have GE : FnOk l.prog w K mg base CX0 1 fmq _ ["self", "other"] (spEq K cP) := ok_eq Fmq Z Y D
  have GIR : FnOk l.prog w K mg base (L2.CX l.prog w) 3 fI _ ["self", "base", "shift"] (spInitR K cP cN cI) := ok_initR FI Z Y N1 ki kst Gna mna kna bna Gii mii kii bii Gle mle kle ble gm GE bmq amq jmq hne TN' GXN amn tN_ bmn TI GXI ami tI bmi
  have Gnd : FnOk l.prog w K mg base CX0 1 fnd _ ["_law_thing"] (spIsName K) := ok_ndue Fnd B D
  have Gte : FnOk l.prog w K mg base CX0 1 fte _ ["_law_root", "_law_step"] spText3 := ok_text3 Fte
  exact ok_law (d1 := []) Fla B D Z Y N1 N2 (PySem.W.mg_none_of X G zrepr) ⟨ok_cell Fce B, mce, kce, bce⟩ ⟨ok_box Fbo B, mbo, kbo, bbo⟩ ⟨ok_base3 Fba T B M Z GI hds2 bI2, mba, kba, bba⟩ ⟨ok_shifts Fsh T B, msh, ksh, bsh⟩
    ⟨ok_due3 Fdu Y N1 B D ki kst GE bmq amq jmq hne Gnd mnd knd bnd Gte mte kte bte, mdu, kdu, bdu⟩ ⟨ok_made Fma Z D M GIR kb2 pB Gb bmb pS Gs bmh GS bms ams jms TN' TI eN eI eX, mma, kma, bma⟩ ⟨ok_isPl Fip Z O (PySem.W.mg_of X G aX) te, mip, kip, bip⟩ cip
    M GI kb2 kb3 hds1 bI1 GS bms ams jms hfm GE bmq amq jmq hne GRp bmr amr jmr
theorem walk {l : PySem.W.OpenLaw} {q : Program} {loose : List Str} {XP : (Str → Option Value) → Heap → Prop} {YP : World → Heap → Prop} {d : DefRec} {K : Params → PySem.W.Frag} (hn : l.most = some 63) (hdf : d.params.defaults = [])
    (hY : ∀ (w : World) (h : Heap), YP w h → (K w.params).In h)
    (F : ∀ (w : World) (mg : Str → Option Value) (fa : Addr) (h : Heap), (K w.params).In h → h.Ns mainGlobals mg → mg d.name = some (.ref fa) →
      ∃ fd : FuncData, (∀ (s : Shared) (u : Value), BindsTo s fd ⟨[u], []⟩ [("_law_script", u)]) ∧ ∀ base : Heap, (K w.params).In base → base.Ns mainGlobals mg → FnG l.prog w (K w.params) mg base CX0 7 fa fd ["_law_script"] (spLaw (K w.params))) :
    PySem.W.WalkO q loose XP YP l.row.toRowW d [] (fun f vs => PySem.call f vs) :=
  walk_G (n := 63) (k := 7) (x := "_law_script") (CX := fun _ => CX0) (sp := fun w => spLaw (K w.params)) hn (by decide) hdf ⟨rfl, by decide, by decide⟩ hY F (fun _ _ a ns hl _ _ hS => ⟨a, ns, rfl, hS, hl, fun _ => rfl⟩) fun _ _ _ _ _ z => z
end Mz
set_option Elab.async false
set_option linter.all false
set_option maxRecDepth 100000
open PySem PySem.W PyProof.Rows in
set_option maxRecDepth 100000 in
set_option maxHeartbeats 0 in
theorem PySem.Challenge.cw_mapsizes_k03_places_made_holds : PySem.Challenge.rw_mapsizes_k03_places_made.Holds := by
  w_on; o_law; k_head; (case hw => w_witness2)
  k_fill
  refine Mz.walk (l := PySem.Challenge.rw_mapsizes_k03_places_made) rfl rfl (fun w h Y => PySem.W.kIn_of Y) ?F
  case F =>
    intro w mg fa h KX G hmg
    refine' Mz.all_mk (w := w) KX G hmg ?awh ?lwh ?cwh ?kwh ?aii ?lii ?cii ?kii ?ana ?lna ?cna ?kna ?aip ?lip ?cip ?kip ?ale ?lle ?cle ?kle ?apt ?lpt ?cpt ?kpt ?ace ?lce ?cce ?kce ?abo ?lbo ?cbo ?kbo ?ata ?lta ?cta ?kta ?aba ?lba ?cba ?kba ?ash ?lsh ?csh ?ksh ?and ?lnd ?cnd ?knd ?ama ?lma ?cma ?kma ?ate ?lte ?cte ?kte ?adu ?ldu ?cdu ?kdu ?ala ?lla ?cla ?kla ?aP ?aX ?aI ?aN ?aM ?amo ?amo2 ?lmo ?cmo ?kmo ?amb ?amb1 ?amb2 ?amb3 ?lmb ?cmb ?kmb ?amh ?amh1 ?amh2 ?amh3 ?lmh ?cmh ?kmh ?ams ?lms ?cms ?kms ?amr ?lmr ?cmr ?kmr ?amq ?lmq ?cmq ?kmq ?amx ?lmx ?cmx ?kmx ?ami ?lmi ?cmi ?kmi ?amn ?lmn ?cmn ?kmn ?jms ?jmr ?jmq ?fo ?tX ?tI ?tN_ ?iI ?jI ?lI ?cI_ ?kI ?lT ?sD ?pg ?hd ?pv_ ?sa ?mk ?kc ?nB ?nS ?ha ?hn ?htk ?hm ?ks ?tP ?hne ?rdP ?gaP ?kiP ?hfm ?lXx ?rX ?saXe ?exXe ?tyXe ?kXe ?noXe ?gaXe ?ggXe ?hdXe ?suXe ?lIx ?rI ?saIe ?exIe ?tyIe ?kIe ?noIe ?gaIe ?ggIe ?hdIe ?suIe ?lNx ?rN ?saNe ?exNe ?tyNe ?kNe ?noNe ?gaNe ?ggNe ?hdNe ?suNe ?suIN ?rdM ?gaM ?fcM ?gL ?gA ?gM ?gN ?tN ?eN0 ?eN1 ?eN2 ?eN3 ?wN ?gS ?tS ?eS0 ?eS1 ?eS2 ?eS3 ?eS4 ?eS5 ?wS ?zlen ?zmax ?zmin ?zint ?zrange ?zisinstance ?zbool ?zstr ?zall ?zrepr
    (case awh => k_is)
    (case lwh => k_is)
    (case cwh => k_is)
    (case kwh => k_is)
    (case aii => k_is)
    (case lii => k_is)
    (case cii => k_is)
    (case kii => k_is)
    (case ana => k_is)
    (case lna => k_is)
    (case cna => k_is)
    (case kna => k_is)
    (case aip => k_is)
    (case lip => k_is)
    (case cip => k_is)
    (case kip => k_is)
    (case ale => k_is)
    (case lle => k_is)
    (case cle => k_is)
    (case kle => k_is)
    (case apt => k_is)
    (case lpt => k_is)
    (case cpt => k_is)
    (case kpt => k_is)
    (case ace => k_is)
    (case lce => k_is)
    (case cce => k_is)
    (case kce => k_is)
    (case abo => k_is)
    (case lbo => k_is)
    (case cbo => k_is)
    (case kbo => k_is)
    (case ata => k_is)
    (case lta => k_is)
    (case cta => k_is)
    (case kta => k_is)
    (case aba => k_is)
    (case lba => k_is)
    (case cba => k_is)
    (case kba => k_is)
    (case ash => k_is)
    (case lsh => k_is)
    (case csh => k_is)
    (case ksh => k_is)
    (case and => k_is)
    (case lnd => k_is)
    (case cnd => k_is)
    (case knd => k_is)
    (case ama => k_is)
    (case lma => k_is)
    (case cma => k_is)
    (case kma => k_is)
    (case ate => k_is)
    (case lte => k_is)
    (case cte => k_is)
    (case kte => k_is)
    (case adu => k_is)
    (case ldu => k_is)
    (case cdu => k_is)
    (case kdu => k_is)
    (case ala => k_is)
    (case lla => k_is)
    (case cla => k_is)
    (case kla => k_is)
    (case aP => k_is)
    (case aX => k_is)
    (case aI => k_is)
    (case aN => k_is)
    (case aM => k_is)
    (case amo => k_is)
    (case amo2 => k_is)
    (case lmo => k_is)
    (case cmo => k_is)
    (case kmo => k_is)
    (case amb => k_is)
    (case amb1 => k_is)
    (case amb2 => k_is)
    (case amb3 => k_is)
    (case lmb => k_is)
    (case cmb => k_is)
    (case kmb => k_is)
    (case amh => k_is)
    (case amh1 => k_is)
    (case amh2 => k_is)
    (case amh3 => k_is)
    (case lmh => k_is)
    (case cmh => k_is)
    (case kmh => k_is)
    (case ams => k_is)
    (case lms => k_is)
    (case cms => k_is)
    (case kms => k_is)
    (case amr => k_is)
    (case lmr => k_is)
    (case cmr => k_is)
    (case kmr => k_is)
    (case amq => k_is)
    (case lmq => k_is)
    (case cmq => k_is)
    (case kmq => k_is)
    (case amx => k_is)
    (case lmx => k_is)
    (case cmx => k_is)
    (case kmx => k_is)
    (case ami => k_is)
    (case lmi => k_is)
    (case cmi => k_is)
    (case kmi => k_is)
    (case amn => k_is)
    (case lmn => k_is)
    (case cmn => k_is)
    (case kmn => k_is)
    (case jms => k_is)
    (case jmr => k_is)
    (case jmq => k_is)
    (case fo => k_is)
    (case tX => k_is)
    (case tI => k_is)
    (case tN_ => k_is)
    (case iI => k_is)
    (case jI => k_is)
    (case lI => k_is)
    (case cI_ => k_is)
    (case kI => k_is)
    (case lT => k_is)
    (case sD => k_is)
    (case pg => k_is)
    (case hd => k_is)
    (case pv_ => k_is)
    (case sa => k_is)
    (case mk => k_is)
    (case kc => k_is)
    (case nB => k_is)
    (case nS => k_is)
    (case ha => k_is)
    (case hn => k_is)
    (case htk => k_is)
    (case hm => k_is)
    (case ks => k_is)
    (case tP => k_is)
    (case hne => k_is)
    (case rdP => k_is)
    (case gaP => k_is)
    (case kiP => k_is)
    (case hfm => k_is)
    (case lXx => k_is)
    (case rX => rfl)
    (case saXe => k_is)
    (case exXe => k_is)
    (case tyXe => k_is)
    (case kXe => k_is)
    (case noXe => k_is)
    (case gaXe => k_is)
    (case ggXe => k_is)
    (case hdXe => k_is)
    (case suXe => k_is)
    (case lIx => k_is)
    (case rI => rfl)
    (case saIe => k_is)
    (case exIe => k_is)
    (case tyIe => k_is)
    (case kIe => k_is)
    (case noIe => k_is)
    (case gaIe => k_is)
    (case ggIe => k_is)
    (case hdIe => k_is)
    (case suIe => k_is)
    (case lNx => k_is)
    (case rN => rfl)
    (case saNe => k_is)
    (case exNe => k_is)
    (case tyNe => k_is)
    (case kNe => k_is)
    (case noNe => k_is)
    (case gaNe => k_is)
    (case ggNe => k_is)
    (case hdNe => k_is)
    (case suNe => k_is)
    (case suIN => k_is)
    (case rdM => k_is)
    (case gaM => k_is)
    (case fcM => k_is)
    (case gL => k_is)
    (case gA => k_is)
    (case gM => k_is)
    (case gN => k_is)
    (case tN => k_is)
    (case eN0 => rfl)
    (case eN1 => rfl)
    (case eN2 => rfl)
    (case eN3 => rfl)
    (case wN => first | rfl | k_is)
    (case gS => k_is)
    (case tS => k_is)
    (case eS0 => rfl)
    (case eS1 => rfl)
    (case eS2 => rfl)
    (case eS3 => rfl)
    (case eS4 => rfl)
    (case eS5 => rfl)
    (case wS => first | rfl | k_is)
    (case zlen => k_is)
    (case zmax => k_is)
    (case zmin => k_is)
    (case zint => k_is)
    (case zrange => k_is)
    (case zisinstance => k_is)
    (case zbool => k_is)
    (case zstr => k_is)
    (case zall => k_is)
    (case zrepr => k_is)
