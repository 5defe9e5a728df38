import PyProof.Rows.All
import Wide.All
import OpenK.AllK
import Wide.FinOn
import PyProof.ReprRoads
import HandS.ForMost
import HandS.EndBits
import HandS.ForExc
import HandS.TryMany
import HandS.ExcInit
import HandS.ExcField
import HandS.ClsMeth
import HandS.IsInst
import KE.KCallOwn
import KE.KFmtOwn
import KE.KOpsOwn
import HandS.FStr
import KE.KxField
import HandS.MakeKwOnly
import HandS.ExcOwn
import HandS.Wide
import HandS.Walk
import HandS.Property
import PySem.Challenge.RW_mapsizes_k21_steps_known
import HandS.More
import PyProof.StrOps2
import KE.KEqNest
import HandS.DictComp
import HandS.TupAny
import HandS.Zip
import HandS.AnyAll
import HandS.ExcIs
set_option Elab.async false
set_option linter.all false
set_option maxRecDepth 100000
set_option maxHeartbeats 4000000
/-! calls under which no container is being shown: the promises of defs that show lists -/
namespace Mz
open PySem PySem.Spec PyProof.Rows L2
section
variable {P : Program} {w : World} {K : PySem.W.Frag} {mg : Str → Option Value} {base : Heap} {CX : CXT} {k : Nat} {f : Addr} {fd : FuncData} {ps : List Str} {sp : Sp}
theorem quiet_deeper {A : Around} {env : Env} (h : A.guards = some []) : (A.deeper env).guards = some [] := h
theorem quiet_make {A : Around} {c : Addr} {us : List Value} {kw : List (Str × Value)} (h : A.guards = some []) : (A.under (.builtin "type.__call__" ⟨.ref c :: us, kw⟩)).guards = some [] := by
  have e : (Code.builtin "type.__call__" ⟨.ref c :: us, kw⟩).guards = [] := by
    have e2 : (Code.builtin "type.__call__" ⟨.ref c :: us, kw⟩).isGuard = false := by
      show guardIds.contains "type.__call__" = false
      decide +kernel
    unfold Code.guards
    rw [e2]
    rfl
  show pushGuards (Code.builtin "type.__call__" ⟨.ref c :: us, kw⟩).guards A.guards = some []
  rw [e, h]
  rfl
/-- a def's promise where nothing is being shown around it -/
structure FnG (P : Program) (w : World) (K : PySem.W.Frag) (mg : Str → Option Value) (base : Heap) (CX : CXT) (k : Nat) (f : Addr) (fd : FuncData) (ps : List Str) (sp : Sp) : Prop where
  lenG : ∀ vs H Q E, sp vs H Q E → vs.length = ps.length
  runG : ∀ (A : Around) (outer : List Env) (s : Shared) (H : Hp) (args : Args) (us : List Value) (vs : List V) (Q : VK) (E : XK),
    A.guards = some [] → Room k A → Env0 P w K mg base A outer s H → BindsTo s fd args (ps.zip us) → Vals vs us → sp vs H Q E →
    codeAny (model P w) A (.call (.ref f) args) (CR CX outer P w H s Q E) s
theorem FnG.of (F : FnOk P w K mg base CX k f fd ps sp) : FnG P w K mg base CX k f fd ps sp :=
  ⟨F.len, fun A outer s H args us vs Q E _ => F.run A outer s H args us vs Q E⟩
theorem FnG.mono {j : Nat} (F : FnG P w K mg base CX j f fd ps sp) (h : j ≤ k) : FnG P w K mg base CX k f fd ps sp :=
  ⟨F.lenG, fun A outer s H args us vs Q E g r => F.runG A outer s H args us vs Q E g (r.mono h)⟩
/-- the def by its body, told that nothing is being shown -/
theorem fnG_of {name qual : Str} {params : Arguments} {body : List Stmt} {scope : Scope} {dV kV doc pm cdv ct oc : Value} {an od : Option Addr} {osl : Array (Option Value)} {N : List Str}
    (lk : K.lookup f = some ⟨oc, od, .func (PySem.W.fnOf name qual params body scope dV kV doc pm an cdv ct), osl⟩) (hcd : PySem.W.codeIn K cdv qual = true) (S : FnScope N ps scope)
    (len : ∀ vs H Q E, sp vs H Q E → vs.length = ps.length)
    (hb : ∀ (A : Around) (outer : List Env) (s : Shared) (H : Hp) (vs : List V) (Q : VK) (E : XK), A.guards = some [] → Room k (A.deeper (envOfC qual scope s.heap.objs.size f cdv)) → sp vs H Q E →
      ∃ t, PSs (cxOf CX P w K mg base N qual scope f cdv A outer s H E) body t ∧ t { nx := fun _ H' => Q .non H', rt := Q } (start N vs) H) :
    FnG P w K mg base CX (k + 1) f (PySem.W.fnOf name qual params body scope dV kV doc pm an cdv ct) ps sp := by
  refine ⟨len, fun A outer s H args us vs Q E hg hr e0 hbi r hsp => ?_⟩
  -- the promise of the same def at this very place alone: whoever runs it stands at A
  have spA : ∀ (A2 : Around), A2 = A → A2.guards = some [] := fun A2 e => by
    rw [e]
    exact hg
  have lenv := len _ _ _ _ hsp
  have KX : K.In s.heap := e0.mod.kin.keeps fun b o e => (e0.bs b o e).1
  have lim : s.heap.NoLimit := e0.mod.nolimit.keeps fun b o e => (e0.bs b o e).1
  have kinds : ∀ y ∈ ps.zip us, scope.names.lookup y.1 = some .local ∨ (scope.names.lookup y.1 = some .cell ∧ ((cellsFrom (s.heap.objs.size + 1) scope.names []).lookup y.1).isSome = true) := by
    intro y hy
    obtain ⟨n, v⟩ := y
    rcases S.par n (List.of_mem_zip hy).1 with q | q
    · exact .inl q
    · exact .inr ⟨q, PySem.W.cellsFrom_some _ _ _ (.inl q)⟩
  refine codeAny_call_function hr.depth (KX _ _ lk) rfl S.co S.gen rfl (PySem.W.codeRec_of KX hcd) (hbi _ _ _ _ ?_)
  refine wpAny_newFunctionEnv_cells S.kind kinds fun env he s1 x => ?_
  subst he
  refine ⟨lim.keeps x.toInCall.keep, codeAny_func ?_⟩
  obtain ⟨t, ht, hq⟩ := hb A outer s H vs Q E hg (hr.deeper _) hsp
  have I : Inv (cxOf CX P w K mg base N qual scope f cdv A outer s H E) [] (start N vs) H s1 := inv_start S hr.hd e0 lenv r x
  refine wpAny_mono (ht.run [] s1 (start N vs) H _ I hq) (fun fl s' hs => ?_) fun e s' hs => hs
  cases fl with
  | ret u =>
    obtain ⟨v, σ', H', J, rv, q⟩ := hs
    exact ⟨v, H', J.os, J.bare, J.base, J.hok, rv, q⟩
  | next =>
    obtain ⟨σ', H', J, q⟩ := hs
    exact ⟨V.non, H', J.os, J.bare, J.base, J.hok, rfl, q⟩
  | brk =>
    obtain ⟨_, _, _, q⟩ := hs
    exact q.elim
  | cont =>
    obtain ⟨_, _, _, q⟩ := hs
    exact q.elim
end
section
variable {P : Program} {w : World} {K : PySem.W.Frag} {mg : Str → Option Value} {base : Heap}
theorem fun_okG {x qual : Str} {st : Stmt} {f : Addr} {fd : FuncData} {N ps : List Str} {k : Nat} {sp : Sp} (F : Fun K x qual st f fd) (S : FnScope N ps (defScope st)) (len : ∀ vs H Q E, sp vs H Q E → vs.length = ps.length)
    (hb : ∀ (cdv : Value) (A : Around) (outer : List Env) (s : Shared) (H : Hp) (vs : List V) (Q : VK) (E : XK), A.guards = some [] → Room k (A.deeper (envOfC qual (defScope st) s.heap.objs.size f cdv)) → sp vs H Q E →
      ∃ t, PSs (cxOf CX0 P w K mg base N qual (defScope st) f cdv A outer s H E).nox (defBody st) t ∧ t { nx := fun _ H' => Q .non H', rt := Q } (start N vs) H) : FnG P w K mg base CX0 (k + 1) f fd ps sp := by
  obtain ⟨oc, od, kV, doc, pm, an, cdv, ct, osl, rfl, lk, hcd⟩ := F.ex
  refine fnG_of lk hcd S len fun A outer s H vs Q E hg hr hsp => ?_
  obtain ⟨t, h, q⟩ := hb cdv A outer s H vs Q E hg hr hsp
  exact ⟨t, h.nox, q⟩
end
section
variable {X : Cx} {CX : CXT} {k : Nat} {f : Addr} {fd : FuncData} {ps : List Str} {sp : Sp} {dvs : List V} {ds : List Value} {E : XK} {x : Str} {p pos : Pos} {e : Expr} {es : List Expr} {t : TA}
/-- a call of such a def -/
theorem pe_callG (F : FnG X.prog X.w X.K X.mg X.base CX k f fd ps sp) (g0 : X.A.guards = some []) (hr : Room k X.A) (hg : Gl X x) (hm : X.mg x = some (.ref f)) (hk : PySem.W.keepIn X.K (.ref f) = true) (hb : Binds X.K fd ps ds) (hd : Vals dvs ds) (hx : Passes CX X E)
    (ha : PA X (e :: es) t) (hdb : (x == ("__debug__" : Str)) = false := by decide) (he : starEach (e :: es) X.env = (false, eval e X.env) :: starEach es X.env := by rfl) (hpl : (backTo pos (starEach es X.env)).any (·.1) = false := by rfl) :
    PE X (.Call (.Name x p) (e :: es) [] pos) (tCall sp dvs E t) := by
  refine ⟨fun pins s σ H Q I h => wpAny_Call_Name_kw (ld_glob I hg hm ?_ hdb)⟩
  refine PySem.W.callWith_K (h₀ := X.base) I.ok.mod.kin hk (thn (ha.run pos pins s σ H _ I h) fun us s1 hv => ?_) he hpl
  obtain ⟨vs, H1, I1, r, q⟩ := hv
  refine ⟨I1.kIn, ?_⟩
  have r2 : Vals (vs ++ dvs) (us ++ ds) := r.append hd
  have hl : (us ++ ds).length = ps.length := r2.length.symm.trans (F.lenG _ _ _ _ q)
  refine wpAny_call (codeAny_mono (F.runG X.A X.stack s1 H1 ⟨us, []⟩ (us ++ ds) (vs ++ dvs) Q E g0 hr I1.env0 (hb s1 us I1.kIn hl) r2 q) fun r s' hq => ?_)
  cases r with
  | error e => exact hx pins σ H1 s1 e s' I1 hq
  | ok fl =>
    cases fl with
    | ret u => exact I1.after hq
    | next => exact hq.elim
    | brk => exact hq.elim
    | cont => exact hq.elim
end
/-! ### repr of data -/
section
variable {X : Cx}
/-- repr(x), x a bool, None, an int of some size, a text, a list or a tuple of these -/
def rReprD (K : PySem.W.Frag) : List V → Hp → VK → Prop := fun xs H Q => ∃ x d, xs = [x] ∧ Dp K H x d ∧ PyData.showable d = true ∧ PyData.hasDict d = false ∧ PyData.depth d < 60 ∧ (PyData.shown d).length ≤ sizeLine ∧ Q (.str (PyData.shown d)) H
theorem call_reprD (g0 : X.A.guards = some []) (hu : X.A.units + 64 < cLine) : CallR X (.builtin "repr") (rReprD X.K) := by
  intro pins s σ H xs us Q I r h
  obtain ⟨x, d, rfl, hd, hs, hno, hdp, hz, q⟩ := h
  obtain ⟨u, rfl, rx⟩ := vals1 r
  have ends : ∀ h' t tk, (∀ b o, s.heap.get? b = some o → h'.get? b = some o) → EP X pins σ Q (.str (PyData.shown d) t) { s with heap := h', toks := tk } :=
    fun h' t tk hk => ⟨.str _, H, I.kept hk, ⟨_, rfl⟩, q⟩
  have keep : ∀ b o, s.heap.get? b = some o → s.heap.get? b = some o := fun _ _ z => z
  obtain ⟨as, rd⟩ := Dp.reads I d x u hd rx
  cases hd with
  | non =>
    cases rx
    exact PySem.P.repr_of_none (by simpa only [PyData.shown] using ends s.heap _ _ keep)
  | bl b =>
    cases rx
    exact PySem.P.repr_of_bool (by simpa only [PyData.shown] using ends s.heap _ _ keep)
  | int i =>
    obtain ⟨t, rfl⟩ := rx
    have hs' : i.natAbs.log2 < 1920 := by simpa [PyData.showable] using hs
    exact PySem.P.repr_of_int hs' (by simpa only [PyData.shown] using ends s.heap _ _ keep)
  | str z =>
    obtain ⟨t, rfl⟩ := rx
    exact PySem.P.repr_of_str (by simpa only [PyData.shown] using ends s.heap _ _ keep) (by simpa only [PyData.shown] using hz)
  | lst h1 h2 =>
    cases rx
    exact repr_of_reads' rd hs (fun z => by rw [hno] at z; cases z) g0 (by omega) keep (fun h' t tk hk => ends h' t tk hk) hz
  | tup h1 h2 =>
    cases rx
    exact repr_of_reads' rd hs (fun z => by rw [hno] at z; cases z) g0 (by omega) keep (fun h' t tk hk => ends h' t tk hk) hz
end
end Mz
set_option Elab.async false
set_option linter.all false
set_option maxRecDepth 100000
set_option maxHeartbeats 4000000
/-! the end of a row for a law whose promise wants that nothing is being shown -/
namespace Mz
open PySem PySem.Spec PyProof.Rows L2
theorem law_callG {P : Program} {w : World} {K : PySem.W.Frag} {mg mb : Str → Option Value} {CX : CXT} {k : Nat} {fa a : Addr} {fd : FuncData} {x : Str} {sp : Sp} {s1 : Shared} {vs : List Value} {ns : List Int}
    (KX : K.In s1.heap) (hns : s1.heap.Ns mainGlobals mg) (hb : s1.heap.Ns builtinsNs mb) (hbb : ∀ x : Str, x ≠ "__name__" → mb x = bootBuiltins x) (hlim : s1.heap.NoLimit) (hgen : s1.gens = #[])
    (ha : s1.heap.get? a = some { cls := .type "list", data := .seq vs.toArray }) (hi : IntsAre vs ns) (hl : ns.length ≤ sizeLine) (hr : Room k callerA)
    (F : ∀ base : Heap, K.In base → base.Ns mainGlobals mg → FnG P w K mg base CX k fa fd [x] sp) (hbind : ∀ (s : Shared) (u : Value), BindsTo s fd ⟨[u], []⟩ [(x, u)])
    (hsp : ∀ H : Hp, Only H → SqL K H a (ns.map V.int) → sp [.ref a] H (fun v _ => v = .bl true) fun _ _ _ => False)
    (hCX : ∀ H e s', CX [] H s1 (fun _ _ _ => False) e s' → False) :
    codeAny (model P w) callerA (.call (.ref fa) ⟨[.ref a], []⟩) (fun r s' => r = .ok (.ret (.bool true)) ∧ OldK s1.heap s'.heap ∧ s'.os = s1.os ∧ AllBare s'.gens) s1 := by
  have rv := vals_ints hi
  have lenV := hi.length
  have way : ∀ H : Hp, Only H → SqL K H a (ns.map V.int) → HOk P w H s1.heap → (∀ b u, H b = some u → b = a) → (∀ u, H a = some u → K.lookup a = none) →
      codeAny (model P w) callerA (.call (.ref fa) ⟨[.ref a], []⟩) (fun r s' => r = .ok (.ret (.bool true)) ∧ OldK s1.heap s'.heap ∧ s'.os = s1.os ∧ AllBare s'.gens) s1 := by
    intro H hO hS hok hA hK
    have untr : ∀ {b : Addr} {o : Obj} {es : Array DictEntry} {ep : Nat}, s1.heap.get? b = some o → o.data = .dict es ep → H b = none := by
      intro b o es ep e d
      rcases q : H b with _ | u
      · rfl
      · obtain rfl := hA b u q
        rw [ha] at e
        cases e
        exact nomatch (show Data.seq vs.toArray _ = Data.dict es ep from d)
    have nsK : ∀ {b : Addr} {m : Str → Option Value}, s1.heap.Ns b m → (hidT s1.heap H).Ns b m := by
      rintro b m ⟨o, es, ep, e, d, r⟩
      exact ⟨o, es, ep, hidT_get e (untr e d), d, r⟩
    have hKb : K.In (hidT s1.heap H) := by
      intro b o e
      refine hidT_get (KX b o e) ?_
      rcases q : H b with _ | u
      · rfl
      · obtain rfl := hA b u q
        have z := hK u q
        rw [z] at e
        cases e
    have hM : Mod K mg (hidT s1.heap H) := by
      obtain ⟨mc, h1, h2⟩ := hlim
      exact ⟨hKb, nsK hns, ⟨mb, nsK hb, hbb⟩, ⟨mc, nsK h1, h2⟩⟩
    have e0 : Env0 P w K mg (hidT s1.heap H) callerA [] s1 H :=
      ⟨rfl, hM, fun b o e => of_hidT e, Nat.le_of_eq (hidT_size _ _), trivial, fun b z => (nomatch (show b ∈ ([] : List Addr) from z)), hok, .of_eq hgen⟩
    have run := (F _ hKb (nsK hns)).runG callerA [] s1 H ⟨[.ref a], []⟩ [.ref a] [.ref a] _ _ rfl hr e0 (hbind s1 (.ref a)) (.cons rfl .nil) (hsp H hO hS)
    refine codeAny_mono run fun r s' h => ?_
    match r, h with
    | .error e, h => exact (hCX H e s' h).elim
    | .ok .next, h => exact h.elim
    | .ok .brk, h => exact h.elim
    | .ok .cont, h => exact h.elim
    | .ok (.ret u), h =>
      obtain ⟨v, H', os, bare, un, hok2, r2, q⟩ := h
      obtain rfl : v = .bl true := q
      obtain rfl : u = Value.bool true := r2
      refine ⟨rfl, OldK.of_keep fun b o e => ?_, os, bare⟩
      rcases q : H b with _ | u
      · exact un.keep b o e q (fun z => (nomatch (show b ∈ ([] : List Addr) from z))) (by simp)
      · rcases hO b with z | ⟨ob, xs, z⟩
        · rw [q] at z
          cases z
        · have z2 := un.frzs b ob _ z
          obtain ⟨e1, _⟩ := hok b _ z
          obtain ⟨e2, _⟩ := hok2 b _ z2
          rw [e] at e1
          cases e1
          exact e2
  rcases hk : K.lookup a with _ | o
  · have at_a : ∀ {b : Addr} {u : HO}, (if b = a then some (HO.frz { cls := .type "list", data := .seq vs.toArray } (.lst (ns.map V.int))) else none) = some u → b = a ∧ u = .frz { cls := .type "list", data := .seq vs.toArray } (.lst (ns.map V.int)) := by
      intro b u z
      by_cases hba : b = a
      · rw [if_pos hba] at z
        exact ⟨hba, (Option.some.inj z).symm⟩
      · rw [if_neg hba] at z
        cases z
    refine way (fun b => if b = a then some (.frz { cls := .type "list", data := .seq vs.toArray } (.lst (ns.map V.int))) else none) (fun b => ?_) (.inl (.inr ⟨{ cls := .type "list", data := .seq vs.toArray }, if_pos rfl⟩)) (fun b u z => ?_) (fun b u z => (at_a z).1) fun u _ => hk
    · by_cases hba : b = a
      · exact .inr ⟨_, _, if_pos hba⟩
      · exact .inl (if_neg hba)
    · obtain ⟨rfl, rfl⟩ := at_a z
      exact ⟨ha, by rw [List.length_map]; exact hl, vs, _, rv, ha⟩
  · have e := KX a o hk
    rw [ha] at e
    cases e
    refine way (fun _ => none) (fun _ => .inl rfl) (.inr ⟨_, vs.toArray, _, hk, rfl, rfl, rfl, by rw [List.size_toArray, lenV]; exact hl, by simpa using rv⟩) (fun b u z => ?_) (fun b u z => ?_) fun u z => ?_
    · exact nomatch (show (none : Option HO) = some u from z)
    · exact nomatch (show (none : Option HO) = some u from z)
    · exact nomatch (show (none : Option HO) = some u from z)
theorem walk_G {l : PySem.W.OpenLaw} {n k : Nat} {q : Program} {loose : List Str} {XP : (Str → Option Value) → Heap → Prop} {YP : World → Heap → Prop} {d : DefRec} {K : Params → PySem.W.Frag} {CX : World → CXT} {sp : World → Sp} {x : Str}
    (hn : l.most = some n) (hn2 : n ≤ sizeLine) (hdf : d.params.defaults = []) (hr : Room k callerA)
    (hY : ∀ (w : World) (h : Heap), YP w h → (K w.params).In h)
    (F : ∀ (w : World) (mg : Str → Option Value) (fa : Addr) (h : Heap), (K w.params).In h → h.Ns mainGlobals mg → mg d.name = some (.ref fa) →
      ∃ fd : FuncData, (∀ (s : Shared) (u : Value), BindsTo s fd ⟨[u], []⟩ [(x, u)]) ∧ ∀ base : Heap, (K w.params).In base → base.Ns mainGlobals mg → FnG l.prog w (K w.params) mg base (CX w) k fa fd [x] (sp w))
    (hsp : ∀ (w : World) (H : Hp) (a : Addr) (ns : List Int), ns.length ≤ n → (∀ z ∈ ns, Builtin.Int.intBits z ≤ 1048576) → Only H → SqL (K w.params) H a (ns.map V.int) → sp w [.ref a] H (fun v _ => v = .bl true) fun _ _ _ => False)
    (hCX : ∀ (w : World) (H : Hp) (s : Shared) (e : Value) (s' : Shared), CX w [] H s (fun _ _ _ => False) e s' → False) :
    PySem.W.WalkO q loose XP YP l.row.toRowW d [] (fun f vs => PySem.call f vs) := by
  refine Att.attach_callB hn hdf fun w s0 s1 mg mb fa o pm cd doc a vs ns G Y ho hd hcd hmg hobj hints hlen hbits hgen => ?_
  obtain ⟨fd, hb, hF⟩ := F w mg fa _ (hY w _ Y) G.T.g hmg
  exact law_callG (hY w _ Y) G.T.g G.T.b G.T.builtins G.T.nolimit hgen hobj hints (Nat.le_trans hlen hn2) hr hF hb (fun H hO hS => hsp w H a ns hlen hbits hO hS) fun H e s' => hCX w H s1 e s'
end Mz
set_option Elab.async false
set_option linter.all false
set_option maxRecDepth 100000
set_option maxHeartbeats 4000000
/-! try with several clauses «except X as n», the exception met by one of them; what else stands behind these clauses is never looked at -/
namespace Mz
open PySem PySem.Spec PyProof.Rows L2
/-- a clause: the class, the slot of its name, its suite -/
abbrev Cl := Value × Nat × (Addr → Value → Option Addr → TS)
def endsAs (i : Nat) (D : Ends) : Ends := { nx := fun t G => D.nx (t.set i none) G, rt := D.rt, bk := fun t G => D.bk (t.set i none) G, ct := fun t G => D.ct (t.set i none) G }
def wNam (K : PySem.W.Frag) (D : Ends) : List Cl → WX
  | [] => fun _ _ _ _ => False
  | (c, i, ts) :: r => fun cls d t G => ∃ b, PySem.W.exmOne K cls c = some b ∧ (b = true → ∀ a, G a = none → ts a cls d (endsAs i D) (t.set i (some (.ref a))) G) ∧ (b = false → wNam K D r cls d t G)
inductive Cls_ (X : Cx) : List ExceptHandler → List Cl → Prop
  | any (l : List ExceptHandler) : Cls_ X l []
  | one {x n : Str} {c : Value} {i : Nat} {ts : Addr → Value → Option Addr → TS} {st : Stmt} {suite : List Stmt} {p1 p2 : Pos} {hs : List ExceptHandler} {l : List Cl} (hi : X.N[i]? = some n) (hl : X.env.kindOf n = some .local) (hc : Names X x c)
      (hsu : ∀ (a : Addr) (oe : Obj) (cls : Value) (d : Option Addr) (pn : List (Addr × Obj)), Zc cls d oe → (∃ vs, oe.data = .fields vs) → PSs (X.suite a ((a, oe) :: pn)) (st :: suite) (ts a cls d)) (r : Cls_ X hs l) :
      Cls_ X (.ExceptHandler (some (.Name x p1)) (some n) (st :: suite) p2 :: hs) ((c, i, ts) :: l)
section
variable {X : Cx} {body : List Stmt} {hd0 : ExceptHandler} {hds : List ExceptHandler} {tb : WX → TS} {l : List Cl} {pos : Pos}
theorem ps_try_named (hst : X.stack = X.env :: X.outer) (hfr : X.env.frame = some X.env.locals) (hN : X.N.Nodup)
    (hb : ∀ (W : WX) (pn : List (Addr × Obj)) (xe : Value → Shared → Prop), Takes (X.tr pn xe) W → PassesOwn (model X.prog X.w) X.A X.env xe → PSs (X.tr pn xe) body (tb W))
    (hh : Cls_ X (hd0 :: hds) l) : PS X (.Try body (hd0 :: hds) [] [] pos) (fun D σ H => tb (wNam X.K D l) D σ H) := by
  refine ⟨fun pins s σ H D I h => ?_⟩
  have ok := I.ok
  have frames : X.A.frames = some (X.env :: X.outer) := ok.frames.trans (congrArg some hst)
  refine wpAny_Try_except (wpAny_mono ((hb (wNam X.K D l) (X.pn ++ pins) (fun e q1 => wpAny (model X.prog X.w) X.A (noteFrame e X.env) (fun _ q2 => wpAny (model X.prog X.w) X.A (setFlight e none) (fun _ q3 =>
    wpAny (model X.prog X.w) X.A (handleBy e X.env (hd0 :: hds)) (SP X pins D) X.xe q3) X.xe q2) X.xe q1) (fun u s' xx => ?_) PassesOwn.looking).run [] s σ H D (I.toTry _) h) (fun f q1 hsp => ?_) fun e q1 he => he)
  · obtain ⟨a, B, sI, pins2, t, G, cls, d, rfl, JT, nb, up, sky, na, os, ag, wish⟩ := xx
    have J : Inv X pins t G sI := JT.ofTry ok
    have sky2 : Sky B (X.env :: X.outer) a (Zc cls d) X.env.locals s'.heap := hst ▸ sky
    show wpAny (model X.prog X.w) X.A (noteFrame (.ref a) X.env) _ _ _
    refine Sky.land Zc.steady frames hfr sky2 fun g3 fl3 up3 => ?_
    have J3 : Inv X pins t G { s' with heap := g3 } := J.landed nb fl3.1 (up.trans up3) os ag
    obtain ⟨oe3, vs3, he3, hz3, hd3⟩ := fl3.there
    have off : a ∉ frs (X.env :: X.outer) := by
      intro hm
      obtain ⟨_, o2, e2, hnf⟩ := fl3.2.2.1.mem hm
      rw [he3] at e2
      cases e2
      exact hnf _ hd3
    have nL : a ≠ X.env.locals := fun z => off (List.mem_filterMap.mpr ⟨X.env, List.mem_cons_self, by rw [hfr, z]⟩)
    have nF : a ∉ X.fs := by
      intro hm
      obtain ⟨e, he, q⟩ := List.mem_filterMap.mp hm
      exact off (List.mem_filterMap.mpr ⟨e, List.mem_cons_of_mem _ he, q⟩)
    have S3 := J3.suite he3 hd3 na nL nF
    have go : ∀ {k : List ExceptHandler} {m : List Cl}, Cls_ X k m → wNam X.K D m cls d t G → wpAny (model X.prog X.w) X.A (handleBy (.ref a) X.env k) (SP X pins D) X.xe { s' with heap := g3 } := by
      intro k m hk
      induction hk with
      | any k => exact fun z => z.elim
      | @one x n c i ts st suite p1 p2 k2 m2 hi hl hc hsu r ih =>
        rintro ⟨b, hb1, hyes, hno⟩
        have locn : Loc X.env.scope n := .inl hl
        refine wpAny_handleBy_cons (codeAny_handlers_test ?_) (by intro q; cases q)
        have typ : PySem.W.Looks (model X.prog X.w) g3 (typeOf (.ref a)) cls := fun A Q E s k q => wpAny_typeOf_ref (k _ _ he3) (by rw [hz3.1]; exact q)
        have met := PySem.W.exm_one (M := model X.prog X.w) (J3.kIn) typ hb1
        have load : ∀ {Q : Value → Shared → Prop} {E : Value → Shared → Prop}, Q c { s' with heap := g3 } → wpAny (model X.prog X.w) (X.A.mark (some (.ref a))) (eval (.Name x p1) X.env) Q E { s' with heap := g3 } := by
          intro Q E q
          obtain ⟨h1, h2, h3 | ⟨h3, h4, h5⟩⟩ := hc
          · exact ld_glob (X := X.suite a ((a, oe3) :: (X.pn ++ pins))) S3 h1 h3 q h2
          · exact ld_blt (X := X.suite a ((a, oe3) :: (X.pn ++ pins))) S3 h1 h3 h4 q h5 h2
        refine load (met.here ?_)
        cases b with
        | false => exact ih (hno rfl)
        | true =>
          refine codeAny_handlers_suite_as (HandSPX.lands_againZ fl3 fun g4 fl4 up4 => ?_)
          have J4 : Inv X pins t G { s' with heap := g4 } := J.landed nb fl4.1 ((up.trans up3).trans up4) os ag
          obtain ⟨oe4, vs4, he4, hz4, hd4⟩ := fl4.there
          have S4 := J4.suite he4 hd4 na nL nF
          refine store_ok (X := X.suite a ((a, oe4) :: (X.pn ++ pins))) (v := .ref a) S4 hN hi locn rfl (fun q5 S5 => ?_) (.inr hl)
          refine wpAny_mono ((hsu a oe4 cls d (X.pn ++ pins) hz4 ⟨_, hd4⟩).run [] q5 _ G _ S5 (hyes rfl a na)) (fun f q6 hsp => ?_) (fun _ _ z => z.elim)
          have fin : ∀ {t6 : L2.St} {G6 : Hp} {Q : Shared → Prop}, Inv (X.suite a ((a, oe4) :: (X.pn ++ pins))) [] t6 G6 q6 → (∀ q7, Inv X pins (t6.set i none) G6 q7 → Q q7) →
              wpAny (model X.prog X.w) X.A (do bindName X.env n .none; unbindBehindTheSuite X.env n p2) (fun _ q7 => Q q7) X.xe q6 := fun S6 hq => gone_ok (S6.unsuite ok) hN hi hl hq
          match f, hsp with
          | .next, ⟨t6, G6, S6, q6⟩ => exact fin S6 fun _ J7 => ⟨_, _, J7, q6⟩
          | .brk, ⟨t6, G6, S6, q6⟩ => exact fin S6 fun _ J7 => ⟨_, _, J7, q6⟩
          | .cont, ⟨t6, G6, S6, q6⟩ => exact fin S6 fun _ J7 => ⟨_, _, J7, q6⟩
          | .ret u, ⟨v6, t6, G6, S6, r6, q6⟩ => exact fin S6 fun _ J7 => ⟨_, _, _, J7, r6, q6⟩
    first
      | exact go hh wish
      | exact HandSPX.setFlight_upZ fl3 fun h4 hh4 up4 => go hh wish
  · match f, hsp with
    | .next, ⟨t, G, J, q⟩ => exact wpAny_execs_nil ⟨t, G, J.ofTry ok, q⟩
    | .brk, ⟨t, G, J, q⟩ => exact ⟨t, G, J.ofTry ok, q⟩
    | .cont, ⟨t, G, J, q⟩ => exact ⟨t, G, J.ofTry ok, q⟩
    | .ret u, ⟨v, t, G, J, r, q⟩ => exact ⟨v, t, G, J.ofTry ok, r, q⟩
end
end Mz
set_option Elab.async false
set_option linter.all false
set_option maxRecDepth 100000
set_option maxHeartbeats 4000000
/-! own exceptions whose __init__ calls the __init__ of an own base by its name -/
namespace Mz
open PySem PySem.Spec PyProof.Rows L2
section
variable {X : Cx} {o e : Expr} {es : List Expr} {ta : TA} {x : Str} {cM : Addr} {p1 p2 pos : Pos}
/-- MapError.__init__(self, ..): what stands there is the built-in one -/
theorem pe_meinit {pl : Sem Bool} (hg : Gl X x) (hm : X.mg x = some (.ref cM)) (rd : ClX.CRead X.K cM (.type "type")) (fc : PySem.W.findCls X.K (.ref cM) (.type "type") "__init__" = some (.val (.builtin "ValueError.__init__"))) (ha : PA X (e :: es) ta)
    (hc : eval (.Call (.Attribute (.Name x p1) "__init__" p2) (e :: es) [] pos) X.env = (do
      let ov ← eval (.Name x p1) X.env
      standAt p2.atName
      let (f, first) ← holding [ov] (getMethod ov "__init__" pl)
      callWith pos f first (backTo pos (starEach (e :: es) X.env)) (backToKw pos (keywordEach [] X.env))) := by rfl)
    (hdb : (x == ("__debug__" : Str)) = false := by decide) (he : starEach (e :: es) X.env = (false, eval e X.env) :: starEach es X.env := by rfl) (hpl : (backTo pos (starEach es X.env)).any (·.1) = false := by rfl) :
    PE X (.Call (.Attribute (.Name x p1) "__init__" p2) (e :: es) [] pos) (tVeI X.K ta) := by
  refine ⟨fun pins s σ H Q I h => PySem.W.methodCall_KW (ld_glob I hg hm ?_ hdb) hc⟩
  refine PySem.W.method_cls I.kIn rd.ga (PySem.W.cls_value I.kIn rd.rd fc (by decide +kernel) ?_)
  show wpAny _ _ (callWith pos (Value.builtin "ValueError.__init__") [] (backTo pos (starEach (e :: es) X.env)) []) _ _ _
  refine PyProof.Rows.callWith_method1 (thn (ha.run pos pins _ σ H _ (I.tok _) h) fun us s1 hv => ?_) he hpl
  obtain ⟨vs, H1, I1, r1, a, C, ws, rfl, hl, T, ea, q⟩ := hv
  cases r1 with
  | @cons _ u0 _ ur ra rw2 =>
    obtain rfl : u0 = Value.ref a := ra
    have short : ur.length ≤ sizeLine := by
      have e2 := Paired.length rw2
      have e3 := sizeLine_eq
      omega
    exact oinit_ok T I1 ea short fun s2 J => ⟨.non, H1, J, rfl, q⟩
end
/-- an exception of one field that is being made: it is at a, no dict as yet; behind __init__ its dict holds the field -/
def spX1 (K : PySem.W.Frag) (C : Addr) (f : Str) : Sp := fun vs H Q _ => ∃ (a : Addr) (v : V), vs = [.ref a, v] ∧ H a = some (exo a C none) ∧
  ∀ dx, H dx = none → dx ≠ a → Q .non (upd (upd H dx (exd dx [(f, v)])) a (exo a C (some dx)))
end Mz
set_option Elab.async false
set_option linter.all false
set_option maxRecDepth 100000
set_option maxHeartbeats 4000000
/-! what an own class says of str, ==, !=, + -/
namespace Mz
open PySem PySem.Spec PyProof.Rows L2
section
variable {X : Cx} {CX : CXT} {k : Nat} {f C : Addr} {fd : FuncData} {ps : List Str} {sp : Sp} {E : XK}
/-- a def of the text called at another place of the same run -/
theorem run_at {pins : List (Addr × Obj)} {σ : L2.St} {H : Hp} {s : Shared} {A : Around} {Q : VK} {us : List Value} {vs : List V} {E2 : Value → Shared → Prop} (F : FnOk X.prog X.w X.K X.mg X.base CX k f fd ps sp) (hr : Room k A) (e0 : Env0 X.prog X.w X.K X.mg X.base A X.stack s H)
    (hb : Binds X.K fd ps []) (hx : ∀ e s2, CX X.stack H s E e s2 → E2 e s2) (I : Inv X pins σ H s) (r : Vals vs us) (h : sp vs H Q E) : wpAny (model X.prog X.w) A (call (.ref f) us) (EP X pins σ Q) E2 s := by
  have hl : (us ++ []).length = ps.length := by
    rw [List.append_nil]
    exact r.length.symm.trans (F.len _ _ _ _ h)
  have hbi := hb s us I.kIn hl
  rw [List.append_nil] at hbi
  refine wpAny_call (codeAny_mono (F.run A X.stack s H ⟨us, []⟩ us vs Q E hr e0 hbi r h) fun r s2 hq => ?_)
  match r, hq with
  | .error e, hq => exact hx e s2 hq
  | .ok (.ret u), hq => exact I.after hq
  | .ok .next, hq => exact hq.elim
  | .ok .brk, hq => exact hq.elim
  | .ok .cont, hq => exact hq.elim
/-- str(x) by the own __str__ -/
theorem call_strO (F : FnOk X.prog X.w X.K X.mg X.base CX0 k f fd ps sp) (hr : Room (k + 2) X.A) (hb : Binds X.K fd ps []) (hs : PySem.W.findIn X.K (.ref C) "__str__" = some (some (.ref f))) (hf : PySem.W.isFn X.K (.ref f) = true) :
    CallR X (.type "str") (fun xs H Q => ∃ a dx fs, xs = [.ref a] ∧ H a = some (.ins C dx fs) ∧ sp [.ref a] H (fun v H2 => ∃ z : Str, v = .str z ∧ Q (.str z) H2) E0) := by
  intro pins s σ H xs us Q I r h
  obtain ⟨a, dx, fs, rfl, ha, q⟩ := h
  obtain ⟨u, rfl, rx⟩ := vals1 r
  obtain rfl : u = Value.ref a := rx
  obtain ⟨mA, O, _⟩ := ins_get I.hok ha
  obtain ⟨od, J, _⟩ := O.look
  refine PySem.W.kso_call hr.in1.in1.units0 I.kIn J hs hf (wpAny_mono (run_at (E := E0) (vs := [.ref a]) (us := [.ref a]) F hr.in1.in1 I.env0.in1.in1 hb (fun _ _ z => z.elim) I (.cons rfl .nil) q) (fun u s2 hv => ?_) fun _ _ z => z)
  obtain ⟨v, H2, I2, rv, z, rfl, q2⟩ := hv
  obtain ⟨t, rfl⟩ := rv
  exact ⟨.str z, H2, I2, ⟨t, rfl⟩, q2⟩
/-- what stands on the other side of == : its type, no class below C -/
def Oth (K : PySem.W.Frag) (C : Addr) (H : Hp) (y : V) : Prop := ∃ t, TyX K H y t ∧ PySem.W.notFirst K C t = true
theorem op_eqO (F : FnOk X.prog X.w X.K X.mg X.base CX0 k f fd ps sp) (hr : Room k X.A) (hb : Binds X.K fd ps []) (hs : PySem.W.findIn X.K (.ref C) "__eq__" = some (some (.ref f))) (hf : PySem.W.isFn X.K (.ref f) = true) :
    OpR X (compareOp .Eq) (fun x y H Q => ∃ a dx fs, x = .ref a ∧ H a = some (.ins C dx fs) ∧ Oth X.K C H y ∧ sp [.ref a, y] H (fun v H2 => ∃ b : Bool, v = .bl b ∧ Q (.bl b) H2) E0) := by
  intro pins s σ H x y v u Q I rx ry h
  obtain ⟨a, dx, fs, rfl, ha, ⟨t, ty, nf⟩, q⟩ := h
  obtain rfl : v = Value.ref a := rx
  obtain ⟨mA, O, _⟩ := ins_get I.hok ha
  obtain ⟨od, J, _⟩ := O.look
  obtain ⟨m, hF⟩ := I.fr
  obtain ⟨P, Z, hp, _⟩ := kit_of I ry ty
  refine PySem.W.cmp_ofEq (PySem.W.cmp_K (op := .Eq) hr.units0 hF I.ok.mod.kin J (Z.ty _ _ I.kIn hp) nf hs hf (wpAny_mono (run_at (E := E0) (vs := [.ref a, y]) (us := [.ref a, u]) F hr I.env0 hb (fun _ _ z => z.elim) I (.cons rfl (.cons ry .nil)) q) (fun u s2 hv => ?_) fun _ _ z => z))
  obtain ⟨v, H2, I2, rv, b, rfl, q2⟩ := hv
  obtain rfl : u = Value.bool b := rv
  exact ⟨.bl b, H2, I2, rfl, q2⟩
/-- object.__ne__ by the own __eq__ -/
theorem op_neO (F : FnOk X.prog X.w X.K X.mg X.base CX0 k f fd ps sp) (hr : Room (k + 1) X.A) (hb : Binds X.K fd ps []) (hs : PySem.W.findIn X.K (.ref C) "__eq__" = some (some (.ref f))) (hf : PySem.W.isFn X.K (.ref f) = true)
    (hn : PySem.W.findIn X.K (.ref C) "__ne__" = some (some (.builtin "object.__ne__"))) (hm : PySem.W.mroIn X.K C (.type "object") = some true) :
    OpR X (compareOp .NotEq) (fun x y H Q => ∃ a dx fs, x = .ref a ∧ H a = some (.ins C dx fs) ∧ Oth X.K C H y ∧ sp [.ref a, y] H (fun v H2 => ∃ b : Bool, v = .bl b ∧ Q (.bl (!b)) H2) E0) := by
  intro pins s σ H x y v u Q I rx ry h
  obtain ⟨a, dx, fs, rfl, ha, ⟨t, ty, nf⟩, q⟩ := h
  obtain rfl : v = Value.ref a := rx
  obtain ⟨mA, O, _⟩ := ins_get I.hok ha
  obtain ⟨od, J, _⟩ := O.look
  obtain ⟨m, hF⟩ := I.fr
  obtain ⟨P, Z, hp, _⟩ := kit_of I ry ty
  have back : wpAny (model X.prog X.w) X.A.in1 (call (.ref f) [.ref a, u]) (fun r s2 => ∃ b, r = .bool b ∧ EP X pins σ Q (.bool (!b)) s2) X.xe s :=
    wpAny_mono (run_at (E := E0) (vs := [.ref a, y]) (us := [.ref a, u]) F hr.in1 I.env0.in1 hb (fun _ _ z => z.elim) I (.cons rfl (.cons ry .nil)) q) (fun r s2 hv => by
      obtain ⟨v, H2, I2, rv, b, rfl, q2⟩ := hv
      obtain rfl : r = Value.bool b := rv
      exact ⟨b, rfl, .bl (!b), H2, I2, rfl, q2⟩) fun _ _ z => z
  have body : wpAny (model X.prog X.w) X.A.in1 (Builtin.«object.__ne__» ⟨[.ref a, u], []⟩) (fun fin s2 => ∃ b : Bool, fin = .done (.ret (.bool b)) ∧ EP X pins σ Q (.bool b) s2) X.xe s := by
    unfold Builtin.«object.__ne__»
    refine wpAny_bind (m := slotArgs "__ne__" 1 _) (wpAny_pure ?_)
    refine wpAny_bind (m := cRoomFor _ _) (wpAny_cRoomFor hr.in1.units0 ?_)
    refine wpAny_bind (m := callSpecialIfBound? (.ref a) "__eq__" [u]) (PySem.W.ifBound_K I.kIn J hs hf (wpAny_mono back (fun r s2 hv => ?_) fun _ _ z => z))
    obtain ⟨b, rfl, e⟩ := hv
    exact wpAny_bind (wpAny_pure (wpAny_pure ⟨!b, rfl, e⟩))
  have sub : PySem.W.Looks (model X.prog X.w) s.heap (isInstance (.ref a) (.type "object")) true := J.type.andThen (PySem.W.looks_mroIn I.kIn hm)
  have ran : wpAny (model X.prog X.w) X.A (call (.builtin "object.__ne__") [.ref a, u]) (fun r s2 => ∃ b : Bool, r = .bool b ∧ EP X pins σ Q (.bool b) s2) X.xe s := by
    refine wpAny_call (codeAny_call_builtin PySem.F.slot_object_ne.plain PySem.F.entry_object_ne (PySem.W.check_slot (i := "object.__ne__") (owner := "object") (n := "__ne__") (by decide +kernel) (by decide +kernel) sub (PySem.F.args_object_ne_2 _ _) ?_))
    refine wpAny_mono body (fun fin s2 hv => ?_) fun _ _ z => z
    obtain ⟨b, rfl, e⟩ := hv
    exact ⟨b, rfl, e⟩
  have ask : wpAny (model X.prog X.w) X.A (callSpecialIfBound? (.ref a) "__ne__" [u]) (fun r s2 => ∃ b : Bool, r = some (.bool b) ∧ EP X pins σ Q (.bool b) s2) X.xe s := by
    simp only [callSpecialIfBound?, bindSpecialIfBound?]
    refine wpAny_holding (wpAny_bind (wpAny_bind (wpAny_bind (J.type.here ((PySem.W.looks_findIn I.kIn hn).here ?_)))))
    refine wpAny_bind (wpAny_askSetting (wpAny_ite ?_))
    have fin : wpAny (model X.prog X.w) X.A (call (.builtin "object.__ne__") ([.ref a] ++ [u]) >>= fun v => pure (some v)) (fun r s2 => ∃ b : Bool, r = some (.bool b) ∧ EP X pins σ Q (.bool b) s2) X.xe s :=
      wpAny_bind (wpAny_mono ran (fun v s2 hv => by
        obtain ⟨b, rfl, e⟩ := hv
        exact wpAny_pure ⟨b, rfl, e⟩) fun _ _ z => z)
    split
    · exact wpAny_bind ((PySem.W.Looks.of_pure (PySem.F.slot_object_ne.bind _)).here (wpAny_pure (by exact fin)))
    · exact wpAny_tryCatch (wpAny_bind ((PySem.W.Looks.of_pure (PySem.F.slot_object_ne.bind _)).here (wpAny_pure (by exact fin))))
  have one : wpAny (model X.prog X.w) X.A (tryCompare (.ref a) (cmpInfo .NotEq).2.1 u) (fun r s2 => ∃ v, r = some v ∧ EP X pins σ Q v s2) X.xe s := by
    unfold tryCompare
    refine wpAny_bind (wpAny_mono ask (fun r s2 hv => ?_) fun _ _ z => z)
    obtain ⟨b, rfl, e⟩ := hv
    exact wpAny_pure ⟨_, rfl, e⟩
  refine PySem.W.cmp_ofNotEq ?_
  unfold richCompare
  simp only [oneThing_ref]
  refine wpAny_holding (wpAny_bind (wpAny_cRoomFor (Nat.lt_of_lt_of_le hr.in1.units0 (Nat.le_refl _) |> fun z => Nat.lt_of_le_of_lt (Nat.le_succ _) z) ?_))
  refine wpAny_bind (J.type.here (wpAny_bind ((Z.ty _ _ I.kIn hp).here ?_)))
  have last : wpAny (model X.prog X.w) X.A (tryCompare (.ref a) (cmpInfo .NotEq).2.1 u) (fun r s2 => ∃ v, r = some v ∧ EP X pins σ Q v s2) X.xe s := one
  split
  · rename_i qn
    have e : PySem.W.subIn X.K t (.ref C) = some false := by
      rcases Bool.or_eq_true_iff.mp nf with e | e
      · rw [beq_iff_eq.mp e] at qn
        simp at qn
      · exact beq_iff_eq.mp e
    refine wpAny_bind ((PySem.W.looks_subIn I.kIn e).here ?_)
    simp only [Bool.false_eq_true, if_false]
    refine wpAny_bind (wpAny_mono last (fun r s2 z => ?_) fun _ _ e => e)
    obtain ⟨v, rfl, hq⟩ := z
    exact wpAny_pure hq
  · refine wpAny_bind (wpAny_pure ?_)
    simp only [Bool.false_eq_true, if_false]
    refine wpAny_bind (wpAny_mono last (fun r s2 z => ?_) fun _ _ e => e)
    obtain ⟨v, rfl, hq⟩ := z
    exact wpAny_pure hq
/-- what the class says of +, - with an int on the right -/
structure Arith (K : PySem.W.Frag) (C : Addr) (op : Operator) (f : Addr) : Prop where
  first : PySem.W.selfFirst K C = true
  own : PySem.W.findIn K (.ref C) (PySem.dunder op.info.2) = some (some (.ref f))
  fn : PySem.W.isFn K (.ref f) = true
  back : ∃ rc, PySem.W.findIn K (.ref C) (dunderR op.info.2) = some rc ∧ (rc = none ∨ ∃ g : Addr, rc = some (.ref g))
  io : ∃ fo, PySem.W.findIn K (.type "int") (PySem.dunder op.info.2) = some fo
  ir : ∃ ro, PySem.W.findIn K (.type "int") (dunderR op.info.2) = some ro
  sub : PySem.W.subIn K (.type "int") (.ref C) = some false
theorem op_binO {op : Operator} (F : FnOk X.prog X.w X.K X.mg X.base CX0 k f fd ps sp) (hr : Room k X.A) (hb : Binds X.K fd ps []) (T : Arith X.K C op f) :
    OpR X (binaryOp op) (fun x y H Q => ∃ a dx fs i, x = .ref a ∧ y = .int i ∧ H a = some (.ins C dx fs) ∧ sp [.ref a, y] H (fun v H2 => (∃ p, v = .ref p) ∧ Q v H2) E0) := by
  intro pins s σ H x y v u Q I rx ry h
  obtain ⟨a, dx, fs, i, rfl, rfl, ha, q⟩ := h
  obtain rfl : v = Value.ref a := rx
  obtain ⟨t, rfl⟩ := ry
  obtain ⟨mA, O, _⟩ := ins_get I.hok ha
  obtain ⟨od, J, _⟩ := O.look
  obtain ⟨m, hF⟩ := I.fr
  obtain ⟨rc, b1, b2⟩ := T.back
  obtain ⟨fo, c1⟩ := T.io
  obtain ⟨ro, c2⟩ := T.ir
  refine PySem.W.ksp_binT (T := "int") hF I.ok.mod.kin J rfl T.first T.own T.fn b1 b2 c1 c2 T.sub (wpAny_mono (run_at (E := E0) (vs := [.ref a, .int i]) (us := [.ref a, .int i t]) F hr I.env0 hb (fun _ _ z => z.elim) I (.cons rfl (.cons ⟨t, rfl⟩ .nil)) q) (fun r s2 hv => ?_) fun _ _ z => z)
  obtain ⟨v, H2, I2, rv, ⟨p, rfl⟩, q2⟩ := hv
  obtain rfl : r = Value.ref p := rv
  exact ⟨.ref p, H2, I2, rfl, q2⟩
end
end Mz
set_option Elab.async false
set_option linter.all false
set_option maxRecDepth 100000
set_option maxHeartbeats 4000000
/-! a small int in a field of an f-string with its sign written -/
namespace Mz
open PySem PySem.Spec PyProof.Rows L2 PySem.W
def signS (i : Int) : Str := if i = 1 then "+1" else if i = 2 then "+2" else if i = 3 then "+3" else if i = -1 then "-1" else if i = -2 then "-2" else "-3"
theorem small_six {i : Int} (h0 : -3 ≤ i) (h1 : i ≤ 3) (h : i ≠ 0) : i = 1 ∨ i = 2 ∨ i = 3 ∨ i = -1 ∨ i = -2 ∨ i = -3 := by omega
theorem fmt_plus {prog : Program} {w : World} {A : Around} {E : Value → Shared → Prop} {s : Shared} {i : Int} {t : Tok} {Q : Value → Shared → Prop} (h0 : -3 ≤ i) (h1 : i ≤ 3) (hz : i ≠ 0) (h : ∀ u k, Q (.str (signS i) u) { s with toks := k }) :
    wpAny (model prog w) A (formatField (.int i t) ("+d" : Str)) Q E s := by
  rcases small_six h0 h1 hz with rfl | rfl | rfl | rfl | rfl | rfl
  · exact KXf.field_int (y := "+1") rfl (by decide +kernel) (by decide +kernel) (by kxf_run_i) h
  · exact KXf.field_int (y := "+2") rfl (by decide +kernel) (by decide +kernel) (by kxf_run_i) h
  · exact KXf.field_int (y := "+3") rfl (by decide +kernel) (by decide +kernel) (by kxf_run_i) h
  · exact KXf.field_int (y := "-1") rfl (by decide +kernel) (by decide +kernel) (by kxf_run_i) h
  · exact KXf.field_int (y := "-2") rfl (by decide +kernel) (by decide +kernel) (by kxf_run_i) h
  · exact KXf.field_int (y := "-3") rfl (by decide +kernel) (by decide +kernel) (by kxf_run_i) h
section
variable {X : Cx}
theorem pe_fmtP {e : Expr} {te : TE} {j : Nat} {p1 p2 pos : Pos} (he : PE X e te) : PE X (.FormattedValue e (-1) (some (.JoinedStr [.Constant (.str "+d") j p1] p2)) pos)
    (fun σ H Q => te σ H fun x H1 => ∃ i : Int, x = .int i ∧ -3 ≤ i ∧ i ≤ 3 ∧ i ≠ 0 ∧ Q (.str (signS i)) H1) := by
  refine ⟨fun pins s σ H Q I h => ?_⟩
  refine wpAny_FormattedValue_spec (thn (he.run pins s σ H _ I h) fun v s1 hv => ?_)
  obtain ⟨x, H1, I1, r1, i, rfl, h0, h1, hz, q⟩ := hv
  obtain ⟨t, rfl⟩ := r1
  have sp : PE X (.JoinedStr [.Constant (.str "+d") j p1] p2) (tC (.str "+d")) := pe_joined1 pe_str
  refine wpAny_mono (sp.run pins s1 σ H1 (fun y H2 => y = .str "+d" ∧ Q (.str (signS i)) H2) I1 ⟨rfl, q⟩) (fun u s2 hv => ?_) fun _ _ z => z
  obtain ⟨y, H2, I2, r2, rfl, q2⟩ := hv
  obtain ⟨u2, rfl⟩ := r2
  exact ⟨_, u2, rfl, fmt_plus h0 h1 hz fun u k => ⟨.str (signS i), H2, I2.tok _, ⟨u, rfl⟩, q2⟩⟩
end
end Mz
set_option Elab.async false
set_option linter.all false
set_option maxRecDepth 100000
set_option maxHeartbeats 4000000
/-! a class held by a parameter, called; a classmethod called by keywords alone -/
namespace Mz
open PySem PySem.Spec PyProof.Rows L2
section
variable {X : Cx} {CX : CXT} {k n i : Nat} {f C : Addr} {fd : FuncData} {ps ks : List Str} {sp : Sp} {E : XK} {x : Str} {p pos : Pos} {e : Expr} {es : List Expr} {kws : List Keyword} {t tk : TA} {g : List Value → List Value → List Value} {gV : List V → List V → List V}
/-- cls(k = v, ..), cls a local name that holds the class at C -/
theorem pe_makeL0 (hN : X.N[i]? = some x) (hv : Vis X.env.scope x) (M : Mk X.K C f) (F : FnOk X.prog X.w X.K X.mg X.base CX k f fd ps sp) (hr : Room (k + 1) X.A) (hb : KBn X.K fd ps 1 ks g gV) (hx : Passes CX X E) (hkw : PK X kws tk)
    (hall : (backToKw pos (keywordEach kws X.env)).all (·.1.isSome) = true := by rfl) (hks : (backToKw pos (keywordEach kws X.env)).filterMap (·.1) = ks := by rfl) (hdb : (x == ("__debug__" : Str)) = false := by decide) (hcd : (x == ("__classdict__" : Str)) = false := by decide)
    (hpl : ((backTo pos (starEach [] X.env)).any (·.1) || (backToKw pos (keywordEach kws X.env)).any (·.1.isNone)) = false := by rfl) :
    PE X (.Call (.Name x p) [] kws pos) (fun σ H Q => σ[i]? = some (some (.ref C)) ∧ tMakeK C 0 ks.length sp gV E tNil tk σ H Q) := by
  refine ⟨fun pins s σ H Q I h => ?_⟩
  obtain ⟨hσ, h⟩ := h
  have ld : PE X (.Name x p) (tVar i) := pe_var hN hv hdb hcd
  refine wpAny_Call_Name_kw (wpAny_mono (ld.run pins s σ H (fun v H2 => v = .ref C ∧ tMakeK C 0 ks.length sp gV E tNil tk σ H2 Q) I ⟨_, hσ, rfl, h⟩) (fun u s1 hv => ?_) fun _ _ z => z)
  obtain ⟨v, H1, I1, rv, rfl, q⟩ := hv
  obtain rfl : u = Value.ref C := rv
  refine PySem.W.callWith_KW0 (h₀ := X.base) I.ok.mod.kin M.kp hall (thn (hkw.run pos pins s1 σ H1 _ I1 q) fun ws s2 hw => ?_) hpl
  obtain ⟨zs, H2, I2, rz, l1, l2, q2⟩ := hw
  rw [hks]
  exact ⟨I2.kIn, run_makeK (us := []) (vs := []) M F hr hb hx I2 .nil rz rfl l2 q2⟩
/-- cls(e, .., k = v, ..) -/
theorem pe_makeL (hN : X.N[i]? = some x) (hv : Vis X.env.scope x) (M : Mk X.K C f) (F : FnOk X.prog X.w X.K X.mg X.base CX k f fd ps sp) (hr : Room (k + 1) X.A) (hb : KBn X.K fd ps (n + 1) ks g gV) (hx : Passes CX X E) (ha : PA X (e :: es) t) (hkw : PK X kws tk)
    (hall : (backToKw pos (keywordEach kws X.env)).all (·.1.isSome) = true := by rfl) (hks : (backToKw pos (keywordEach kws X.env)).filterMap (·.1) = ks := by rfl) (hdb : (x == ("__debug__" : Str)) = false := by decide) (hcd : (x == ("__classdict__" : Str)) = false := by decide)
    (he : starEach (e :: es) X.env = (false, eval e X.env) :: starEach es X.env := by rfl) (hpl : ((backTo pos (starEach (e :: es) X.env)).any (·.1) || (backToKw pos (keywordEach kws X.env)).any (·.1.isNone)) = false := by rfl) :
    PE X (.Call (.Name x p) (e :: es) kws pos) (fun σ H Q => σ[i]? = some (some (.ref C)) ∧ tMakeK C n ks.length sp gV E t tk σ H Q) := by
  refine ⟨fun pins s σ H Q I h => ?_⟩
  obtain ⟨hσ, h⟩ := h
  have ld : PE X (.Name x p) (tVar i) := pe_var hN hv hdb hcd
  refine wpAny_Call_Name_kw (wpAny_mono (ld.run pins s σ H (fun v H2 => v = .ref C ∧ tMakeK C n ks.length sp gV E t tk σ H2 Q) I ⟨_, hσ, rfl, h⟩) (fun u s1 hv => ?_) fun _ _ z => z)
  obtain ⟨v, H1, I1, rv, rfl, q⟩ := hv
  obtain rfl : u = Value.ref C := rv
  refine PySem.W.callWith_KW (h₀ := X.base) I.ok.mod.kin M.kp hall (thn (ha.run pos pins s1 σ H1 _ I1 q) fun us s2 hw => ?_) hpl he
  obtain ⟨vs, H2, I2, r2, q2⟩ := hw
  refine thn (hkw.run pos pins s2 σ H2 _ I2 q2) fun ws s3 hw => ?_
  obtain ⟨zs, H3, I3, rz, l1, l2, q3⟩ := hw
  rw [hks]
  exact ⟨I3.kIn, run_makeK M F hr hb hx I3 r2 rz l1 l2 q3⟩
/-- C.m(k = v, ..), m a classmethod, keywords alone -/
theorem pe_cmethK0 {o : Expr} {ta : TE} {m : Str} {q g0 : Addr} {mc : Value} {apos : Pos} {pl : Sem Bool} {ES : L2.St → XK} (ho : PE X o ta) (r : ClX.CRead X.K C mc) (c : ClX.CMet X.K C mc m q g0) (F : FnOk X.prog X.w X.K X.mg X.base CX k g0 fd ps sp) (hr : Room k X.A) (hb : KBn X.K fd ps 1 ks g gV) (hx : ∀ σ, PassesAt CX X σ (ES σ)) (hkw : PK X kws tk)
    (hall : (backToKw pos (keywordEach kws X.env)).all (·.1.isSome) = true := by rfl) (hks : (backToKw pos (keywordEach kws X.env)).filterMap (·.1) = ks := by rfl)
    (hpl : ((backTo pos (starEach [] X.env)).any (·.1) || (backToKw pos (keywordEach kws X.env)).any (·.1.isNone)) = false := by rfl)
    (ht : eval (.Call (.Attribute o m apos) [] kws pos) X.env = (do
      let ov ← eval o X.env
      standAt apos.atName
      let (f, first) ← holding [ov] (getMethod ov m pl)
      callWith pos f first (backTo pos (starEach [] X.env)) (backToKw pos (keywordEach kws X.env))) := by rfl) :
    PE X (.Call (.Attribute o m apos) [] kws pos) (fun σ H Q => ta σ H fun x H1 => x = .ref C ∧ tk σ H1 fun zs H2 => zs.length = ks.length ∧ sp (gV [.ref C] zs) H2 Q (ES σ)) := by
  refine ⟨fun pins s σ H Q I h => PySem.W.methodCall_KW (pl := pl) (thn (ho.run pins s σ H _ I h) fun u s1 hv => ?_) ht⟩
  obtain ⟨x, H1, I1, rx, rfl, q1⟩ := hv
  obtain rfl : u = Value.ref C := rx
  refine ClX.getmethcm_ok I1 r c fun s2 I2 => ?_
  refine PySem.W.callWith_of (P := PySem.W.MethP X.K s1.heap.objs.size g0 (.ref C)) hpl (PySem.W.keeps_M c.fi) (evalArgs_kw2_nil hall (thn (hkw.run pos _ s2 σ H1 _ I2 q1) fun ws s3 hw => ?_))
  obtain ⟨zs, H2, I3, rz, l2, q2⟩ := hw
  refine ⟨⟨ClX.pin_at I3, I3.kIn⟩, ?_⟩
  rw [hks]
  have r1 : Vals [V.ref C] [Value.ref C] := .cons rfl .nil
  have z : wpAny (model X.prog X.w) X.A (call (.ref s1.heap.objs.size) [] (ks.zip ws)) (EP X ((s1.heap.objs.size, PySem.W.methodObj (.ref g0) (.ref C)) :: pins) σ Q) X.xe s3 := by
    refine wpAny_call (PySem.W.method_call (ClX.pin_at I3) (codeAny_mono (F.run X.A X.stack s3 H2 ⟨[.ref C], ks.zip ws⟩ (g [.ref C] ws) (gV [.ref C] zs) Q (ES σ) hr I3.env0 (hb.to s3 [.ref C] ws I3.kIn rfl (rz.length.symm.trans l2)) (hb.rel r1 rz) q2) fun r s4 hq => ?_))
    cases r with
    | error e => exact hx σ _ H2 s3 e s4 I3 hq
    | ok fl =>
      cases fl with
      | ret u => exact I3.after hq
      | next => exact hq.elim
      | brk => exact hq.elim
      | cont => exact hq.elim
  exact thn z fun _ _ y => ClX.unpinE y
/-- C.m(e, ..), m a classmethod; what is raised is wished for at the caller's slots -/
theorem pe_cmethS {o : Expr} {ta : TE} {m : Str} {q g0 : Addr} {mc : Value} {apos : Pos} {pl : Sem Bool} {ES : L2.St → XK} (ho : PE X o ta) (r : ClX.CRead X.K C mc) (c : ClX.CMet X.K C mc m q g0) (F : FnOk X.prog X.w X.K X.mg X.base CX k g0 fd ps sp) (hr : Room k X.A) (hb : Binds X.K fd ps [])
    (hx : ∀ σ, PassesAt CX X σ (ES σ)) (ha : PA X (e :: es) t) (hst : starEach (e :: es) X.env = (false, eval e X.env) :: starEach es X.env := by rfl) (hpl : (backTo pos (starEach es X.env)).any (·.1) = false := by rfl)
    (ht : eval (.Call (.Attribute o m apos) (e :: es) [] pos) X.env = (do
      let ov ← eval o X.env
      standAt apos.atName
      let (f, first) ← holding [ov] (getMethod ov m pl)
      callWith pos f first (backTo pos (starEach (e :: es) X.env)) (backToKw pos (keywordEach [] X.env))) := by rfl) :
    PE X (.Call (.Attribute o m apos) (e :: es) [] pos) (fun σ H Q => ta σ H fun x H1 => x = .ref C ∧ t σ H1 fun vs H2 => sp (.ref C :: vs) H2 Q (ES σ)) := by
  refine ⟨fun pins s σ H Q I h => PySem.W.methodCall_KW (pl := pl) (thn (ho.run pins s σ H _ I h) fun u s1 hv => ?_) ht⟩
  obtain ⟨x, H1, I1, rx, rfl, q1⟩ := hv
  obtain rfl : u = Value.ref C := rx
  refine ClX.getmethcm_ok I1 r c fun s2 I2 => ?_
  refine ClX.callwith_cm I2 (ClX.base_none I1 (Nat.le_refl _)) c.fi (thn (ha.run pos _ s2 σ H1 _ I2 q1) fun us s3 hw => ?_) hst hpl
  obtain ⟨vs, H2, I3, rv, q2⟩ := hw
  refine ⟨⟨ClX.pin_at I3, I3.kIn⟩, ?_⟩
  have r1 : Vals (V.ref C :: vs) (Value.ref C :: us) := .cons rfl rv
  have hl : (Value.ref C :: us ++ []).length = ps.length := by
    rw [List.append_nil]
    exact r1.length.symm.trans (F.len _ _ _ _ q2)
  have hbi := hb s3 (Value.ref C :: us) I3.kIn hl
  rw [List.append_nil] at hbi
  have z : wpAny (model X.prog X.w) X.A (call (.ref s1.heap.objs.size) us) (EP X ((s1.heap.objs.size, PySem.W.methodObj (.ref g0) (.ref C)) :: pins) σ Q) X.xe s3 := by
    refine wpAny_call (PySem.W.method_call (ClX.pin_at I3) (codeAny_mono (F.run X.A X.stack s3 H2 ⟨Value.ref C :: us, []⟩ (Value.ref C :: us) (V.ref C :: vs) Q (ES σ) hr I3.env0 hbi r1 q2) fun r s4 hq => ?_))
    cases r with
    | error e => exact hx σ _ H2 s3 e s4 I3 hq
    | ok fl =>
      cases fl with
      | ret u => exact I3.after hq
      | next => exact hq.elim
      | brk => exact hq.elim
      | cont => exact hq.elim
  exact thn z fun _ _ y => ClX.unpinE y
end
end Mz
set_option Elab.async false
set_option linter.all false
set_option maxRecDepth 100000
set_option maxHeartbeats 4000000
namespace Mz
open PySem L2
/-! the text by places -/
def top (i : Nat) : Stmt := PySem.Challenge.pw_mapsizes_k21_steps_known.main.body.getD i (.Pass ⟨0, 0, 0, 0⟩)
abbrev sMapError : Stmt := top 1
abbrev sInvPlace : Stmt := top 4
abbrev sWhole : Stmt := top 13
abbrev sIsInt : Stmt := top 14
abbrev sIsName : Stmt := top 15
abbrev sIsMark : Stmt := top 16
abbrev sIsPlace : Stmt := top 17
abbrev sLeast : Stmt := top 18
abbrev sParts : Stmt := top 19
abbrev sPlace : Stmt := top 20
abbrev sFits : Stmt := top 24
abbrev sIsStep : Stmt := top 25
abbrev sCell : Stmt := top 27
abbrev sBox : Stmt := top 28
abbrev sTake : Stmt := top 29
abbrev sWord : Stmt := top 30
abbrev sItem : Stmt := top 31
abbrev sRight : Stmt := top 32
abbrev sLaw : Stmt := top 33
end Mz
set_option Elab.async false
set_option linter.all false
set_option maxRecDepth 100000
set_option maxHeartbeats 4000000
/-! the draws: a cell of the script, its box, a digit out of the box -/
namespace Mz
open PySem PySem.Spec PyProof.Rows L2
/-- all that was tracked, but what stands at b, stands as it stood -/
def Kp (b : Addr) (H H' : Hp) : Prop := ∀ p o, p ≠ b → H p = some o → H' p = some o
theorem Kp.refl {b : Addr} {H : Hp} : Kp b H H := fun _ _ _ e => e
theorem Kp.trans {b : Addr} {H H1 H2 : Hp} (x : Kp b H H1) (y : Kp b H1 H2) : Kp b H H2 := fun p o n e => y p o n (x p o n e)
theorem Kp.fresh {b p : Addr} {H : Hp} {o : HO} (h : H p = none) : Kp b H (upd H p o) := fun q u _ e => by
  rw [upd_ne (ne_of_none e h)]
  exact e
theorem Kp.here {b : Addr} {H : Hp} {o : HO} : Kp b H (upd H b o) := fun q u n e => by
  rw [upd_ne n]
  exact e
/-- a box: what is left of the cell, its seed, how many digits were mixed (at most n) -/
def Bx (H : Hp) (b : Addr) (n : Nat) : Prop := ∃ x y z : Int, H b = some (.lst [.int x, .int y, .int z]) ∧ 0 ≤ x ∧ 0 ≤ y ∧ y < 2147483563 ∧ 0 ≤ z ∧ z ≤ (n : Int)
theorem Bx.upd {H : Hp} {b p : Addr} {n : Nat} {o : HO} (h : Bx H b n) (hp : H p = none) : Bx (upd H p o) b n := by
  obtain ⟨x, y, z, e, r⟩ := h
  exact ⟨x, y, z, by rw [upd_ne (ne_of_none e hp)]; exact e, r⟩
theorem Bx.more {H : Hp} {b : Addr} {n m : Nat} (h : Bx H b n) (le : n ≤ m) : Bx H b m := by
  obtain ⟨x, y, z, e, h1, h2, h3, h4, h5⟩ := h
  exact ⟨x, y, z, e, h1, h2, h3, h4, by omega⟩
def spCell (K : PySem.W.Frag) : Sp := fun vs H Q _ => ∃ (a : Addr) (ns : List Int) (k : Nat), vs = [.ref a, .int k] ∧ SqL K H a (ns.map V.int) ∧ k < 1000 ∧ ∀ i : Int, Q (.int i) H
def spBox : Sp := fun vs H Q _ => ∃ i : Int, vs = [.int i] ∧ ∀ (b : Addr) (H' : Hp), H b = none → Bx H' b 0 → Kp b H H' → Q (.ref b) H'
def spTake : Sp := fun vs H Q _ => ∃ (b : Addr) (n : Nat) (m : Int), vs = [.ref b, .int m] ∧ Bx H b n ∧ n ≤ 1000000 ∧ 0 < m ∧ m < 2 ^ 64 ∧
  ∀ (r : Int) (H' : Hp), 0 ≤ r → r < m → Bx H' b (n + 1) → Kp b H H' → Q (.int r) H'
/-- the built-ins that the draws call -/
structure Blt (mg : Str → Option Value) : Prop where
  len : mg "len" = none
  max : mg "max" = none
  min : mg "min" = none
  int : mg "int" = none
  range : mg "range" = none
section
variable {P : Program} {w : World} {K : PySem.W.Frag} {mg : Str → Option Value} {base : Heap}
theorem scCell : FnScope ["_law_script", "_law_k"] ["_law_script", "_law_k"] (defScope sCell) := ⟨rfl, rfl, rfl, by decide +kernel, rfl, by decide +kernel, by decide +kernel⟩
theorem ok_cell {f : Addr} {fd : FuncData} (F : Fun K "_law_cell" "_law_cell" sCell f fd) (B : Blt mg) : FnOk P w K mg base CX0 1 f fd ["_law_script", "_law_k"] (spCell K) := by
  refine F.ok scCell (fun vs H Q E h => ?_) (fun cdv A outer s H vs Q E hr h => ?_)
  · obtain ⟨a, ns, k, rfl, _⟩ := h
    rfl
  · obtain ⟨a, ns, k, rfl, hS, hk, q⟩ := h
    refine ⟨_, pss_one (ps_ret (pe_ifExp (pt_cmpR op_lt (pv 1) (pe_callB call_len_seq (by rfl) B.len PySem.boot_len (pa_cons (pv 0) pa_nil)) (nomark _))
      (pe_ix ix_list (pv 0) (pv 1) (fun _ _ => rfl)) (pe_op op_add (pe_op op_mul pe_int (pv 1)) pe_int))), ?_⟩
    refine ⟨_, rfl, _, rfl, a, _, rfl, .inl hS, _, _, rfl, rfl, _, rfl, ?_⟩
    refine ite2 (fun hc => ?_) (fun _ => ?_)
    · have hlt : k < ns.length := by
        have z := of_decide_eq_true hc
        rw [List.length_map] at z
        omega
      exact ⟨_, rfl, _, rfl, a, _, _, _, rfl, rfl, hS, atI_nat (v := V.int (ns[k])) (by rw [List.getElem?_map, List.getElem?_eq_getElem hlt]; rfl), q _⟩
    · exact ⟨_, rfl, _, _, rfl, rfl, .inl ⟨by decide, by decide⟩, _, _, rfl, rfl, q _⟩
theorem scBox : FnScope ["_law_cell_here"] ["_law_cell_here"] (defScope sBox) := ⟨rfl, rfl, rfl, by decide +kernel, rfl, by decide +kernel, by decide +kernel⟩
theorem ok_box {f : Addr} {fd : FuncData} (F : Fun K "_law_box" "_law_box" sBox f fd) (B : Blt mg) : FnOk P w K mg base CX0 1 f fd ["_law_cell_here"] spBox := by
  refine F.ok scBox (fun vs H Q E h => ?_) (fun cdv A outer s H vs Q E hr h => ?_)
  · obtain ⟨i, rfl, _⟩ := h
    rfl
  · obtain ⟨i, rfl, q⟩ := h
    refine ⟨_, pss_one (ps_ret (pe_lst (pa_cons (pe_callB (call_max2 rfl) (by rfl) B.max (by decide +kernel) (pa_cons pe_int (pa_cons (pe_op op_sub (pv 0) (pe_op op_pow pe_int pe_int)) pa_nil)))
      (pa_cons (pe_op op_mod (pe_callTy call_int1 (by rfl) B.int (by decide +kernel) (pa_cons (pv 0) pa_nil)) pe_int) (pa_cons pe_int pa_nil))))), ?_⟩
    refine ⟨_, rfl, _, _, rfl, rfl, ⟨by decide, by decide, by decide⟩, _, _, rfl, rfl, _, _, rfl, ?_⟩
    refine ⟨_, rfl, .inl ⟨_, rfl, _, _, rfl, rfl, (by show (0 : Int) < 2147483563; decide), ?_⟩⟩
    refine ⟨(by show 3 ≤ sizeLine; decide), fun p np => q p _ np ⟨_, _, _, upd_same, ?_, ?_, ?_, by decide, by decide⟩ (Kp.fresh np)⟩
    · split <;> omega
    · exact Int.emod_nonneg _ (by decide)
    · exact Int.emod_lt_of_pos _ (by decide)
theorem scTake : FnScope ["_law_box_here", "_law_many", "_law_digit", "_law_mixed"] ["_law_box_here", "_law_many"] (defScope sTake) := ⟨rfl, rfl, rfl, by decide +kernel, rfl, by decide +kernel, by decide +kernel⟩
theorem fmod_low {i j : Int} (h : 0 < j) : 0 ≤ i.fmod j := Int.fmod_nonneg_of_pos i h
theorem fmod_high {i j : Int} (h : 0 < j) : i.fmod j < j := Int.fmod_lt_of_pos i h
theorem small_log {m : Int} (h0 : 0 < m) (h : m < 2 ^ 64) : m.natAbs.log2 < 9000 := by
  have h1 : m.natAbs < 2 ^ 64 := by omega
  exact Nat.lt_of_lt_of_le (PySem.Flt.log2_lt_of (by decide) h1) (by decide)
theorem ok_take {f : Addr} {fd : FuncData} (F : Fun K "_law_take" "_law_take" sTake f fd) (B : Blt mg) : FnOk P w K mg base CX0 1 f fd ["_law_box_here", "_law_many"] spTake := by
  refine F.ok scTake (fun vs H Q E h => ?_) (fun cdv A outer s H vs Q E hr h => ?_)
  · obtain ⟨b, n, m, rfl, _⟩ := h
    rfl
  · obtain ⟨b, n, m, rfl, ⟨x, y, z, hb, x0, y0, y1, z0, z1⟩, hn, m0, m1, q⟩ := h
    have nd := scTake.nd
    refine ⟨_, pss_cons (ps_if (pt_cmpR op_gt (pe_ix ix_list (pv 0) pe_int (fun _ _ => rfl)) pe_int (nomark _))
        (pss_cons (ps_set (i := 2) nd rfl (Or.inl rfl) (pe_op op_modN (pe_callTy call_int1 (by rfl) B.int (by decide +kernel) (pa_cons (pe_ix ix_list (pv 0) pe_int (fun _ _ => rfl)) pa_nil)) (pv 1)))
        (pss_cons (ps_asg (pe_op op_fdivW (pe_ix ix_list (pv 0) pe_int (fun _ _ => rfl)) (pv 1)) (pg_sub (pv 0) pe_int set_list))
        (pss_one (ps_ret (pv 2))))) pss_nil)
      (pss_cons (ps_asg (pe_op op_add (pe_ix ix_list (pv 0) pe_int (fun _ _ => rfl)) pe_int) (pg_sub (pv 0) pe_int set_list))
      (pss_cons (ps_set (i := 3) nd rfl (Or.inl rfl) (pe_op op_mod (pe_op op_pow (pe_callTy call_int1 (by rfl) B.int (by decide +kernel) (pa_cons (pe_op op_add (pe_op op_add (pe_ix ix_list (pv 0) pe_int (fun _ _ => rfl)) (pe_op op_mul pe_int (pe_ix ix_list (pv 0) pe_int (fun _ _ => rfl)))) pe_int) pa_nil)) pe_int) pe_int))
      (pss_cons (ps_set (i := 3) nd rfl (Or.inl rfl) (pe_op op_mod (pe_op op_pow (pe_callTy call_int1 (by rfl) B.int (by decide +kernel) (pa_cons (pe_op op_add (pv 3) (pe_op op_mul pe_int (pe_ix ix_list (pv 0) pe_int (fun _ _ => rfl)))) pa_nil)) pe_int) pe_int))
      (pss_one (ps_ret (pe_op op_modN (pe_op op_fdiv (pv 3) pe_int) (pv 1))))))), ?_⟩
    have a0 : ∀ {u v t : V}, atI [u, v, t] (0 : Int) = some u := rfl
    refine ⟨_, rfl, b, _, _, _, rfl, rfl, SqL.of hb, a0, _, _, rfl, rfl, _, rfl, ?_⟩
    refine ite2 (fun hc => ?_) (fun _ => ?_)
    · refine ⟨_, rfl, b, _, _, _, rfl, rfl, SqL.of hb, a0, .inl ⟨_, rfl, _, rfl, _, _, rfl, rfl, by omega, ?_⟩⟩
      refine ⟨_, rfl, b, _, _, _, rfl, rfl, SqL.of hb, a0, _, rfl, _, _, rfl, rfl, ⟨m0, small_log m0 m1⟩, ?_⟩
      refine ⟨_, rfl, b, _, _, _, rfl, rfl, hb, rfl, ?_⟩
      refine ⟨_, rfl, q _ _ (fmod_low m0) (fmod_high m0) ⟨_, y, z, upd_same, Int.ediv_nonneg x0 (by omega), y0, y1, z0, by omega⟩ Kp.here⟩
    · refine ⟨_, rfl, b, _, _, _, rfl, rfl, SqL.of hb, rfl, _, _, rfl, rfl, _, rfl, b, _, _, _, rfl, rfl, hb, rfl, ?_⟩
      have hb1 : upd H b (.lst [.int x, .int y, .int (z + 1)]) b = some (.lst [.int x, .int y, .int (z + 1)]) := upd_same
      refine ⟨_, rfl, b, _, _, _, rfl, rfl, SqL.of hb1, rfl, ?_⟩
      refine ⟨_, rfl, b, _, _, _, rfl, rfl, SqL.of hb1, rfl, ?_⟩
      refine ⟨_, _, rfl, rfl, .inl ⟨by decide, by decide⟩, _, _, rfl, rfl, _, _, rfl, rfl, .inl ⟨_, rfl, _, _, rfl, rfl, ⟨by decide, by decide, by omega⟩, ?_⟩⟩
      refine ⟨_, _, rfl, rfl, (by show (0 : Int) < 2147483647; decide), ?_⟩
      refine ⟨_, rfl, _, rfl, b, _, _, _, rfl, rfl, SqL.of hb1, rfl, ?_⟩
      have l1 := Int.emod_nonneg ((y + 7433 * (z + 1) + 283) ^ (5 : Int).toNat) (b := 2147483647) (by decide)
      have h1 := Int.emod_lt_of_pos ((y + 7433 * (z + 1) + 283) ^ (5 : Int).toNat) (b := 2147483647) (by decide)
      refine ⟨_, _, rfl, rfl, .inl ⟨by decide, by decide⟩, _, _, rfl, rfl, .inl ⟨_, rfl, _, _, rfl, rfl, ⟨by decide, by decide, by omega⟩, ?_⟩⟩
      refine ⟨_, _, rfl, rfl, (by show (0 : Int) < 2147483587; decide), ?_⟩
      refine ⟨_, rfl, _, _, rfl, rfl, ⟨by decide, by decide⟩, _, rfl, _, _, rfl, rfl, by omega, ?_⟩
      exact q _ _ (fmod_low m0) (fmod_high m0) ⟨x, y, z + 1, upd_same, x0, y0, y1, by omega, by omega⟩ Kp.here
end
end Mz
set_option Elab.async false
set_option linter.all false
set_option maxRecDepth 100000
set_option maxHeartbeats 4000000
/-! the program's own defs: integers, names, marks -/
namespace Mz
open PySem PySem.Spec PyProof.Rows L2
/-- any value, by what isinstance says of it -/
inductive Kd (K : PySem.W.Frag) (H : Hp) : V → Prop
  | int (i : Int) : Kd K H (.int i)
  | bl (b : Bool) : Kd K H (.bl b)
  | str (z : Str) (h : z.length ≤ 1000) (ok : PyData.strOk z = true) : Kd K H (.str z)
  | non : Kd K H .non
  | oth (a : Addr) (t : Value) (ty : TyX K H (.ref a) t) (ki : PySem.W.kitOne K t (.type "int") = some false) (ks : PySem.W.kitOne K t (.type "str") = some false) : Kd K H (.ref a)
def wholeV : V → Bool
  | .int _ => true
  | _ => false
def inB (lo hi : Int) : V → Bool
  | .int i => decide (lo ≤ i) && decide (i ≤ hi)
  | _ => false
abbrev abc : Str := "abcdefghijklmnopqrstuvwxyz"
/-- a name, as the program says it -/
def nameS (z : Str) : Bool := (decide (1 ≤ (z.length : Int)) && decide ((z.length : Int) ≤ 6)) && z.cps.toList.all fun c => decide (c ∈ abc.cps.toList)
def nameV : V → Bool
  | .str z => nameS z
  | _ => false
def noMarks : List V := [.str "old", .str "zero", .str "end", .str "fails", .str "more", .str "done", .str "none"]
def markV : V → Bool
  | .str z => nameS z && !inV (.str z) noMarks
  | _ => false
def spWhole (K : PySem.W.Frag) : Sp := fun vs H Q _ => ∃ v, vs = [v] ∧ Kd K H v ∧ Q (.bl (wholeV v)) H
def spIsInt (K : PySem.W.Frag) : Sp := fun vs H Q _ => ∃ v lo hi, vs = [v, .int lo, .int hi] ∧ Kd K H v ∧ Q (.bl (inB lo hi v)) H
/-- the list of the letters' answers is left behind -/
def spIsName (K : PySem.W.Frag) : Sp := fun vs H Q _ => ∃ v, vs = [v] ∧ Kd K H v ∧ ∀ H', Same H H' → Q (.bl (nameV v)) H'
def spIsMark (K : PySem.W.Frag) : Sp := fun vs H Q _ => ∃ v, vs = [v] ∧ Kd K H v ∧ ∀ H', Same H H' → Q (.bl (markV v)) H'
structure Blp (mg : Str → Option Value) : Prop where
  isi : mg "isinstance" = none
  bool : mg "bool" = none
  str : mg "str" = none
  all : mg "all" = none
section
variable {P : Program} {w : World} {K : PySem.W.Frag} {mg : Str → Option Value} {base : Heap}
theorem scWhole : FnScope ["value"] ["value"] (defScope sWhole) := ⟨rfl, rfl, rfl, by decide +kernel, rfl, by decide +kernel, by decide +kernel⟩
theorem ok_whole {f : Addr} {fd : FuncData} (F : Fun K "_is_whole" "_is_whole" sWhole f fd) (B : Blt mg) (D : Blp mg) : FnOk P w K mg base CX0 1 f fd ["value"] (spWhole K) := by
  refine F.ok scWhole (fun vs H Q E h => ?_) (fun cdv A outer s H vs Q E hr h => ?_)
  · obtain ⟨v, rfl, _⟩ := h
    rfl
  · obtain ⟨v, rfl, hk, q⟩ := h
    refine ⟨_, pss_one (ps_ret (pe_and (pe_callB call_isi (by rfl) D.isi (by decide +kernel) (pa_cons (pv 0) (pa_cons (pe_bltn (v := .ty "int") (by rfl) B.int (by decide +kernel) rfl) pa_nil)))
      (pe_one (pe_not (pe_callB call_isi (by rfl) D.isi (by decide +kernel) (pa_cons (pv 0) (pa_cons (pe_bltn (v := .ty "bool") (by rfl) D.bool (by decide +kernel) rfl) pa_nil))))))), ?_⟩
    refine ⟨_, rfl, ?_⟩
    cases hk with
    | int i => exact ⟨_, _, _, _, true, rfl, .ty _, .base (.int i), kit_ty (by decide +kernel), true, rfl, iteT ⟨_, rfl, _, _, _, _, false, rfl, .ty _, .base (.int i), kit_ty (by decide +kernel), false, rfl, q⟩⟩
    | bl b => exact ⟨_, _, _, _, true, rfl, .ty _, .base (.bl b), kit_ty (by decide +kernel), true, rfl, iteT ⟨_, rfl, _, _, _, _, true, rfl, .ty _, .base (.bl b), kit_ty (by decide +kernel), true, rfl, q⟩⟩
    | str z _ _ => exact ⟨_, _, _, _, false, rfl, .ty _, .base (.str z), kit_ty (by decide +kernel), false, rfl, iteF q⟩
    | non => exact ⟨_, _, _, _, false, rfl, .ty _, .base .non, kit_ty (by decide +kernel), false, rfl, iteF q⟩
    | oth a t ty ki ks => exact ⟨_, _, _, _, false, rfl, .ty _, ty, ki, false, rfl, iteF q⟩
theorem scIsInt : FnScope ["value", "low", "high"] ["value", "low", "high"] (defScope sIsInt) := ⟨rfl, rfl, rfl, by decide +kernel, rfl, by decide +kernel, by decide +kernel⟩
theorem ok_isInt {f f1 : Addr} {fd fd1 : FuncData} (F : Fun K "is_integer" "is_integer" sIsInt f fd) (G : FnOk P w K mg base CX0 1 f1 fd1 ["value"] (spWhole K)) (m1 : mg "_is_whole" = some (.ref f1)) (k1 : PySem.W.keepIn K (.ref f1) = true) (b1 : Binds K fd1 ["value"] []) :
    FnOk P w K mg base CX0 2 f fd ["value", "low", "high"] (spIsInt K) := by
  refine F.ok scIsInt (fun vs H Q E h => ?_) (fun cdv A outer s H vs Q E hr h => ?_)
  · obtain ⟨v, lo, hi, rfl, _⟩ := h
    rfl
  · obtain ⟨v, lo, hi, rfl, hk, q⟩ := h
    refine ⟨_, pss_one (ps_ret (pe_and (pe_call G hr (by rfl) m1 k1 b1 .nil pass0 (pa_cons (pv 0) pa_nil)) (pe_one (pe_chain op_le op_le (pv 1) (pv 0) (pv 2))))), ?_⟩
    refine ⟨_, rfl, v, rfl, hk, _, rfl, ?_⟩
    cases hk with
    | int i =>
      refine iteT ⟨_, rfl, _, rfl, _, _, rfl, rfl, _, rfl, ite2 (fun hc => ?_) (fun hc => ?_)⟩
      · refine ⟨_, rfl, _, _, rfl, rfl, ?_⟩
        have e : inB lo hi (.int i) = decide (i ≤ hi) := by
          show (decide (lo ≤ i) && decide (i ≤ hi)) = _
          rw [hc, Bool.true_and]
        rw [e] at q
        exact q
      · have e : inB lo hi (.int i) = false := by
          show (decide (lo ≤ i) && decide (i ≤ hi)) = _
          rw [Bool.eq_false_iff.mpr hc, Bool.false_and]
        rw [e] at q
        exact q
    | bl b => exact iteF q
    | str z _ _ => exact iteF q
    | non => exact iteF q
    | oth a t ty ki ks => exact iteF q
theorem scIsName : FnScope ["value", "letter"] ["value"] (defScope sIsName) := ⟨rfl, rfl, rfl, by decide +kernel, rfl, by decide +kernel, by decide +kernel⟩
theorem ok_isName {f : Addr} {fd : FuncData} {t1 t2 : Tok} (F : Fun K "is_name" "is_name" sIsName f fd) (B : Blt mg) (D : Blp mg) (mL : mg "_LONGEST_NAME" = some (.int 6 t1)) (mA : mg "_LETTERS" = some (.str abc t2)) : FnOk P w K mg base CX0 1 f fd ["value"] (spIsName K) := by
  refine F.ok scIsName (fun vs H Q E h => ?_) (fun cdv A outer s H vs Q E hr h => ?_)
  · obtain ⟨v, rfl, _⟩ := h
    rfl
  · obtain ⟨v, rfl, hk, q⟩ := h
    have nd := scIsName.nd
    refine ⟨_, pss_cons (ps_if (PW.pt (pw_or (pt_not (pt_val (pe_callB call_isi (by rfl) D.isi (by decide +kernel) (pa_cons (pv 0) (pa_cons (pe_bltn (v := .ty "str") (by rfl) D.str (by decide +kernel) rfl) pa_nil)))))
        (pw_or1 (pt_not (pt_chain op_le op_le pe_int (pe_callB call_len_str (by rfl) B.len PySem.boot_len (pa_cons (pv 0) pa_nil)) (pe_glob (v := .int 6) rfl mL ⟨_, rfl⟩)))))) (pss_one (ps_ret pe_bl)) pss_nil)
      (pss_one (ps_ret (pe_callB (cr_all rfl) (by rfl) D.all (by decide +kernel) (pa_cons (pe_lc (own := [("letter", 1)]) (g := gName 1) (tt := tYes) rfl nd (pi_str (pv 0)) (blkOk_by (N := ["value", "letter"]) (sc := defScope sIsName) (by decide +kernel))
        (fun _ _ _ _ _ => pg_name (i := 1) nd rfl (Or.inl rfl)) (fun _ _ _ _ _ => pts_nil) (fun _ _ _ _ _ => pe_cmpR op_in_sign (pv 1) (pe_glob (v := .str abc) rfl mA ⟨_, rfl⟩) (by rfl))) pa_nil)))), ?_⟩
    refine ⟨_, rfl, ?_⟩
    have no : ∀ {v : V}, nameV v = false → (∀ H', Same H H' → Q (.bl (nameV v)) H') → Q (.bl false) H := fun e q => by
      rw [← e]
      exact q _ fun _ _ z => z
    cases hk with
    | int i => exact ⟨_, _, _, _, false, rfl, .ty _, .base (.int i), kit_ty (by decide +kernel), false, rfl, iteT (iteT (no rfl q))⟩
    | bl b => exact ⟨_, _, _, _, false, rfl, .ty _, .base (.bl b), kit_ty (by decide +kernel), false, rfl, iteT (iteT (no rfl q))⟩
    | non => exact ⟨_, _, _, _, false, rfl, .ty _, .base .non, kit_ty (by decide +kernel), false, rfl, iteT (iteT (no rfl q))⟩
    | oth a t ty ki ks => exact ⟨_, _, _, _, false, rfl, .ty _, ty, ks, false, rfl, iteT (iteT (no rfl q))⟩
    | str z hz ok =>
      refine ⟨_, _, _, _, true, rfl, .ty _, .base (.str z), kit_ty (by decide +kernel), true, rfl, iteF ?_⟩
      have zl : z.length ≤ sizeLine := Nat.le_trans hz (by decide)
      refine ⟨_, rfl, _, rfl, zl, _, _, rfl, rfl, _, rfl, ite2 (fun h1 => ?_) (fun h1 => ?_)⟩
      · refine ⟨_, _, rfl, rfl, _, rfl, ?_⟩
        cases h6 : decide ((z.length : Int) ≤ 6) with
        | false =>
          refine iteT ?_
          have e : nameV (.str z) = false := by
            show ((decide (1 ≤ (z.length : Int)) && decide ((z.length : Int) ≤ 6)) && z.cps.toList.all fun c => decide (c ∈ abc.cps.toList)) = false
            rw [h6, Bool.and_false, Bool.false_and]
          exact no e q
        | true =>
          refine iteF ?_
          refine ⟨_, rfl, z, rfl, fun p np => lc_it walk_str (fun i H' => H' = upd H p (.lst ((z.cps.toList.take i).map fun c => V.bl (decide (c ∈ abc.cps.toList))))) rfl (fun _ _ _ _ => trivial) ?_ ?_⟩
          · rintro i x H0 H' hi rfl ⟨rfl, c, hc, rfl⟩
            refine ⟨rfl, ?_⟩
            unfold tYes
            refine iteT ⟨_, rfl, c, abc, rfl, rfl, _, upd_same, ?_, ?_⟩
            · rw [List.length_map, List.length_take]
              exact Nat.lt_of_le_of_lt (Nat.min_le_left _ _) (Nat.lt_of_lt_of_le hi zl)
            · rw [upd_upd]
              have hc2 : z.cps.toList[i]? = some c := by
                rw [Array.getElem?_toList]
                exact hc
              rw [List.take_succ, hc2, List.map_append]
              rfl
          · rintro H' rfl
            have sz : z.cps.toList.take z.cps.size = z.cps.toList := by
              rw [← Array.length_toList, List.take_length]
            refine ⟨p, (z.cps.toList.take z.cps.size).map fun c => decide (c ∈ abc.cps.toList), rfl, SqL.of (by rw [List.map_map]; exact upd_same), ?_⟩
            have e : nameV (.str z) = ((z.cps.toList.take z.cps.size).map fun c => decide (c ∈ abc.cps.toList)).all id := by
              show ((decide (1 ≤ (z.length : Int)) && decide ((z.length : Int) ≤ 6)) && z.cps.toList.all fun c => decide (c ∈ abc.cps.toList)) = _
              rw [h1, h6, sz, List.all_map]
              rfl
            rw [← e]
            refine q _ fun b o z => ?_
            rw [upd_ne (ne_of_none z np)]
            exact z
      · have e : nameV (.str z) = false := by
          show ((decide (1 ≤ (z.length : Int)) && decide ((z.length : Int) ≤ 6)) && z.cps.toList.all fun c => decide (c ∈ abc.cps.toList)) = false
          rw [Bool.eq_false_iff.mpr h1, Bool.false_and, Bool.false_and]
        exact ⟨_, rfl, iteT (no e q)⟩
end
end Mz
set_option Elab.async false
set_option linter.all false
set_option maxRecDepth 100000
set_option maxHeartbeats 4000000
namespace Mz
open PySem PySem.Spec PyProof.Rows L2
def lowS (z : Str) : Int := if z = "" then 0 else -3
def spLeast : Sp := fun vs H Q _ => ∃ z : Str, vs = [.str z] ∧ Q (.int (lowS z)) H
/-- a place's fields -/
def plF (z : Str) (k : Int) : List (Str × V) := putF "_shift" (.int k) (putF "_base" (.str z) [])
/-- a place that can be made: no error -/
def spInit (C : Addr) : Sp := fun vs H Q _ => ∃ (p dx : Addr) (z : Str) (k : Int), vs = [.ref p, .str z, .int k] ∧ H p = some (.ins C dx []) ∧ z.length ≤ 1000 ∧ PyData.strOk z = true ∧ (z = "" ∨ nameS z = true) ∧ lowS z ≤ k ∧ k ≤ 3 ∧
  ∀ H', (∀ q o, q ≠ p → H q = some o → H' q = some o) → H' p = some (.ins C dx (plF z k)) → Q .non H'
structure Cpl (K : PySem.W.Frag) (mg : Str → Option Value) (C : Addr) : Prop where
  cl : Cls K C
  nB : NoAttr K C "_base"
  nS : NoAttr K C "_shift"
  mgC : mg "Place" = some (.ref C)
section
variable {P : Program} {w : World} {K : PySem.W.Frag} {mg : Str → Option Value} {base : Heap}
theorem scLeast : FnScope ["base"] ["base"] (defScope sLeast) := ⟨rfl, rfl, rfl, by decide +kernel, rfl, by decide +kernel, by decide +kernel⟩
theorem ok_least {f : Addr} {fd : FuncData} {t : Tok} (F : Fun K "_least_shift" "_least_shift" sLeast f fd) (mM : mg "_MOST" = some (.int 3 t)) : FnOk P w K mg base CX0 1 f fd ["base"] spLeast := by
  refine F.ok scLeast (fun vs H Q E h => ?_) (fun cdv A outer s H vs Q E hr h => ?_)
  · obtain ⟨z, rfl, _⟩ := h
    rfl
  · obtain ⟨z, rfl, q⟩ := h
    refine ⟨_, pss_one (ps_ret (pe_ifExp (pt_cmpR op_eq (pv 0) pe_str (nomark _)) pe_int (pe_un un_neg (pe_glob (v := .int 3) rfl mM ⟨_, rfl⟩)))), ?_⟩
    refine ⟨_, rfl, rfl, _, rfl, ite2 (fun hc => ?_) (fun hc => ?_)⟩
    · have e : lowS z = 0 := if_pos (V.str.inj (of_decide_eq_true hc))
      rw [e] at q
      exact q
    · have e : lowS z = -3 := if_neg fun x => hc (decide_eq_true (by rw [x]))
      rw [e] at q
      exact ⟨_, rfl, q⟩
theorem scInit : FnScope ["self", "base", "shift"] ["self", "base", "shift"] (defScope (inClass sPlace 0)) := ⟨rfl, rfl, rfl, by decide +kernel, rfl, by decide +kernel, by decide +kernel⟩
theorem ok_init {f f1 f2 f3 C : Addr} {fd fd1 fd2 fd3 : FuncData} {t : Tok} {dvs : List V} {kws : List (Str × V)} {pa : Arguments} (F : FunD K "__init__" "Place.__init__" pa (defBody (inClass sPlace 0)) (defScope (inClass sPlace 0)) dvs kws f fd) (T : Cpl K mg C)
    (G1 : FnOk P w K mg base CX0 1 f1 fd1 ["value"] (spIsName K)) (m1 : mg "is_name" = some (.ref f1)) (k1 : PySem.W.keepIn K (.ref f1) = true) (b1 : Binds K fd1 ["value"] [])
    (G2 : FnOk P w K mg base CX0 2 f2 fd2 ["value", "low", "high"] (spIsInt K)) (m2 : mg "is_integer" = some (.ref f2)) (k2 : PySem.W.keepIn K (.ref f2) = true) (b2 : Binds K fd2 ["value", "low", "high"] [])
    (G3 : FnOk P w K mg base CX0 1 f3 fd3 ["base"] spLeast) (m3 : mg "_least_shift" = some (.ref f3)) (k3 : PySem.W.keepIn K (.ref f3) = true) (b3 : Binds K fd3 ["base"] [])
    (mM : mg "_MOST" = some (.int 3 t)) : FnOk P w K mg base CX0 3 f fd ["self", "base", "shift"] (spInit C) := by
  refine F.ok scInit (fun vs H Q E h => ?_) (fun cdv A outer s H vs Q E hr h => ?_)
  · obtain ⟨p, dx, z, k, rfl, _⟩ := h
    rfl
  · obtain ⟨p, dx, z, k, rfl, hp, hz, ok, hn, h1, h2, q⟩ := h
    refine ⟨_, PSs.nox (pss_cons (ps_if (PW.pt (pw_and (pt_cmpR op_ne (pv 1) pe_str (nomark _)) (pw_and1 (pt_not (pt_val (pe_call G1 (hr.mono (by decide)) (by rfl) m1 k1 b1 .nil pass0 (pa_cons (pv 1) pa_nil))))))) (pss_one ps_never) pss_nil)
      (pss_cons (ps_if (pt_not (pt_val (pe_call G2 hr (by rfl) m2 k2 b2 .nil pass0 (pa_cons (pv 2) (pa_cons (pe_call G3 (hr.mono (by decide)) (by rfl) m3 k3 b3 .nil pass0 (pa_cons (pv 1) pa_nil)) (pa_cons (pe_glob (v := .int 3) rfl mM ⟨_, rfl⟩) pa_nil)))))) (pss_one ps_never) pss_nil)
      (pss_cons (ps_fld (pv 0) (pv 1) rfl) (pss_one (ps_fld (pv 0) (pv 2) rfl))))), ?_⟩
    generalize hT : tSeq (tIfS (tNot _) _ _) (tSeq (sFld _ _ _ _) (sFld _ _ _ _)) = T2
    have rest : ∀ H1, Same H H1 → T2 { nx := fun _ H' => Q .non H', rt := Q } (start ["self", "base", "shift"] [V.ref p, V.str z, V.int k]) H1 := by
      intro H1 sm
      rw [← hT]
      have hp1 := sm _ _ hp
      refine ⟨_, rfl, _, rfl, z, rfl, .int k, lowS z, 3, rfl, Kd.int k, _, rfl, ?_⟩
      have e : inB (lowS z) 3 (.int k) = true := by
        show (decide (lowS z ≤ k) && decide (k ≤ 3)) = true
        rw [decide_eq_true h1, decide_eq_true h2]
        rfl
      rw [e]
      refine iteF ⟨_, rfl, _, rfl, p, C, dx, [], rfl, hp1, T.cl, T.nB, (by show 0 < 1000; decide), _, rfl, _, rfl, p, C, dx, _, rfl, upd_same, T.cl, T.nS, (by show 1 < 1000; decide), ?_⟩
      refine q _ (fun r o n e => ?_) upd_same
      rw [upd_ne n, upd_ne n]
      exact sm _ _ e
    have kd : Kd K H (.str z) := .str z hz ok
    by_cases hz0 : z = ""
    · subst hz0
      exact ⟨_, rfl, rfl, _, rfl, iteF (iteF (rest H (Same.refl H)))⟩
    · have hnm : nameS z = true := hn.resolve_left hz0
      have e : decide (V.str z = V.str "") = false := decide_eq_false fun x => hz0 (V.str.inj x)
      refine ⟨_, rfl, rfl, _, rfl, ?_⟩
      rw [e]
      refine iteT ⟨_, rfl, .str z, rfl, kd, fun H1 sm => ⟨_, rfl, ?_⟩⟩
      have e2 : nameV (.str z) = true := hnm
      rw [e2]
      exact iteF (rest H1 sm)
end
end Mz
set_option Elab.async false
set_option linter.all false
set_option maxRecDepth 100000
set_option maxHeartbeats 4000000
namespace Mz
open PySem PySem.Spec PyProof.Rows L2
theorem plF_base {z : Str} {k : Int} : (plF z k).lookup ("_base" : Str) = some (.str z) := by
  unfold plF
  rw [lookup_putF, if_neg (by decide +kernel), lookup_putF, if_pos rfl]
theorem plF_shift {z : Str} {k : Int} : (plF z k).lookup ("_shift" : Str) = some (.int k) := by
  unfold plF
  rw [lookup_putF, if_pos rfl]
/-- a place stands at a -/
def Pl (C : Addr) (H : Hp) (a : Addr) (z : Str) (k : Int) : Prop := ∃ dx, H a = some (.ins C dx (plF z k))
/-- a base and a shift that go together -/
def Good (z : Str) (k : Int) : Prop := z.length ≤ 1000 ∧ PyData.strOk z = true ∧ (z = "" ∨ nameS z = true) ∧ lowS z ≤ k ∧ k ≤ 3
theorem Good.lo {z : Str} {k : Int} (g : Good z k) : -3 ≤ k := by
  have h := g.2.2.2.1
  unfold lowS at h
  split at h <;> omega
theorem Good.hi {z : Str} {k : Int} (g : Good z k) : k ≤ 3 := g.2.2.2.2
theorem int_small {k : Int} (h0 : -3 ≤ k) (h1 : k ≤ 3) : k.natAbs.log2 < 1920 := by
  have h : k.natAbs < 2 ^ 3 := by omega
  exact Nat.lt_trans (PySem.Flt.log2_lt_of (by decide) h) (by decide)
/-- str of a place -/
def strP (z : Str) (k : Int) : Str := if z = "" then Str.ofString (toString k) else if k = 0 then z else "" ++ z ++ signS k
def spBase (C : Addr) : Sp := fun vs H Q _ => ∃ a z k, vs = [.ref a] ∧ Pl C H a z k ∧ Q (.str z) H
def spShift (C : Addr) : Sp := fun vs H Q _ => ∃ a z k, vs = [.ref a] ∧ Pl C H a z k ∧ Q (.int k) H
def spStr (C : Addr) : Sp := fun vs H Q _ => ∃ a z k, vs = [.ref a] ∧ Pl C H a z k ∧ Good z k ∧ Q (.str (strP z k)) H
/-- a value that is no place -/
def Oty (K : PySem.W.Frag) (C : Addr) (H : Hp) (y : V) : Prop := ∃ t, TyX K H y t ∧ PySem.W.kitOne K t (.ref C) = some false
def spEq (K : PySem.W.Frag) (C : Addr) : Sp := fun vs H Q _ => ∃ a z k, Pl C H a z k ∧ ((∃ b y i, vs = [.ref a, .ref b] ∧ Pl C H b y i ∧ Q (.bl (decide (z = y) && decide (k = i))) H) ∨ (∃ y, vs = [.ref a, y] ∧ Oty K C H y ∧ Q (.bl false) H))
def spAdd (C : Addr) : Sp := fun vs H Q _ => ∃ a z k i, vs = [.ref a, .int i] ∧ Pl C H a z k ∧ Good z k ∧ Good z (k + i) ∧ ∀ p H', H p = none → Same H H' → Pl C H' p z (k + i) → Q (.ref p) H'
theorem strlen_sign {k : Int} : (signS k).length = 2 := by
  unfold signS
  repeat' split
  all_goals decide +kernel
section
variable {P : Program} {w : World} {K : PySem.W.Frag} {mg : Str → Option Value} {base : Heap}
theorem scBase : FnScope ["self"] ["self"] (defScope (inClass sPlace 2)) := ⟨rfl, rfl, rfl, by decide +kernel, rfl, by decide +kernel, by decide +kernel⟩
theorem ok_base {f C : Addr} {fd : FuncData} (F : Fun K "base" "Place.base" (inClass sPlace 2) f fd) (T : Cpl K mg C) : FnOk P w K mg base CX0 1 f fd ["self"] (spBase C) := by
  refine F.ok scBase (fun vs H Q E h => ?_) (fun cdv A outer s H vs Q E hr h => ?_)
  · obtain ⟨a, z, k, rfl, _⟩ := h
    rfl
  · obtain ⟨a, z, k, rfl, ⟨dx, ha⟩, q⟩ := h
    exact ⟨_, pss_one (ps_ret (pe_fld (pv 0) rfl)), _, rfl, a, C, dx, _, _, rfl, ha, T.cl, T.nB, plF_base, q⟩
theorem scShift : FnScope ["self"] ["self"] (defScope (inClass sPlace 3)) := ⟨rfl, rfl, rfl, by decide +kernel, rfl, by decide +kernel, by decide +kernel⟩
theorem ok_shift {f C : Addr} {fd : FuncData} (F : Fun K "shift" "Place.shift" (inClass sPlace 3) f fd) (T : Cpl K mg C) : FnOk P w K mg base CX0 1 f fd ["self"] (spShift C) := by
  refine F.ok scShift (fun vs H Q E h => ?_) (fun cdv A outer s H vs Q E hr h => ?_)
  · obtain ⟨a, z, k, rfl, _⟩ := h
    rfl
  · obtain ⟨a, z, k, rfl, ⟨dx, ha⟩, q⟩ := h
    exact ⟨_, pss_one (ps_ret (pe_fld (pv 0) rfl)), _, rfl, a, C, dx, _, _, rfl, ha, T.cl, T.nS, plF_shift, q⟩
theorem scStr : FnScope ["self"] ["self"] (defScope (inClass sPlace 4)) := ⟨rfl, rfl, rfl, by decide +kernel, rfl, by decide +kernel, by decide +kernel⟩
theorem ok_str {f C : Addr} {fd : FuncData} (F : Fun K "__str__" "Place.__str__" (inClass sPlace 4) f fd) (T : Cpl K mg C) (D : Blp mg) : FnOk P w K mg base CX0 1 f fd ["self"] (spStr C) := by
  refine F.ok scStr (fun vs H Q E h => ?_) (fun cdv A outer s H vs Q E hr h => ?_)
  · obtain ⟨a, z, k, rfl, _⟩ := h
    rfl
  · obtain ⟨a, z, k, rfl, ⟨dx, ha⟩, g, q⟩ := h
    refine ⟨_, pss_cons (ps_if (pt_cmpR op_eq (pe_fld (pv 0) rfl) pe_str (nomark _)) (pss_one (ps_ret (pe_callTy call_str_int (by rfl) D.str (by decide +kernel) (pa_cons (pe_fld (pv 0) rfl) pa_nil)))) pss_nil)
      (pss_cons (ps_if (pt_cmpR op_eq (pe_fld (pv 0) rfl) pe_int (nomark _)) (pss_one (ps_ret (pe_joined1 (pe_fmt (pe_fld (pv 0) rfl))))) pss_nil)
      (pss_one (ps_ret (pe_joined (.cons (pe_fmt (pe_fld (pv 0) rfl)) (.cons (pe_fmtP (pe_fld (pv 0) rfl)) .nil)))))), ?_⟩
    have zl : z.length ≤ 1000 := g.1
    refine ⟨_, rfl, a, C, dx, _, _, rfl, ha, T.cl, T.nB, plF_base, rfl, _, rfl, ite2 (fun h1 => ?_) (fun h1 => ?_)⟩
    · have e : strP z k = Str.ofString (toString k) := if_pos (V.str.inj (of_decide_eq_true h1))
      rw [e] at q
      exact ⟨_, rfl, a, C, dx, _, _, rfl, ha, T.cl, T.nS, plF_shift, _, rfl, int_small g.lo g.hi, q⟩
    · have n1 : ¬ z = "" := fun x => h1 (decide_eq_true (by rw [x]))
      refine ⟨_, rfl, a, C, dx, _, _, rfl, ha, T.cl, T.nS, plF_shift, rfl, _, rfl, ite2 (fun h2 => ?_) (fun h2 => ?_)⟩
      · have e : strP z k = z := by
          unfold strP
          rw [if_neg n1, if_pos (V.int.inj (of_decide_eq_true h2))]
        rw [e] at q
        exact ⟨_, rfl, a, C, dx, _, _, rfl, ha, T.cl, T.nB, plF_base, .inl ⟨z, rfl, Nat.le_trans zl (by decide), q⟩⟩
      · have n2 : ¬ k = 0 := fun x => h2 (decide_eq_true (by rw [x]))
        have e : strP z k = "" ++ z ++ signS k := by
          unfold strP
          rw [if_neg n1, if_neg n2]
        rw [e] at q
        refine ⟨_, rfl, a, C, dx, _, _, rfl, ha, T.cl, T.nB, plF_base, .inl ⟨z, rfl, Nat.le_trans zl (by decide), z, rfl, ?_, ?_⟩⟩
        · rw [strLen_append]
          exact Nat.le_trans (Nat.add_le_add (show ("" : Str).length ≤ 0 by decide +kernel) zl) (by decide)
        · refine ⟨_, rfl, a, C, dx, _, _, rfl, ha, T.cl, T.nS, plF_shift, k, rfl, g.lo, g.hi, n2, signS k, rfl, ?_, q⟩
          rw [strLen_append, strLen_append, strlen_sign]
          exact Nat.le_trans (Nat.add_le_add_right (Nat.add_le_add (show ("" : Str).length ≤ 0 by decide +kernel) zl) 2) (by decide)
end
end Mz
set_option Elab.async false
set_option linter.all false
set_option maxRecDepth 100000
set_option maxHeartbeats 4000000
namespace Mz
open PySem PySem.Spec PyProof.Rows L2
section
variable {P : Program} {w : World} {K : PySem.W.Frag} {mg : Str → Option Value} {base : Heap}
/-- isinstance of a place and of no place -/
structure Pty (K : PySem.W.Frag) (C : Addr) : Prop where
  cl : Cls K C
  ha : PySem.W.findIn K (.ref C) "__class__" = some (some (.builtin "object.__class__"))
  hn : PySem.W.specialIn K (.builtin "object.__class__") "__get__" = some (some (.builtin "getset_descriptor.__get__"))
  htk : PySem.W.takesIn K (.builtin "object.__class__") = some true
  hm : PySem.W.mroIn K C (.type "object") = some true
theorem Pl.ty {C : Addr} {H : Hp} {a : Addr} {z : Str} {k : Int} (T : Pty K C) (h : Pl C H a z k) : TyX K H (.ref a) (.ref C) := by
  obtain ⟨dx, ha⟩ := h
  exact .base (.ins ha T.cl T.ha T.hn T.htk T.hm)
theorem kit_self {C : Addr} : PySem.W.kitOne K (.ref C) (.ref C) = some true := by
  unfold PySem.W.kitOne
  rw [if_pos (by simp)]
theorem scEq : FnScope ["self", "other"] ["self", "other"] (defScope (inClass sPlace 6)) := ⟨rfl, rfl, rfl, by decide +kernel, rfl, by decide +kernel, by decide +kernel⟩
theorem ok_eq {f C : Addr} {fd : FuncData} (F : Fun K "__eq__" "Place.__eq__" (inClass sPlace 6) f fd) (T : Cpl K mg C) (Y : Pty K C) (D : Blp mg) : FnOk P w K mg base CX0 1 f fd ["self", "other"] (spEq K C) := by
  refine F.ok scEq (fun vs H Q E h => ?_) (fun cdv A outer s H vs Q E hr h => ?_)
  · obtain ⟨a, z, k, _, ⟨b, y, i, rfl, _⟩ | ⟨y, rfl, _⟩⟩ := h
    · rfl
    · rfl
  · obtain ⟨a, z, k, pa, h⟩ := h
    refine ⟨_, pss_one (ps_ret (pe_and (pe_callB call_isi (by rfl) D.isi (by decide +kernel) (pa_cons (pv 1) (pa_cons (pe_glob (v := .ref C) rfl T.mgC rfl) pa_nil)))
      (pe_and (pe_cmpR op_eq (pe_fld (pv 0) rfl) (pe_fld (pv 1) rfl) (nomark _)) (pe_one (pe_cmpR op_eq (pe_fld (pv 0) rfl) (pe_fld (pv 1) rfl) (nomark _)))))), ?_⟩
    obtain ⟨dx, ha⟩ := id pa
    rcases h with ⟨b, y, i, rfl, pb, q⟩ | ⟨y, rfl, ⟨t, ty, kt⟩, q⟩
    · obtain ⟨dy, hb⟩ := id pb
      refine ⟨_, rfl, .ref b, .ref C, .ref C, .ref C, true, rfl, .own C, pb.ty Y, kit_self, true, rfl, iteT ?_⟩
      refine ⟨_, rfl, a, C, dx, _, _, rfl, ha, T.cl, T.nB, plF_base, _, rfl, b, C, dy, _, _, rfl, hb, T.cl, T.nB, plF_base, rfl, _, rfl, ite2 (fun h1 => ?_) (fun h1 => ?_)⟩
      · refine ⟨_, rfl, a, C, dx, _, _, rfl, ha, T.cl, T.nS, plF_shift, _, rfl, b, C, dy, _, _, rfl, hb, T.cl, T.nS, plF_shift, rfl, ?_⟩
        have e1 : z = y := V.str.inj (of_decide_eq_true h1)
        have e2 : decide (V.int k = V.int i) = decide (k = i) := decide_eq_decide.mpr ⟨fun x => V.int.inj x, fun x => by rw [x]⟩
        rw [decide_eq_true e1, Bool.true_and] at q
        rw [e2]
        exact q
      · have e1 : ¬ z = y := fun x => h1 (decide_eq_true (by rw [x]))
        rw [decide_eq_false e1, Bool.false_and] at q
        exact q
    · exact ⟨_, rfl, y, .ref C, t, .ref C, false, rfl, .own C, ty, kt, false, rfl, iteF q⟩
theorem scAdd : FnScope ["self", "other"] ["self", "other"] (defScope (inClass sPlace 7)) := ⟨rfl, rfl, rfl, by decide +kernel, rfl, by decide +kernel, by decide +kernel⟩
theorem ok_add {f f2 f3 fI C : Addr} {fd fd2 fd3 fdI : FuncData} {t : Tok} {g : List Value → List Value → List Value} (F : Fun K "__add__" "Place.__add__" (inClass sPlace 7) f fd) (T : Cpl K mg C)
    (G2 : FnOk P w K mg base CX0 2 f2 fd2 ["value", "low", "high"] (spIsInt K)) (m2 : mg "is_integer" = some (.ref f2)) (k2 : PySem.W.keepIn K (.ref f2) = true) (b2 : Binds K fd2 ["value", "low", "high"] [])
    (G3 : FnOk P w K mg base CX0 1 f3 fd3 ["base"] spLeast) (m3 : mg "_least_shift" = some (.ref f3)) (k3 : PySem.W.keepIn K (.ref f3) = true) (b3 : Binds K fd3 ["base"] [])
    (mM : mg "_MOST" = some (.int 3 t)) (M : Mk K C fI) (GI : FnOk P w K mg base CX0 3 fI fdI ["self", "base", "shift"] (spInit C)) (kI : KBn K fdI ["self", "base", "shift"] 2 ["shift"] g (fun vs zs => vs ++ zs)) :
    FnOk P w K mg base CX0 5 f fd ["self", "other"] (spAdd C) := by
  refine F.ok scAdd (fun vs H Q E h => ?_) (fun cdv A outer s H vs Q E hr h => ?_)
  · obtain ⟨a, z, k, i, rfl, _⟩ := h
    rfl
  · obtain ⟨a, z, k, i, rfl, ⟨dx, ha⟩, g1, g2, q⟩ := h
    refine ⟨_, PSs.nox (pss_cons (ps_if (pt_not (pt_val (pe_call G2 (hr.mono (by decide)) (by rfl) m2 k2 b2 .nil pass0 (pa_cons (pv 1) (pa_cons (pe_op op_sub (pe_call G3 (hr.mono (by decide)) (by rfl) m3 k3 b3 .nil pass0 (pa_cons (pe_fld (pv 0) rfl) pa_nil)) (pe_fld (pv 0) rfl))
        (pa_cons (pe_op op_sub (pe_glob (v := .int 3) rfl mM ⟨_, rfl⟩) (pe_fld (pv 0) rfl)) pa_nil)))))) (pss_one ps_never) pss_nil)
      (pss_one (ps_ret (pe_makeK M GI hr (by rfl) T.mgC kI pass0 (pa_cons (pe_fld (pv 0) rfl) pa_nil) (pk_cons (pe_op op_add (pe_fld (pv 0) rfl) (pv 1)) pk_nil))))), ?_⟩
    refine ⟨_, rfl, _, rfl, a, C, dx, _, _, rfl, ha, T.cl, T.nB, plF_base, z, rfl, _, rfl, a, C, dx, _, _, rfl, ha, T.cl, T.nS, plF_shift, _, _, rfl, rfl, ?_⟩
    refine ⟨_, rfl, a, C, dx, _, _, rfl, ha, T.cl, T.nS, plF_shift, _, _, rfl, rfl, .int i, _, _, rfl, .int i, _, rfl, ?_⟩
    have e : inB (lowS z - k) (3 - k) (.int i) = true := by
      have h1 := g2.2.2.2.1
      have h2 := g2.2.2.2.2
      show (decide (lowS z - k ≤ i) && decide (i ≤ 3 - k)) = true
      rw [decide_eq_true (by omega), decide_eq_true (by omega)]
      rfl
    rw [e]
    refine iteF ⟨_, rfl, a, C, dx, _, _, rfl, ha, T.cl, T.nB, plF_base, _, rfl, a, C, dx, _, _, rfl, ha, T.cl, T.nS, plF_shift, _, rfl, _, _, rfl, rfl, rfl, rfl, fun p dp np ndp nn => ?_⟩
    refine ⟨p, dp, z, k + i, rfl, upd_same, g2.1, g2.2.1, g2.2.2.1, g2.2.2.2.1, g2.2.2.2.2, fun H' u t' => ⟨rfl, q p H' np (fun r o hro => u r o (ne_of_none hro np) ?_) ⟨dp, t'⟩⟩⟩
    rw [upd_ne (ne_of_none hro np), upd_ne (ne_of_none hro ndp)]
    exact hro
end
end Mz
set_option Elab.async false
set_option linter.all false
set_option maxRecDepth 100000
set_option maxHeartbeats 4000000
namespace Mz
open PySem PySem.Spec PyProof.Rows L2
theorem sign_ok {z : Str} {c : Nat} (ok : PyData.strOk z = true) (h : c ∈ z.cps.toList) : PyData.strOk ⟨#[c]⟩ = true := by
  have h1 : c < 0x110000 := by
    unfold PyData.strOk at ok
    rw [Array.all_eq_true_iff_forall_mem] at ok
    exact of_decide_eq_true (ok c (Array.mem_toList_iff.mp h))
  unfold PyData.strOk
  simp only [Array.all_eq_true_iff_forall_mem]
  intro x hx
  have e : x = c := by simpa using hx
  rw [e]
  exact decide_eq_true h1
/-! texts of a bounded length, of signs that are some -/
def Sm (n : Nat) (z : Str) : Prop := z.length ≤ n ∧ PyData.strOk z = true
theorem strOk_iff {z : Str} : PyData.strOk z = true ↔ ∀ c ∈ z.cps.toList, c < 0x110000 := by
  unfold PyData.strOk
  rw [Array.all_eq_true_iff_forall_mem]
  exact ⟨fun h c hc => of_decide_eq_true (h c (Array.mem_toList_iff.mp hc)), fun h c hc => decide_eq_true (h c (Array.mem_toList_iff.mpr hc))⟩
theorem Sm.mono {n m : Nat} {z : Str} (h : Sm n z) (le : n ≤ m) : Sm m z := ⟨Nat.le_trans h.1 le, h.2⟩
theorem Sm.app {n m : Nat} {y z : Str} (hy : Sm n y) (hz : Sm m z) : Sm (n + m) (y ++ z) := by
  refine ⟨by rw [strLen_append]; exact Nat.add_le_add hy.1 hz.1, strOk_iff.mpr fun c hc => ?_⟩
  have hc2 : c ∈ (y.cps ++ z.cps).toList := hc
  rw [Array.toList_append] at hc2
  rcases List.mem_append.mp hc2 with e | e
  · exact strOk_iff.mp hy.2 c e
  · exact strOk_iff.mp hz.2 c e
theorem Sm.cut {n : Nat} {z : Str} (h : Sm n z) (lo hi : Option Int) : Sm n (cutS z lo hi) := by
  unfold cutS
  refine ⟨?_, strOk_iff.mpr fun c hc => ?_⟩
  · show ((z.cps.toList.drop _).take _).toArray.size ≤ n
    rw [List.size_toArray, List.length_take, List.length_drop]
    have e : z.cps.toList.length = z.length := rfl
    have := h.1
    omega
  · exact strOk_iff.mp h.2 c (List.mem_of_mem_drop (List.mem_of_mem_take hc))
theorem sm_sign {z : Str} {c : Nat} (ok : PyData.strOk z = true) (h : c ∈ z.cps.toList) : Sm 1 ⟨#[c]⟩ := ⟨Nat.le_refl _, sign_ok ok h⟩
theorem join_ok : ∀ l : List Str, (∀ y ∈ l, PyData.strOk y = true) → PyData.strOk (Str.join "" l) = true
  | [], _ => by decide +kernel
  | [x], h => h x List.mem_cons_self
  | x :: y :: r, h => by
    have h1 := h x List.mem_cons_self
    have h2 := join_ok (y :: r) fun z hz => h z (List.mem_cons_of_mem _ hz)
    show PyData.strOk (x ++ "" ++ Str.join "" (y :: r)) = true
    exact (Sm.app (Sm.app ⟨Nat.le_refl _, h1⟩ ⟨Nat.le_refl _, by decide +kernel⟩) ⟨Nat.le_refl _, h2⟩).2
theorem sum_ones : ∀ l : List Str, (∀ y ∈ l, Sm 1 y) → (l.map (·.length)).sum ≤ l.length
  | [], _ => Nat.le_refl _
  | x :: r, h => by
    have h1 := (h x List.mem_cons_self).1
    have h2 := sum_ones r fun z hz => h z (List.mem_cons_of_mem _ hz)
    rw [List.map_cons, List.sum_cons, List.length_cons]
    omega
theorem sm_join {l : List Str} (h : ∀ y ∈ l, Sm 1 y) : Sm l.length (Txt.join "" l) := by
  unfold Txt.join
  rw [StrLaws.glued_eq_join]
  refine ⟨?_, join_ok l fun y hy => (h y hy).2⟩
  have e := StrLaws.join_length_le "" l
  have e2 := sum_ones l h
  have e3 : l.length * ("" : Str).length = 0 := by
    rw [show ("" : Str).length = 0 by decide +kernel, Nat.mul_zero]
  omega
theorem atI_in {a : Type} {l : List a} {i : Int} (h0 : 0 ≤ i) (h1 : i < (l.length : Int)) : ∃ c, atI l i = some c ∧ c ∈ l := by
  obtain ⟨k, rfl⟩ := Int.eq_ofNat_of_zero_le h0
  have hk : k < l.length := by omega
  exact ⟨l[k], atI_nat (List.getElem?_eq_getElem hk), List.getElem_mem hk⟩
theorem str_empty {z : Str} (h : z.length = 0) : z = "" := by
  obtain ⟨l⟩ := z
  have e : l = #[] := Array.eq_empty_of_size_eq_zero h
  rw [e]
  rfl
theorem same_nw {H : Hp} {p : Addr} {o : HO} (h : H p = none) : Same H (upd H p o) := fun q u e => by
  rw [upd_ne (ne_of_none e h)]
  exact e
end Mz
set_option Elab.async false
set_option linter.all false
set_option maxRecDepth 100000
set_option maxHeartbeats 4000000
namespace Mz
open PySem PySem.Spec PyProof.Rows L2
def numS (z : Str) : Option Int := if z = "0" then some 0 else if z = "1" then some 1 else if z = "2" then some 2 else if z = "3" then some 3 else none
def shS (z : Str) : Option Int := if z = "-3" then some (-3) else if z = "-2" then some (-2) else if z = "-1" then some (-1) else if z = "+1" then some 1 else if z = "+2" then some 2 else if z = "+3" then some 3 else none
def headS (z : Str) : Str := cutS z none (some (-2))
def tailS (z : Str) : Str := cutS z (some (-2)) none
/-- what the program reads out of a text -/
def partsS (z : Str) : Option (Str × Int) :=
  match numS z with
  | some n => some ("", n)
  | none => if nameS z = true then some (z, 0) else if nameS (headS z) = true then (match shS (tailS z) with | some k => some (headS z, k) | none => none) else none
/-- a written dict from texts to ints -/
def Tab (K : PySem.W.Frag) (w : World) (d : Addr) (f : Str → Option Int) : Prop := ∃ es n, KDict K w d es n ∧ ∀ z : Str, ∃ r, PySem.W.nsIn K d z = some r ∧ ((f z = none ∧ r = none) ∨ ∃ i t, f z = some i ∧ r = some (.int i t))
def spParts : Sp := fun vs H Q _ => ∃ z : Str, vs = [.str z] ∧ Sm 1000 z ∧ (partsS z = none → ∀ H', Same H H' → Q .non H') ∧ ∀ y k, partsS z = some (y, k) → ∀ p H', Same H H' → H p = none → H' p = some (.tup [.str y, .int k]) → Q (.ref p) H'
section
variable {P : Program} {w : World} {K : PySem.W.Frag} {mg : Str → Option Value} {base : Heap}
theorem scParts : FnScope ["text"] ["text"] (defScope sParts) := ⟨rfl, rfl, rfl, by decide +kernel, rfl, by decide +kernel, by decide +kernel⟩
theorem ok_parts {f f1 dN dS : Addr} {fd fd1 : FuncData} (F : Fun K "_parts_of_text" "_parts_of_text" sParts f fd) (G : FnOk P w K mg base CX0 1 f1 fd1 ["value"] (spIsName K)) (m1 : mg "is_name" = some (.ref f1)) (k1 : PySem.W.keepIn K (.ref f1) = true) (b1 : Binds K fd1 ["value"] [])
    (mN : mg "_NUMBERS" = some (.ref dN)) (mS : mg "_SHIFTS" = some (.ref dS)) (tN : Tab K w dN numS) (tS : Tab K w dS shS) : FnOk P w K mg base CX0 2 f fd ["text"] spParts := by
  refine F.ok scParts (fun vs H Q E h => ?_) (fun cdv A outer s H vs Q E hr h => ?_)
  · obtain ⟨z, rfl, _⟩ := h
    rfl
  · obtain ⟨z, rfl, hz, qn, qs⟩ := h
    obtain ⟨esN, nN, DN, lN⟩ := tN
    obtain ⟨esS, nS, DS, lS⟩ := tS
    have zl : z.length ≤ sizeLine := Nat.le_trans hz.1 (by decide)
    refine ⟨_, pss_cons (ps_if (pt_cmpR (op_in_kd DN) (pv 0) (pe_glob (v := .ref dN) rfl mN rfl) (by rfl)) (pss_one (ps_ret (pe_tup (pa_cons pe_str (pa_cons (pe_ix ix_kdict (pe_glob (v := .ref dN) rfl mN rfl) (pv 0) (fun _ _ => rfl)) pa_nil))))) pss_nil)
      (pss_cons (ps_if (pt_val (pe_call G hr (by rfl) m1 k1 b1 .nil pass0 (pa_cons (pv 0) pa_nil))) (pss_one (ps_ret (pe_tup (pa_cons (pv 0) (pa_cons pe_int pa_nil))))) pss_nil)
      (pss_cons (ps_if (PW.pt (pw_and (pt_val (pe_call G hr (by rfl) m1 k1 b1 .nil pass0 (pa_cons (pe_slice sl_str (pv 0) po_none (po_some (pe_un un_neg pe_int))) pa_nil))) (pw_and1 (pt_cmpR (op_in_kd DS) (pe_slice sl_str (pv 0) (po_some (pe_un un_neg pe_int)) po_none) (pe_glob (v := .ref dS) rfl mS rfl) (by rfl)))))
          (pss_one (ps_ret (pe_tup (pa_cons (pe_slice sl_str (pv 0) po_none (po_some (pe_un un_neg pe_int))) (pa_cons (pe_ix ix_kdict (pe_glob (v := .ref dS) rfl mS rfl) (pe_slice sl_str (pv 0) (po_some (pe_un un_neg pe_int)) po_none) (fun _ _ => rfl)) pa_nil))))) pss_nil)
      (pss_one (ps_ret pe_non)))), ?_⟩
    have kd : ∀ {H' : Hp} {y : Str}, Sm 1000 y → Kd K H' (.str y) := fun h => .str _ h.1 h.2
    obtain ⟨r, er, hr1⟩ := lN z
    refine ⟨_, rfl, z, r, rfl, rfl, er, _, rfl, ?_⟩
    rcases hr1 with ⟨e, rfl⟩ | ⟨i, t, e, rfl⟩
    · refine iteF ?_
      refine ⟨_, rfl, .str z, rfl, kd hz, fun H1 s1 => ⟨_, rfl, ite2 (fun hn => ?_) (fun hn => ?_)⟩⟩
      · have ep : partsS z = some (z, 0) := by
          unfold partsS
          rw [e]
          exact if_pos hn
        exact ⟨_, rfl, (by show 2 ≤ sizeLine; decide), fun p np => qs z 0 ep p _ (s1.trans (same_nw np)) (s1.free np) upd_same⟩
      · have nn : ¬ nameS z = true := hn
        have sh := hz.cut none (some (-2))
        have st := hz.cut (some (-2)) none
        refine ⟨_, rfl, _, rfl, _, rfl, z, rfl, zl, .str (headS z), rfl, kd sh, fun H2 s2 => ⟨_, rfl, ite2 (fun hh => ?_) (fun hh => ?_)⟩⟩
        · have nh : nameS (headS z) = true := hh
          obtain ⟨r, er, hr2⟩ := lS (tailS z)
          refine ⟨_, rfl, _, rfl, _, rfl, z, rfl, zl, tailS z, r, rfl, rfl, er, _, rfl, ?_⟩
          rcases hr2 with ⟨e2, rfl⟩ | ⟨i, t, e2, rfl⟩
          · refine iteF (qn ?_ H2 (s1.trans s2))
            unfold partsS
            rw [e]
            show (if nameS z = true then _ else _) = _
            rw [if_neg nn, if_pos nh, e2]
          · have ep : partsS z = some (headS z, i) := by
              unfold partsS
              rw [e]
              show (if nameS z = true then _ else _) = _
              rw [if_neg nn, if_pos nh, e2]
            refine iteT ⟨_, rfl, _, rfl, _, rfl, z, rfl, zl, ?_⟩
            refine ⟨_, rfl, _, rfl, _, rfl, z, rfl, zl, dS, tailS z, .int i, rfl, rfl, ⟨_, _, _, DS.at_, DS.lit, er, ⟨t, rfl⟩⟩, (by show 2 ≤ sizeLine; decide), fun p np => ?_⟩
            exact qs _ _ ep p _ ((s1.trans s2).trans (same_nw np)) ((s1.trans s2).free np) upd_same
        · refine qn ?_ H2 (s1.trans s2)
          unfold partsS
          rw [e]
          show (if nameS z = true then _ else _) = _
          rw [if_neg nn]
          exact if_neg hh
    · have ep : partsS z = some (("" : Str), i) := by
        unfold partsS
        rw [e]
      refine iteT ⟨_, rfl, dN, z, .int i, rfl, rfl, ⟨_, _, _, DN.at_, DN.lit, er, ⟨t, rfl⟩⟩, (by show 2 ≤ sizeLine; decide), fun p np => ?_⟩
      exact qs _ _ ep p _ (same_nw np) np upd_same
end
end Mz
set_option Elab.async false
set_option linter.all false
set_option maxRecDepth 100000
set_option maxHeartbeats 4000000
namespace Mz
open PySem PySem.Spec PyProof.Rows L2
/-- the types of int, bool, str, None are no places -/
structure Npl (K : PySem.W.Frag) (C : Addr) : Prop where
  int : PySem.W.kitOne K (.type "int") (.ref C) = some false
  bool : PySem.W.kitOne K (.type "bool") (.ref C) = some false
  str : PySem.W.kitOne K (.type "str") (.ref C) = some false
  non : PySem.W.kitOne K (.type "NoneType") (.ref C) = some false
/-- a value that is no place -/
def NoPl (K : PySem.W.Frag) (C : Addr) (H : Hp) (v : V) : Prop := Kd K H v ∧ Oty K C H v
/-- what a value that is no place reads as -/
def ofV : V → Option (Str × Int)
  | .int i => if 0 ≤ i ∧ i ≤ 3 then some ("", i) else none
  | .str z => partsS z
  | _ => none
/-- the exception's class, as the written part has it -/
structure Xcl (K : PySem.W.Frag) (mg : Str → Option Value) (x : Str) (C : Addr) (f : Str) : Prop where
  ox : OexC K C
  no : PySem.W.findIn K (.ref C) f = some none
  m : mg x = some (.ref C)
  xf : XfC K C
def spOf (K : PySem.W.Frag) (C cX : Addr) : Sp := fun vs H Q E => ∃ v, vs = [.ref C, v] ∧
  ((∃ a z k, v = .ref a ∧ Pl C H a z k ∧ Q v H) ∨
    (NoPl K C H v ∧ (∀ z k, ofV v = some (z, k) → ∀ p H', H p = none → Same H H' → Pl C H' p z k → Good z k → Q (.ref p) H') ∧
      (ofV v = none → ∀ d H', H d = none → Same H H' → H' d = some (.xd [("value", v)]) → E (.ref cX) (some d) H')))
theorem good_num {i : Int} (h0 : 0 ≤ i) (h1 : i ≤ 3) : Good "" i := ⟨by decide +kernel, by decide +kernel, .inl rfl, h0, h1⟩
theorem low_name {z : Str} (h : nameS z = true) : lowS z = -3 := if_neg fun e => by
  rw [e] at h
  exact absurd h (by decide +kernel)
theorem good_name {z : Str} {k : Int} (hz : Sm 1000 z) (h : nameS z = true) (h0 : -3 ≤ k) (h1 : k ≤ 3) : Good z k := ⟨hz.1, hz.2, .inr h, by rw [low_name h]; exact h0, h1⟩
theorem numS_rng {z : Str} {n : Int} (h : numS z = some n) : 0 ≤ n ∧ n ≤ 3 := by
  unfold numS at h
  repeat' split at h
  all_goals first | (cases h; omega) | cases h
theorem shS_rng {z : Str} {n : Int} (h : shS z = some n) : -3 ≤ n ∧ n ≤ 3 := by
  unfold shS at h
  repeat' split at h
  all_goals first | (cases h; omega) | cases h
theorem parts_good {z y : Str} {k : Int} (hz : Sm 1000 z) (h : partsS z = some (y, k)) : Good y k := by
  unfold partsS at h
  cases e : numS z with
  | some n =>
    rw [e] at h
    cases h
    exact good_num (numS_rng e).1 (numS_rng e).2
  | none =>
    rw [e] at h
    dsimp only at h
    by_cases hn : nameS z = true
    · rw [if_pos hn] at h
      cases h
      exact good_name hz hn (by decide) (by decide)
    · rw [if_neg hn] at h
      by_cases hh : nameS (headS z) = true
      · rw [if_pos hh] at h
        cases e2 : shS (tailS z) with
        | none =>
          rw [e2] at h
          cases h
        | some i =>
          rw [e2] at h
          cases h
          exact good_name (hz.cut _ _) hh (shS_rng e2).1 (shS_rng e2).2
      · rw [if_neg hh] at h
        cases h
section
variable {P : Program} {w : World} {K : PySem.W.Frag} {mg : Str → Option Value} {base : Heap}
theorem scXinit : FnScope ["self", "value"] ["self", "value"] (defScope (inClass sInvPlace 0)) := ⟨rfl, rfl, rfl, by decide +kernel, rfl, by decide +kernel, by decide +kernel⟩
theorem ok_xinit {f C cM : Addr} {fd : FuncData} (F : Fun K "__init__" "InvalidPlace.__init__" (inClass sInvPlace 0) f fd) (T : Xcl K mg "InvalidPlace" C "value") (mM : mg "MapError" = some (.ref cM)) (rd : ClX.CRead K cM (.type "type"))
    (fc : PySem.W.findCls K (.ref cM) (.type "type") "__init__" = some (.val (.builtin "ValueError.__init__"))) : FnOk P w K mg base CX0 1 f fd ["self", "value"] (spX1 K C "value") := by
  refine F.ok scXinit (fun vs H Q E h => ?_) (fun cdv A outer s H vs Q E hr h => ?_)
  · obtain ⟨a, v, rfl, _⟩ := h
    rfl
  · obtain ⟨a, v, rfl, ha, q⟩ := h
    refine ⟨_, pss_cons (ps_expr (pe_meinit (by rfl) mM rd fc (pa_cons (pv 0) (pa_cons pe_str pa_nil)))) (pss_one (ps_ost (pv 0) (pv 1))), ?_⟩
    refine ⟨_, rfl, a, C, _, rfl, (by show 1 ≤ 1000; decide), T.ox, ha, ?_⟩
    exact ⟨_, rfl, _, rfl, a, C, rfl, T.ox, T.no, .inl ⟨ha, fun dx n1 n2 => q dx n1 n2⟩⟩
theorem scOf : FnScope ["cls", "value", "parts", "base", "shift"] ["cls", "value"] (defScope (inClass sPlace 1)) := ⟨rfl, rfl, rfl, by decide +kernel, rfl, by decide +kernel, by decide +kernel⟩
theorem ok_of {f f2 fp fI C cX fX : Addr} {fd fd2 fdp fdI fdX : FuncData} {t : Tok} {g1 g2 : List Value → List Value → List Value} (F : Fun K "of" "Place.of" (inClass sPlace 1) f fd) (T : Cpl K mg C) (Y : Pty K C) (N : Npl K C) (B : Blt mg) (D : Blp mg)
    (G2 : FnOk P w K mg base CX0 2 f2 fd2 ["value", "low", "high"] (spIsInt K)) (m2 : mg "is_integer" = some (.ref f2)) (k2 : PySem.W.keepIn K (.ref f2) = true) (b2 : Binds K fd2 ["value", "low", "high"] [])
    (Gp : FnOk P w K mg base CX0 2 fp fdp ["text"] spParts) (mp : mg "_parts_of_text" = some (.ref fp)) (kp : PySem.W.keepIn K (.ref fp) = true) (bp : Binds K fdp ["text"] [])
    (mM : mg "_MOST" = some (.int 3 t)) (M : Mk K C fI) (GI : FnOk P w K mg base CX0 3 fI fdI ["self", "base", "shift"] (spInit C)) (kI1 : KBn K fdI ["self", "base", "shift"] 1 ["shift"] g1 (fun vs zs => vs ++ [.str ""] ++ zs)) (kI2 : KBn K fdI ["self", "base", "shift"] 2 ["shift"] g2 (fun vs zs => vs ++ zs))
    (TX : Xcl K mg "InvalidPlace" cX "value") (GX : FnOk P w K mg base CX0 1 fX fdX ["self", "value"] (spX1 K cX "value")) (iX : PySem.W.findIn K (.ref cX) "__init__" = some (some (.ref fX))) (tX : PySem.W.typeIn K (.ref fX) = some (.type "function")) (bX : Binds K fdX ["self", "value"] []) :
    FnOk P w K mg base (L2.CX P w) 5 f fd ["cls", "value"] (spOf K C cX) := by
  refine F.okX scOf (fun vs H Q E h => ?_) (fun cdv A outer s H vs Q E hr h => ?_)
  · obtain ⟨v, rfl, _⟩ := h
    rfl
  · obtain ⟨v, rfl, h⟩ := h
    have nd := scOf.nd
    have hr2 : Room 2 _ := hr.mono (by decide)
    refine ⟨_, pss_cons (ps_if (pt_val (pe_callB call_isi (by rfl) D.isi (by decide +kernel) (pa_cons (pv 1) (pa_cons (pe_glob (v := .ref C) rfl T.mgC rfl) pa_nil)))) (pss_one (ps_ret (pv 1))) pss_nil)
      (pss_cons (ps_if (pt_val (pe_call G2 hr2 (by rfl) m2 k2 b2 .nil pass0 (pa_cons (pv 1) (pa_cons pe_int (pa_cons (pe_glob (v := .int 3) rfl mM ⟨_, rfl⟩) pa_nil))))) (pss_one (ps_ret (pe_makeL0 (i := 0) rfl (.inl rfl) M GI hr kI1 pass0 (pk_cons (pv 1) pk_nil)))) pss_nil)
      (pss_cons (ps_set (i := 2) nd rfl (Or.inl rfl) (pe_ifExp (pt_val (pe_callB call_isi (by rfl) D.isi (by decide +kernel) (pa_cons (pv 1) (pa_cons (pe_bltn (v := .ty "str") (by rfl) D.str (by decide +kernel) rfl) pa_nil))))
        (pe_call Gp hr2 (by rfl) mp kp bp .nil pass0 (pa_cons (pv 1) pa_nil)) pe_non))
      (pss_cons (ps_if (pt_cmpR op_isN (pv 2) pe_non (nomark _)) (pss_one (ps_raise rfl (takes_of rfl rfl rfl rfl) (pmk_oex TX.ox iX tX GX (hr.mono (by decide)) bX .nil pass0 (by rfl) TX.m (pa_cons (pv 1) pa_nil)))) pss_nil)
      (pss_cons (ps_asg (pv 2) (pg_tup (by rfl) (pgs_cons (pg_name (i := 3) nd rfl (.inl rfl)) (pgs_cons (pg_name (i := 4) nd rfl (.inl rfl)) pgs_nil))))
      (pss_one (ps_ret (pe_makeL (i := 0) rfl (.inl rfl) M GI hr kI2 pass0 (pa_cons (pv 3) pa_nil) (pk_cons (pv 4) pk_nil)))))))), ?_⟩
    generalize hT4 : tSeq (tIfS (tTest _) (fun _ _ _ => _) _) _ = T4
    have made : ∀ (H1 : Hp), Same H H1 → ∀ y k, Good y k → (∀ p H', H p = none → Same H H' → Pl C H' p y k → Q (.ref p) H') → ∀ x dx, H1 x = none → H1 dx = none → dx ≠ x →
        spInit C [.ref x, .str y, .int k] (upd (upd H1 dx (.own x)) x (.ins C dx [])) (fun v H2 => v = .non ∧ Q (.ref x) H2) E0 := by
      intro H1 s1 y k g qq x dx nx ndx nn
      refine ⟨x, dx, y, k, rfl, upd_same, g.1, g.2.1, g.2.2.1, g.2.2.2.1, g.2.2.2.2, fun H' u t' => ⟨rfl, qq x H' (s1.free nx) (fun r o hro => u r o (ne_of_none (s1 _ _ hro) nx) ?_) ⟨dx, t'⟩⟩⟩
      rw [upd_ne (ne_of_none (s1 _ _ hro) nx), upd_ne (ne_of_none (s1 _ _ hro) ndx)]
      exact s1 _ _ hro
    have rest0 : ∀ H1, Same H H1 → (∀ d H', H d = none → Same H H' → H' d = some (.xd [("value", v)]) → E (.ref cX) (some d) H') → T4 { nx := fun _ H' => Q .non H', rt := Q } [some (.ref C), some v, some .non, none, none] H1 := by
      intro H1 s1 qE
      rw [← hT4]
      refine ⟨_, rfl, rfl, _, rfl, ite2 (fun _ => ?_) (fun x => (x (decide_eq_true rfl)).elim)⟩
      refine ⟨_, rfl, (by show 1 ≤ 1000; decide), fun a na => ⟨a, v, rfl, upd_same, fun dx n1 n2 => ⟨rfl, dx, [("value", v)], upd_same, ?_, ?_, ?_⟩⟩⟩
      · rw [upd_ne n2, upd_same]
      · rw [upd_ne n2] at n1
        exact n1
      · have n3 : H1 dx = none := by
          rw [upd_ne n2] at n1
          exact n1
        refine qE dx _ (s1.free n3) (fun b o hb => ?_) upd_same
        have x1 : b ≠ dx := ne_of_none (s1 _ _ hb) n3
        have x2 : b ≠ a := ne_of_none (s1 _ _ hb) na
        rw [upd_ne x1, del_ne x2, upd_ne x2, upd_ne x1, upd_ne x2]
        exact s1 _ _ hb
    have rest1 : ∀ H1 p y k, Same H H1 → H1 p = some (.tup [.str y, .int k]) → Good y k → (∀ p H', H p = none → Same H H' → Pl C H' p y k → Q (.ref p) H') → T4 { nx := fun _ H' => Q .non H', rt := Q } [some (.ref C), some v, some (.ref p), none, none] H1 := by
      intro H1 p y k s1 hp g qq
      rw [← hT4]
      refine ⟨_, rfl, rfl, _, rfl, ite2 (fun x => ?_) (fun _ => ?_)⟩
      · cases of_decide_eq_true x
      · refine ⟨_, rfl, p, _, rfl, SqT.of hp, rfl, ?_⟩
        exact ⟨_, _, rfl, _, _, rfl, rfl, rfl, _, rfl, _, rfl, rfl, rfl, made H1 s1 y k g qq⟩
    clear hT4
    refine ⟨_, rfl, ?_⟩
    rcases h with ⟨a, z, k, rfl, pa, q⟩ | ⟨⟨hk, t0, ty0, kt0⟩, qs, qE⟩
    · exact ⟨.ref a, .ref C, .ref C, .ref C, true, rfl, .own C, pa.ty Y, kit_self, true, rfl, iteT ⟨_, rfl, q⟩⟩
    · refine ⟨v, .ref C, t0, .ref C, false, rfl, .own C, ty0, kt0, false, rfl, iteF ?_⟩
      refine ⟨_, rfl, v, 0, 3, rfl, hk, _, rfl, ?_⟩
      cases hk with
      | int i =>
        refine ite2 (fun hc => ?_) (fun hc => ?_)
        · have hc2 : (decide (0 ≤ i) && decide (i ≤ 3)) = true := hc
          obtain ⟨h1, h2⟩ := Bool.and_eq_true_iff.mp hc2
          have h1 := of_decide_eq_true h1
          have h2 := of_decide_eq_true h2
          have e : ofV (.int i) = some (("" : Str), i) := if_pos ⟨h1, h2⟩
          exact ⟨rfl, _, rfl, rfl, rfl, made H (Same.refl H) "" i (good_num h1 h2) fun p H' n1 n2 n3 => qs "" i e p H' n1 n2 n3 (good_num h1 h2)⟩
        · have e : ofV (.int i) = none := if_neg fun x => hc (by
            show (decide (0 ≤ i) && decide (i ≤ 3)) = true
            rw [decide_eq_true x.1, decide_eq_true x.2]
            rfl)
          exact ⟨_, rfl, _, _, _, _, false, rfl, .ty _, .base (.int i), kit_ty (by decide +kernel), false, rfl, iteF (rest0 H (Same.refl H) (qE e))⟩
      | bl b => exact iteF ⟨_, rfl, _, _, _, _, false, rfl, .ty _, .base (.bl b), kit_ty (by decide +kernel), false, rfl, iteF (rest0 H (Same.refl H) (qE rfl))⟩
      | non => exact iteF ⟨_, rfl, _, _, _, _, false, rfl, .ty _, .base .non, kit_ty (by decide +kernel), false, rfl, iteF (rest0 H (Same.refl H) (qE rfl))⟩
      | oth a t ty ki ks => exact iteF ⟨_, rfl, _, _, _, _, false, rfl, .ty _, ty, ks, false, rfl, iteF (rest0 H (Same.refl H) (qE rfl))⟩
      | str z hz ok =>
        refine iteF ⟨_, rfl, _, _, _, _, true, rfl, .ty _, .base (.str z), kit_ty (by decide +kernel), true, rfl, iteT ⟨_, rfl, z, rfl, ⟨hz, ok⟩, fun e H1 s1 => rest0 H1 s1 (qE e), fun y k e p H1 s1 np hp => ?_⟩⟩
        have g := parts_good ⟨hz, ok⟩ e
        exact rest1 H1 p y k s1 hp g fun p H' n1 n2 n3 => qs y k e p H' n1 n2 n3 g
end
end Mz
set_option Elab.async false
set_option linter.all false
set_option maxRecDepth 100000
set_option maxHeartbeats 4000000
namespace Mz
open PySem PySem.Spec PyProof.Rows L2
/-- Place.of, as the text has it -/
structure OfM (P : Program) (w : World) (K : PySem.W.Frag) (mg : Str → Option Value) (base : Heap) (C cX po f : Addr) (fd : FuncData) : Prop where
  ok : FnOk P w K mg base (L2.CX P w) 5 f fd ["cls", "value"] (spOf K C cX)
  rd : ClX.CRead K C (.type "type")
  met : ClX.CMet K C (.type "type") "of" po f
  b : Binds K fd ["cls", "value"] []
def isPlV (pl : Bool) (v : V) : Bool := pl || (ofV v).isSome
def spIsPl (K : PySem.W.Frag) (C : Addr) : Sp := fun vs H Q _ => ∃ v, vs = [v] ∧ ((∃ a z k, v = .ref a ∧ Pl C H a z k ∧ Q (.bl true) H) ∨ (NoPl K C H v ∧ ∀ H', Same H H' → Q (.bl (ofV v).isSome) H'))
section
variable {P : Program} {w : World} {K : PySem.W.Frag} {mg : Str → Option Value} {base : Heap}
theorem scIsPl : FnScope ["value"] ["value"] (defScope sIsPlace) := ⟨rfl, rfl, rfl, by decide +kernel, rfl, by decide +kernel, by decide +kernel⟩
theorem ok_isPl {f fO C cX po : Addr} {fd fdO : FuncData} (F : Fun K "is_place" "is_place" sIsPlace f fd) (T : Cpl K mg C) (O : OfM P w K mg base C cX po fO fdO) (mX : mg "InvalidPlace" = some (.ref cX)) (te : PySem.W.exmOne K (.ref cX) (.ref cX) = some true) :
    FnOk P w K mg base CX0 6 f fd ["value"] (spIsPl K C) := by
  refine F.ok scIsPl (fun vs H Q E h => ?_) (fun cdv A outer s H vs Q E hr h => ?_)
  · obtain ⟨v, rfl, _⟩ := h
    rfl
  · obtain ⟨v, rfl, h⟩ := h
    refine ⟨_, pss_cons (ps_try_only rfl rfl ⟨rfl, by decide, .inl mX⟩ takes0 (fun W pn xe tk _ => pss_one (ps_expr (pe_cmethS (pe_glob (v := .ref C) rfl T.mgC rfl) O.rd O.met O.ok hr O.b (fun σ => passAt tk σ) (pa_cons (pv 0) pa_nil))))
      (fun a oe cls d pn hz hf => pss_one (ps_ret pe_bl))) (pss_one (ps_ret pe_bl)), ?_⟩
    rcases h with ⟨a, z, k, rfl, pa, q⟩ | ⟨nv, q⟩
    · exact ⟨rfl, _, rfl, .ref a, rfl, .inl ⟨a, z, k, rfl, pa, q⟩⟩
    · refine ⟨rfl, _, rfl, v, rfl, .inr ⟨nv, fun z k e p H' np sm pl g => ?_, fun e d H' nd sm hd => ?_⟩⟩
      · have q2 := q H' sm
        rw [e] at q2
        exact q2
      · have q2 := q H' sm
        rw [e] at q2
        exact ⟨true, te, fun _ a ha => q2, fun x => Bool.noConfusion x⟩
end
end Mz
set_option Elab.async false
set_option linter.all false
set_option maxRecDepth 100000
set_option maxHeartbeats 4000000
/-! a text, so many times -/
namespace Mz
open PySem PySem.Spec PyProof.Rows L2
def repS (z : Str) (n : Nat) : Str := ⟨(List.replicate n z.cps).foldl (· ++ ·) #[]⟩
theorem rep_list (z : Str) (n : Nat) : (repS z n).cps.toList = (List.replicate n z.cps.toList).flatten := by
  have go : ∀ (n : Nat) (a : Array Nat), ((List.replicate n z.cps).foldl (· ++ ·) a).toList = a.toList ++ (List.replicate n z.cps.toList).flatten := by
    intro n
    induction n with
    | zero => intro a; simp
    | succ n ih =>
      intro a
      rw [List.replicate_succ, List.foldl_cons, ih, List.replicate_succ, List.flatten_cons, Array.toList_append, List.append_assoc]
  unfold repS
  rw [go]
  simp
theorem op_mul_str {X : Cx} : OpR X (binaryOp .Mult) (fun x y H Q => ∃ (z : Str) (k : Int), x = .str z ∧ y = .int k ∧ 2 ≤ k ∧ k ≤ 1000 ∧ 1 ≤ z.length ∧ z.length ≤ 1000 ∧ Q (.str (repS z k.toNat)) H) := by
  intro pins s σ H x y v u Q I rx ry h
  obtain ⟨z, k, rfl, rfl, k0, k1, z0, z1, q⟩ := h
  obtain ⟨t, rfl⟩ := rx
  obtain ⟨t', rfl⟩ := ry
  have big : z.length * k.toNat ≤ 1000 * 1000 := Nat.mul_le_mul z1 (by omega)
  have lr : (repS z k.toNat).length ≤ 1000000 := by
    have e : (repS z k.toNat).length = (repS z k.toNat).cps.toList.length := by rw [Array.length_toList]; rfl
    rw [e, rep_list, List.length_flatten]
    simp
    have : z.cps.size = z.length := rfl
    rw [this, Nat.mul_comm]
    exact big
  refine PySem.P.mul_str (n := k) ?_ (fun _ _ => ?_) (fun _ _ => ?_) ?_
  · have h1 : ¬ k < -(2 ^ 63 : Int) := by omega
    have h2 : ¬ k ≥ 2 ^ 63 := by omega
    rw [decide_eq_false h1, decide_eq_false h2]
    rfl
  · have hd : (1000 : Int) ≤ (2 ^ 63 - 1) / k := by
      rw [Int.le_ediv_iff_mul_le (by omega)]
      omega
    omega
  · have : z.length * k.toNat ≤ sizeLine := Nat.le_trans big (by decide)
    unfold PySem.Builtin.Str.tooLong
    simpa using this
  · rw [if_neg (by omega), if_neg (by simp; omega)]
    refine ⟨?_, ⟨.str (repS z k.toNat), H, I.tok _, ⟨_, rfl⟩, q⟩⟩
    have : (repS z k.toNat).length ≤ sizeLine := Nat.le_trans lr (by decide)
    exact this
end Mz
set_option Elab.async false
set_option linter.all false
set_option maxRecDepth 100000
set_option maxHeartbeats 4000000
namespace Mz
open PySem PySem.Spec PyProof.Rows L2
theorem str_ext {a b : Str} (h : a.cps.toList = b.cps.toList) : a = b := by
  obtain ⟨x⟩ := a
  obtain ⟨y⟩ := b
  have e : x = y := Array.toList_inj.mp h
  rw [e]
theorem app_list (a b : Str) : (a ++ b).cps.toList = a.cps.toList ++ b.cps.toList := by
  show (a.cps ++ b.cps).toList = _
  rw [Array.toList_append]
/-! a place's text, read again -/
def sfx (k : Int) : Str := if k = 1 then "+1" else if k = 2 then "+2" else if k = 3 then "+3" else if k = -1 then "-1" else if k = -2 then "-2" else if k = -3 then "-3" else ""
theorem cps_app (z s : Str) : (z ++ s).cps.toList = z.cps.toList ++ s.cps.toList := app_list z s
theorem six0 {n : Nat} : HT.sIx n 0 none = 0 := rfl
theorem six2 {n : Nat} (h : 2 ≤ n) : HT.sIx n n (some (-2)) = n - 2 := by
  unfold HT.sIx
  simp
  omega
theorem six2b {n : Nat} (h : 2 ≤ n) : HT.sIx n 0 (some (-2)) = n - 2 := by
  unfold HT.sIx
  simp
  omega
theorem sixn {n : Nat} : HT.sIx n n none = n := rfl
theorem len_cps (z : Str) : z.cps.toList.length = z.length := by
  rw [Array.length_toList]
  rfl
theorem cut_head {z s : Str} (h : s.length = 2) : headS (z ++ s) = z := by
  refine str_ext ?_
  unfold headS cutS
  have l : (z ++ s).length = z.length + 2 := by rw [strLen_append, h]
  rw [l, six0, six2 (by omega)]
  simp [cps_app]
  rw [← len_cps z, List.take_left]
theorem cut_tail {z s : Str} (h : s.length = 2) : tailS (z ++ s) = s := by
  refine str_ext ?_
  unfold tailS cutS
  have l : (z ++ s).length = z.length + 2 := by rw [strLen_append, h]
  rw [l, six2b (by omega), sixn]
  have e1 : z.length + 2 - 2 = z.cps.toList.length := by rw [len_cps]; omega
  rw [e1, cps_app, List.drop_left]
  rw [List.take_of_length_le (by rw [len_cps, len_cps]; omega)]
theorem num_none {z : Str} (h : 3 ≤ z.length) : numS z = none := by
  unfold numS
  rw [if_neg (fun e => by rw [e] at h; revert h; decide +kernel), if_neg (fun e => by rw [e] at h; revert h; decide +kernel), if_neg (fun e => by rw [e] at h; revert h; decide +kernel), if_neg (fun e => by rw [e] at h; revert h; decide +kernel)]
theorem name_len {z : Str} (h : nameS z = true) : 1 ≤ z.length ∧ z.length ≤ 6 := by
  have := (Bool.and_eq_true_iff.mp h).1
  obtain ⟨h1, h2⟩ := Bool.and_eq_true_iff.mp this
  have h1 := of_decide_eq_true h1
  have h2 := of_decide_eq_true h2
  omega
theorem sfx_len {k : Int} (h0 : -3 ≤ k) (h1 : k ≤ 3) (hk : k ≠ 0) : (sfx k).length = 2 ∧ shS (sfx k) = some k := by
  have h : k = -3 ∨ k = -2 ∨ k = -1 ∨ k = 1 ∨ k = 2 ∨ k = 3 := by omega
  rcases h with rfl | rfl | rfl | rfl | rfl | rfl <;> decide +kernel
theorem sh_noname6 {z : Str} {n : Int} (h : shS (tailS z) = some n) : ¬ nameS z = true := by
  intro hn
  have hall : (z.cps.toList.all fun c => decide (c ∈ abc.cps.toList)) = true := (Bool.and_eq_true_iff.mp hn).2
  have sub : ∀ c ∈ (tailS z).cps.toList, c ∈ abc.cps.toList := by
    intro c hc
    unfold tailS cutS at hc
    have h1 : c ∈ z.cps.toList := List.mem_of_mem_drop (List.mem_of_mem_take (by simpa using hc))
    exact of_decide_eq_true (List.all_eq_true.mp hall c h1)
  generalize tailS z = y at h sub
  unfold shS at h
  repeat' split at h
  all_goals first
    | (rename_i e
       subst e
       revert sub
       decide +kernel)
    | cases h
theorem num_name {z : Str} (h : nameS z = true) : numS z = none := by
  unfold numS
  rw [if_neg (fun e => by rw [e] at h; revert h; decide +kernel), if_neg (fun e => by rw [e] at h; revert h; decide +kernel), if_neg (fun e => by rw [e] at h; revert h; decide +kernel), if_neg (fun e => by rw [e] at h; revert h; decide +kernel)]
theorem parts_sfx {z : Str} {k : Int} (h : nameS z = true) (h0 : -3 ≤ k) (h1 : k ≤ 3) : partsS (z ++ sfx k) = some (z, k) := by
  by_cases hk : k = 0
  · subst hk
    have e : z ++ sfx 0 = z := by
      refine str_ext ?_
      rw [cps_app]
      exact List.append_nil _
    rw [e]
    unfold partsS
    rw [num_name h]
    show (if nameS z = true then some (z, (0 : Int)) else _) = _
    rw [if_pos h]
  · obtain ⟨l, s⟩ := sfx_len h0 h1 hk
    have n := name_len h
    unfold partsS
    have hn := cut_tail (z := z) l
    rw [num_none (by rw [strLen_append, l]; omega)]
    show (if nameS (z ++ sfx k) = true then _ else if nameS (headS (z ++ sfx k)) = true then _ else none) = _
    rw [if_neg (sh_noname6 (n := k) (by rw [hn]; exact s)), if_pos (by rw [cut_head l]; exact h), hn, s, cut_head l]
/-! texts that are no places, no names, no marks -/
theorem head_take (w : Str) : (headS w).cps.toList = w.cps.toList.take (w.length - 2) := by
  show (((w.cps.toList.drop (HT.sIx w.length 0 none)).take (HT.sIx w.length w.length (some (-2)) - HT.sIx w.length 0 none)).toArray).toList = _
  rw [six0]
  have : HT.sIx w.length w.length (some (-2)) = w.length - 2 := by
    unfold HT.sIx
    simp
    omega
  rw [this]
  simp
theorem tail_drop (w : Str) : (tailS w).cps.toList = w.cps.toList.drop (w.length - 2) := by
  show (((w.cps.toList.drop (HT.sIx w.length 0 (some (-2)))).take (HT.sIx w.length w.length none - HT.sIx w.length 0 (some (-2)))).toArray).toList = _
  have : HT.sIx w.length 0 (some (-2)) = w.length - 2 := by
    unfold HT.sIx
    simp
    omega
  rw [this, sixn]
  show (w.cps.toList.drop (w.length - 2)).take (w.length - (w.length - 2)) = _
  refine List.take_of_length_le ?_
  rw [List.length_drop, len_cps]
  exact Nat.le_refl _
theorem name_all {z : Str} (h : nameS z = true) : ∀ c ∈ z.cps.toList, c ∈ abc.cps.toList := fun c hc => of_decide_eq_true (List.all_eq_true.mp (Bool.and_eq_true_iff.mp h).2 c hc)
theorem abc_bnd {c : Nat} (h : c ∈ abc.cps.toList) : 97 ≤ c ∧ c ≤ 122 := by
  have all : ∀ c ∈ abc.cps.toList, 97 ≤ c ∧ c ≤ 122 := by decide +kernel
  exact all c h
theorem no_name {z : Str} {c : Nat} (hc : c ∈ z.cps.toList) (h : ¬ (97 ≤ c ∧ c ≤ 122)) : ¬ nameS z = true := fun hn => h (abc_bnd (name_all hn c hc))
theorem no_name_len {z : Str} (h : z.length = 0 ∨ 6 < z.length) : ¬ nameS z = true := fun hn => by
  have := name_len hn
  omega
theorem sh_first {y : Str} {k : Int} (h : shS y = some k) : ∃ d r, y.cps.toList = d :: r ∧ (d = 43 ∨ d = 45) ∧ r ∈ [[49], [50], [51]] := by
  unfold shS at h
  repeat' split at h
  all_goals first
    | (rename_i e
       subst e
       refine ⟨_, _, rfl, ?_, ?_⟩ <;> decide +kernel)
    | cases h
theorem parts_none {z : Str} (h1 : numS z = none) (h2 : ¬ nameS z = true) (h3 : ¬ nameS (headS z) = true ∨ shS (tailS z) = none) : partsS z = none := by
  unfold partsS
  rw [h1]
  show (if nameS z = true then _ else _) = _
  rw [if_neg h2]
  rcases h3 with h3 | h3
  · rw [if_neg h3]
  · rw [h3]
    split <;> rfl
theorem num_len {z : Str} (h : z.length ≠ 1) : numS z = none := by
  unfold numS
  rw [if_neg (fun e => by rw [e] at h; revert h; decide +kernel), if_neg (fun e => by rw [e] at h; revert h; decide +kernel), if_neg (fun e => by rw [e] at h; revert h; decide +kernel), if_neg (fun e => by rw [e] at h; revert h; decide +kernel)]
/-- a word of the law -/
def Wd (z : Str) : Prop := nameS z = true ∧ markV (.str z) = true ∧ Sm 10 z
theorem Wd.len {z : Str} (h : Wd z) : 1 ≤ z.cps.toList.length ∧ z.cps.toList.length ≤ 6 := by
  rw [len_cps]
  exact name_len h.1
theorem Wd.bnd {z : Str} (h : Wd z) : ∀ c ∈ z.cps.toList, 97 ≤ c ∧ c ≤ 122 := fun c hc => abc_bnd (name_all h.1 c hc)
/-- a list's last but one lies in l where the list is l and one sign more -/
theorem tail_sign {w y : Str} {s : Nat} (hw : Wd w) (e : y.cps.toList = w.cps.toList ++ [s]) : partsS y = none ∨ (97 ≤ s ∧ s ≤ 122) := by
  by_cases hs : 97 ≤ s ∧ s ≤ 122
  · exact .inr hs
  refine .inl ?_
  have l := hw.len
  have ly : y.length = w.cps.toList.length + 1 := by rw [← len_cps y, e]; simp
  have hy : ¬ nameS y = true := no_name (c := s) (by rw [e]; simp) hs
  refine parts_none (num_len (by omega)) hy (.inr ?_)
  cases h : shS (tailS y) with
  | none => rfl
  | some k =>
    exfalso
    obtain ⟨d, r, e1, e2, _⟩ := sh_first h
    have mem : d ∈ w.cps.toList := by
      rw [tail_drop, e, ly] at e1
      have hd : (w.cps.toList ++ [s])[w.cps.toList.length + 1 - 2]? = some d := by
        have := congrArg (fun l => l[0]?) e1
        simpa using this
      rw [List.getElem?_append_left (by omega)] at hd
      exact List.mem_of_getElem? hd
    have := hw.bnd d mem
    omega
/-- behind a word two signs that are no shift -/
theorem tail_two {w y : Str} {s t : Nat} (hw : Wd w) (e : y.cps.toList = w.cps.toList ++ [s, t]) (hs : ¬ (97 ≤ s ∧ s ≤ 122)) (ht : shS ⟨#[s, t]⟩ = none) : partsS y = none := by
  have l := hw.len
  have ly : y.length = w.cps.toList.length + 2 := by rw [← len_cps y, e]; simp
  refine parts_none (num_len (by omega)) (no_name (c := s) (by rw [e]; simp) hs) (.inr ?_)
  have et : tailS y = ⟨#[s, t]⟩ := str_ext (by
    rw [tail_drop, e, ly, show w.cps.toList.length + 2 - 2 = w.cps.toList.length by omega, List.drop_left])
  rw [et]
  exact ht
/-- a sign in the head that is no letter -/
theorem head_sign {y : Str} {c : Nat} (hc : ¬ (97 ≤ c ∧ c ≤ 122)) (i : Nat) (hi : y.cps.toList[i]? = some c) (l : i + 2 < y.length) : partsS y = none := by
  refine parts_none (num_len (by omega)) (no_name (List.mem_of_getElem? hi) hc) (.inl (no_name (c := c) ?_ hc))
  rw [head_take]
  refine List.mem_of_getElem? (i := i) ?_
  rw [List.getElem?_take_of_lt (by omega)]
  exact hi
/-- two signs or none, and no head -/
theorem head_none {y : Str} {c : Nat} (l : y.length = 2) (hc : ¬ (97 ≤ c ∧ c ≤ 122)) (hm : c ∈ y.cps.toList) : partsS y = none := by
  refine parts_none (num_len (by omega)) (no_name hm hc) (.inl (no_name_len (.inl ?_)))
  rw [← len_cps, head_take, l]
  rfl
/-- the forms of a place that are none -/
def oddP (w : Str) : List Str := [w ++ "+4", w ++ "+0", w ++ "-", "", " " ++ w, w ++ "+1 ", "1+" ++ w, Txt.upper w, w ++ "+01", w ++ "\n", "4", repS w 7]
theorem up_list {w : Str} (hw : Wd w) : (Txt.upper w).cps.toList = w.cps.toList.map fun c => c - 32 := by
  rw [PyProof.Rows.upper_ascii fun c hc => by have := hw.bnd c hc; omega]
  show (w.cps.map up1).toList = _
  rw [Array.toList_map]
  refine List.map_congr_left fun c hc => ?_
  exact if_pos (hw.bnd c hc)
theorem num_sign {z : Str} {c : Nat} (hm : c ∈ z.cps.toList) (hc : ¬ (48 ≤ c ∧ c ≤ 51)) : numS z = none := by
  unfold numS
  rw [if_neg (fun e => by rw [e] at hm; exact hc (by have : ∀ c ∈ ("0" : Str).cps.toList, 48 ≤ c ∧ c ≤ 51 := by decide +kernel
                                                     exact this c hm)),
    if_neg (fun e => by rw [e] at hm; exact hc (by have : ∀ c ∈ ("1" : Str).cps.toList, 48 ≤ c ∧ c ≤ 51 := by decide +kernel
                                                   exact this c hm)),
    if_neg (fun e => by rw [e] at hm; exact hc (by have : ∀ c ∈ ("2" : Str).cps.toList, 48 ≤ c ∧ c ≤ 51 := by decide +kernel
                                                   exact this c hm)),
    if_neg (fun e => by rw [e] at hm; exact hc (by have : ∀ c ∈ ("3" : Str).cps.toList, 48 ≤ c ∧ c ≤ 51 := by decide +kernel
                                                   exact this c hm))]
theorem cons_of {w : Str} (hw : Wd w) : ∃ c r, w.cps.toList = c :: r ∧ 97 ≤ c ∧ c ≤ 122 ∧ r.length ≤ 5 := by
  have l := hw.len
  cases e : w.cps.toList with
  | nil => rw [e] at l; simp at l
  | cons c r =>
    have := hw.bnd c (by rw [e]; exact List.mem_cons_self)
    rw [e] at l
    simp at l
    exact ⟨c, r, rfl, this.1, this.2, by omega⟩
theorem upper_first {w : Str} (hw : Wd w) : ∃ c r, (Txt.upper w).cps.toList = c :: r ∧ 65 ≤ c ∧ c ≤ 90 ∧ r.length ≤ 5 := by
  obtain ⟨c, r, e, h1, h2, l⟩ := cons_of hw
  rw [up_list hw, e]
  exact ⟨c - 32, _, rfl, by omega, by omega, by simpa using l⟩
theorem rep_len {w : Str} (hw : Wd w) : (repS w 7).length = 7 * w.cps.toList.length := by
  rw [← len_cps, rep_list]
  simp
  omega
theorem rep_bnd {w : Str} (hw : Wd w) : ∀ c ∈ (repS w 7).cps.toList, 97 ≤ c ∧ c ≤ 122 := by
  intro c hc
  rw [rep_list] at hc
  obtain ⟨l, hl, hc⟩ := List.mem_flatten.mp hc
  rw [List.eq_of_mem_replicate hl] at hc
  exact hw.bnd c hc
theorem odd_place {w y : Str} (hw : Wd w) (h : y ∈ oddP w) : partsS y = none := by
  have lw := hw.len
  unfold oddP at h
  simp only [List.mem_cons, List.not_mem_nil, or_false] at h
  rcases h with rfl | rfl | rfl | rfl | rfl | rfl | rfl | rfl | rfl | rfl | rfl | rfl
  · exact tail_two (s := 43) (t := 52) hw (by rw [app_list]; rfl) (by omega) (by decide +kernel)
  · exact tail_two (s := 43) (t := 48) hw (by rw [app_list]; rfl) (by omega) (by decide +kernel)
  · exact (tail_sign (s := 45) hw (by rw [app_list]; rfl)).resolve_right (by omega)
  · decide +kernel
  · have e : (" " ++ w : Str).cps.toList = 32 :: w.cps.toList := by rw [app_list]; rfl
    have l : (" " ++ w : Str).length = w.cps.toList.length + 1 := by rw [← len_cps, e]; rfl
    by_cases h1 : w.cps.toList.length = 1
    · exact head_none (c := 32) (by omega) (by omega) (by rw [e]; exact List.mem_cons_self)
    · exact head_sign (c := 32) (by omega) 0 (by rw [e]; rfl) (by omega)
  · have e : (w ++ "+1 " : Str).cps.toList = w.cps.toList ++ [43, 49, 32] := by rw [app_list]; rfl
    have l : (w ++ "+1 " : Str).length = w.cps.toList.length + 3 := by rw [← len_cps, e, List.length_append]; rfl
    exact head_sign (c := 43) (by omega) w.cps.toList.length (by rw [e, List.getElem?_append_right (Nat.le_refl _)]; simp) (by omega)
  · have e : ("1+" ++ w : Str).cps.toList = 49 :: 43 :: w.cps.toList := by rw [app_list]; rfl
    have l : ("1+" ++ w : Str).length = w.cps.toList.length + 2 := by rw [← len_cps, e]; rfl
    exact head_sign (c := 49) (by omega) 0 (by rw [e]; rfl) (by omega)
  · obtain ⟨c, r, e, h1, h2, l⟩ := upper_first hw
    have ly : (Txt.upper w).length = r.length + 1 := by rw [← len_cps, e]; rfl
    refine parts_none (num_sign (c := c) (by rw [e]; exact List.mem_cons_self) (by omega)) (no_name (c := c) (by rw [e]; exact List.mem_cons_self) (by omega)) (.inl ?_)
    by_cases h3 : r.length ≤ 1
    · refine no_name_len (.inl ?_)
      rw [← len_cps, head_take, e, ly]
      have : r.length + 1 - 2 = 0 := by omega
      rw [this]
      rfl
    · refine no_name (c := c) ?_ (by omega)
      rw [head_take, e, ly]
      have : r.length + 1 - 2 = (r.length - 2) + 1 := by omega
      rw [this]
      exact List.mem_cons_self
  · have e : (w ++ "+01" : Str).cps.toList = w.cps.toList ++ [43, 48, 49] := by rw [app_list]; rfl
    have l : (w ++ "+01" : Str).length = w.cps.toList.length + 3 := by rw [← len_cps, e, List.length_append]; rfl
    exact head_sign (c := 43) (by omega) w.cps.toList.length (by rw [e, List.getElem?_append_right (Nat.le_refl _)]; simp) (by omega)
  · exact (tail_sign (s := 10) hw (by rw [app_list]; rfl)).resolve_right (by omega)
  · decide +kernel
  · have l := rep_len hw
    refine parts_none (num_len (by omega)) (no_name_len (.inr (by omega))) (.inr ?_)
    cases h : shS (tailS (repS w 7)) with
    | none => rfl
    | some k =>
      exfalso
      obtain ⟨d, r, e1, e2, _⟩ := sh_first h
      have : d ∈ (repS w 7).cps.toList := by
        rw [tail_drop] at e1
        exact List.mem_of_mem_drop (by rw [e1]; exact List.mem_cons_self)
      have := rep_bnd hw d this
      omega
/-- the forms of a name that are none -/
def oddN (w : Str) : List Str := ["", w ++ "1", Txt.upper w, w ++ "\n", repS w 7, " " ++ w]
theorem odd_name {w y : Str} (hw : Wd w) (h : y ∈ oddN w) : nameS y = false := by
  have lw := hw.len
  refine Bool.eq_false_iff.mpr ?_
  unfold oddN at h
  simp only [List.mem_cons, List.not_mem_nil, or_false] at h
  rcases h with rfl | rfl | rfl | rfl | rfl | rfl
  · decide +kernel
  · exact no_name (c := 49) (by rw [app_list]; exact List.mem_append_right _ (by decide +kernel)) (by omega)
  · obtain ⟨c, r, e, h1, h2, l⟩ := upper_first hw
    exact no_name (c := c) (by rw [e]; exact List.mem_cons_self) (by omega)
  · exact no_name (c := 10) (by rw [app_list]; exact List.mem_append_right _ (by decide +kernel)) (by omega)
  · exact no_name_len (.inr (by rw [rep_len hw]; omega))
  · exact no_name (c := 32) (by rw [app_list]; exact List.mem_append_left _ (by decide +kernel)) (by omega)
theorem sm_upper {w : Str} (hw : Wd w) : Sm 100 (Txt.upper w) := by
  obtain ⟨c, r, e, h1, h2, l⟩ := upper_first hw
  have le : (Txt.upper w).length ≤ 100 := by rw [← len_cps, e]; simp; omega
  refine ⟨le, strOk_iff.mpr fun c hc => ?_⟩
  rw [up_list hw] at hc
  obtain ⟨d, hd, rfl⟩ := List.mem_map.mp hc
  have := hw.bnd d hd
  omega
theorem sm_rep {w : Str} (hw : Wd w) : Sm 100 (repS w 7) := by
  have lw := hw.len
  refine ⟨by rw [rep_len hw]; omega, strOk_iff.mpr fun c hc => ?_⟩
  have := rep_bnd hw c hc
  omega
theorem sm_oddP {w y : Str} (hw : Wd w) (h : y ∈ oddP w) : Sm 100 y := by
  have s := hw.2.2
  have sf : ∀ z ∈ (["+4", "+0", "-", "", " ", "+1 ", "1+", "+01", "\n", "4"] : List Str), Sm 10 z := by
    unfold Sm
    decide +kernel
  unfold oddP at h
  simp only [List.mem_cons, List.not_mem_nil, or_false] at h
  rcases h with rfl | rfl | rfl | rfl | rfl | rfl | rfl | rfl | rfl | rfl | rfl | rfl
  all_goals first
    | exact sm_upper hw
    | exact sm_rep hw
    | exact (s.app (sf _ (by decide))).mono (by decide)
    | exact ((sf _ (by decide)).app s).mono (by decide)
    | exact (sf _ (by decide)).mono (by decide)
theorem sm_oddN {w y : Str} (hw : Wd w) (h : y ∈ oddN w) : Sm 100 y := by
  have s := hw.2.2
  have sf : ∀ z ∈ (["", "1", "\n", " "] : List Str), Sm 10 z := by
    unfold Sm
    decide +kernel
  unfold oddN at h
  simp only [List.mem_cons, List.not_mem_nil, or_false] at h
  rcases h with rfl | rfl | rfl | rfl | rfl | rfl
  all_goals first
    | exact sm_upper hw
    | exact sm_rep hw
    | exact (s.app (sf _ (by decide))).mono (by decide)
    | exact ((sf _ (by decide)).app s).mono (by decide)
    | exact (sf _ (by decide)).mono (by decide)
theorem mark_of {z : Str} (h : nameS z = true) (hn : ∀ y ∈ (["old", "zero", "end", "fails", "more", "done", "none"] : List Str), z ≠ y) : markV (.str z) = true := by
  show (nameS z && !inV (.str z) noMarks) = true
  rw [h, Bool.true_and]
  have : inV (.str z) noMarks = false := by
    unfold inV noMarks
    rw [List.any_eq_false]
    intro v hv e
    simp only [List.mem_cons, List.not_mem_nil, or_false] at hv
    rcases hv with rfl | rfl | rfl | rfl | rfl | rfl | rfl
    all_goals exact hn z (by have := of_decide_eq_true e; cases this; simp) rfl
  rw [this]
  rfl
end Mz
set_option Elab.async false
set_option linter.all false
set_option maxRecDepth 100000
set_option maxHeartbeats 4000000
/-! == and != of two tuples (dict, int), == of two dicts of ints: whichever way it goes -/
namespace Mz
open PySem PySem.Spec PyProof.Rows L2
open PySem.SeqAt (EqIn)
open PySem.AutoSeq1 (wpAny_loadPart')
section
variable {prog : Program} {w : World}
theorem tup2_ne (l b : Addr) (u1 u2 w1 w2 : Value) (n n2 : Nat) (dd dd2 : Option Addr) (sl sl2 : Array (Option Value)) (e1 e2 : Bool) :
    MeetsIn prog w (Builtin.«tuple.__ne__» ⟨[.ref l, .ref b], []⟩)
      (fun A R s => s.heap.get? l = some { cls := .type "tuple", dict := dd, data := .seq #[u1, u2] n, slots := sl } ∧ s.heap.get? b = some { cls := .type "tuple", dict := dd2, data := .seq #[w1, w2] n2, slots := sl2 } ∧
        EqIn prog w A.in1 s u1 w1 e1 ∧ EqIn prog w A.in1 s u2 w2 e2 ∧ R (.ok (.ret (.bool (!(e1 && e2))))) s) :=
  .of_wp fun A R s h => by
    obtain ⟨hp, g, d, tk, os⟩ := s
    obtain ⟨hl, hb, h1, h2, h⟩ := h
    have f2 := AutoSeq1.sub_tuple_tuple
    have k1 : ∀ (E : Value → Shared → Prop) (Q : Bool → Shared → Prop), Q e1 ⟨hp, g, d, tk, os⟩ → wpAny (model prog w) A.in1 (eqBool u1 w1) Q E ⟨hp, g, d, tk, os⟩ := h1
    have k2 : ∀ (E : Value → Shared → Prop) (Q : Bool → Shared → Prop), Q e2 ⟨hp, g, d, tk, os⟩ → wpAny (model prog w) A.in1 (eqBool u2 w2) Q E ⟨hp, g, d, tk, os⟩ := h2
    cases e1 with
    | false =>
      wp_walk using wpAny_loadPart' hl, wpAny_loadPart' hb, k1 _ _
      exact ⟨_, rfl, h⟩
    | true =>
      cases e2 with
      | false =>
        wp_walk using wpAny_loadPart' hl, wpAny_loadPart' hb, k1 _ _, k2 _ _
        exact ⟨_, rfl, h⟩
      | true =>
        wp_walk using wpAny_loadPart' hl, wpAny_loadPart' hb, k1 _ _, k2 _ _
        exact ⟨_, rfl, h⟩
end
/-- the dicts hold the same -/
def eqDV (ks ls : List (Key × V)) : Bool := (ks.length == ls.length) && ks.all fun p => decide (valV ls p.1 = some p.2)
def AllI (ks : List (Key × V)) : Prop := ∀ p ∈ ks, ∃ n, p.2 = V.int n
theorem valV_mem {ks : List (Key × V)} {k : Key} {v : V} (h : valV ks k = some v) : ∃ p ∈ ks, p.1 = k ∧ p.2 = v := by
  unfold valV at h
  cases e : ks.find? fun kv => decide (kv.1 = k) with
  | none =>
    rw [e] at h
    cases h
  | some p =>
    rw [e] at h
    exact ⟨p, List.mem_of_find?_eq_some e, of_decide_eq_true (by simpa using List.find?_some e), Option.some.inj h⟩
theorem valV_self : ∀ {ks : List (Key × V)}, (ks.map (·.1)).Nodup → ∀ p ∈ ks, valV ks p.1 = some p.2
  | q :: r, nd, p, hp => by
    rw [List.map_cons, List.nodup_cons] at nd
    rcases List.mem_cons.mp hp with rfl | hp
    · exact valV_pos rfl
    · rw [valV_neg fun e => nd.1 (by rw [e]; exact List.mem_map_of_mem hp)]
      exact valV_self nd.2 p hp
theorem eqDV_self {ks : List (Key × V)} (nd : (ks.map (·.1)).Nodup) : eqDV ks ks = true := by
  unfold eqDV
  rw [beq_self_eq_true, Bool.true_and, List.all_eq_true]
  exact fun p hp => decide_eq_true (valV_self nd p hp)
section
variable {X : Cx} {pins : List (Addr × Obj)} {σ : L2.St} {H : Hp} {s : Shared}
theorem hits_ints {prog : Program} {w : World} {A : Around} {ls : List (Key × V)} {vb : List (Key × Value)} (rb : KV ls vb) (il : AllI ls) {ks : List (Key × V)} {va : List (Key × Value)} (ra : KV ks va) :
    AllI ks → PySem.W.KeqHitsIn prog w A s vb va (ks.all fun p => decide (valV ls p.1 = some p.2)) := by
  unfold KV at ra
  induction ra with
  | nil => exact fun _ => .nil
  | @cons p q ps qs h t ih =>
    intro hi
    obtain ⟨h1, h2⟩ := h
    obtain ⟨key, v⟩ := q
    have hk : p.1 = key := h1
    obtain ⟨n, en⟩ := hi p List.mem_cons_self
    have h2 : RelV p.2 v := h2
    rw [en] at h2
    obtain ⟨t1, rfl⟩ := h2
    have rr := rb.val p.1
    rw [List.all_cons]
    cases e : valV ls p.1 with
    | none =>
      rw [e] at rr
      rw [decide_eq_false (fun x => nomatch x), Bool.false_and]
      refine .miss ?_
      rw [← hk]
      cases x : valueAt vb p.1 with
      | none => rfl
      | some y =>
        rw [x] at rr
        exact absurd rr (fun z => nomatch z)
    | some u =>
      rw [e] at rr
      obtain ⟨y, hy, ry⟩ := RelO.some_of rr
      obtain ⟨m, em⟩ : ∃ m, u = .int m := by
        obtain ⟨q, hq, _, e2⟩ := valV_mem e
        obtain ⟨m, em⟩ := il q hq
        exact ⟨m, by rw [← e2, em]⟩
      subst em
      obtain ⟨t2, rfl⟩ := ry
      have hd : decide (some (V.int m) = some p.2) = (n == m) := by
        rw [en]
        by_cases x : m = n
        · rw [x]
          simp
        · rw [decide_eq_false (fun z => x (V.int.inj (Option.some.inj z)))]
          exact (beq_false_of_ne fun z => x z.symm).symm
      rw [hd]
      exact .hit (by rw [← hk]; exact hy) ((SeqAt.EqAt.int_int _ _ _ _).inModel prog w) (ih fun z hz => hi z (List.mem_cons_of_mem _ hz))
theorem dict_eqIn (I : Inv X pins σ H s) {A : Around} (hu : A.units + 1 < cLine) {a b : Addr} {ks ls : List (Key × V)} (ea : H a = some (.dK ks)) (eb : H b = some (.dK ls)) (ia : AllI ks) (ib : AllI ls) (nd : (ks.map (·.1)).Nodup) :
    EqIn X.prog X.w A s (.ref a) (.ref b) (eqDV ks ls) := by
  by_cases x : a = b
  · subst x
    rw [ea] at eb
    cases eb
    rw [eqDV_self nd]
    exact (SeqAt.EqAt.same _).inModel _ _
  · obtain ⟨_, ya, va, ra, da⟩ := (show ObjOk X.prog X.w H s.heap a (.dK ks) from I.hok a _ ea)
    obtain ⟨_, yb, vb, rb, db⟩ := (show ObjOk X.prog X.w H s.heap b (.dK ls) from I.hok b _ eb)
    refine SeqAt.EqIn.of_refs x fun E Q hq => PySem.W.keq_eqIn (knd := mixKind X.prog X.w) ya yb da db (by omega) (fun _ => hits_ints rb ib ra ia) ?_
    unfold eqDV at hq
    rw [ra.length, rb.length] at hq
    exact hq
def rEqDI : R2 := fun x y H Q => ∃ a b ks ls, x = .ref a ∧ y = .ref b ∧ H a = some (.dK ks) ∧ H b = some (.dK ls) ∧ AllI ks ∧ AllI ls ∧ Q (.bl (eqDV ks ls)) H
theorem op_eqDI (hu : X.A.units + 1 < cLine) : OpR X (compareOp .Eq) rEqDI := by
  intro pins s σ H x y v u Q I rx ry h
  obtain ⟨a, b, ks, ls, rfl, rfl, ea, eb, ia, ib, q⟩ := h
  obtain rfl : v = Value.ref a := rx
  obtain rfl : u = Value.ref b := ry
  obtain ⟨_, ya, va, ra, da⟩ := (show ObjOk X.prog X.w H s.heap a (.dK ks) from I.hok a _ ea)
  obtain ⟨_, yb, vb, rb, db⟩ := (show ObjOk X.prog X.w H s.heap b (.dK ls) from I.hok b _ eb)
  refine PySem.W.keq_eqIn (knd := mixKind X.prog X.w) ya yb da db (by omega) (fun _ => hits_ints rb ib ra ia) ⟨.bl (eqDV ks ls), H, I, ?_, q⟩
  show Value.bool _ = Value.bool _
  unfold eqDV
  rw [ra.length, rb.length]
def rTD (f : Bool → Bool) : R2 := fun x y H Q => ∃ a b d e ks ls i j, x = .ref a ∧ y = .ref b ∧ H a = some (.tup [.ref d, .int i]) ∧ H b = some (.tup [.ref e, .int j]) ∧ H d = some (.dK ks) ∧ H e = some (.dK ls) ∧ AllI ks ∧ AllI ls ∧ (ks.map (·.1)).Nodup ∧ Q (.bl (f (eqDV ks ls && decide (i = j)))) H
theorem int_deq {i j : Int} : (i == j) = decide (i = j) := rfl
theorem op_eqTD (hu : X.A.units + 64 < cLine) : OpR X (compareOp .Eq) (rTD fun b => b) := by
  intro pins s σ H x y v u Q I rx ry h
  obtain ⟨a, b, d, e, ks, ls, i, j, rfl, rfl, ha, hb, hd, he, ia, ib, nd, q⟩ := h
  obtain rfl : v = Value.ref a := rx
  obtain rfl : u = Value.ref b := ry
  obtain ⟨us, r1, p1, _⟩ := I.tuple (SqT.of ha)
  obtain ⟨ws, r2, p2, _⟩ := I.tuple (SqT.of hb)
  obtain ⟨x1, x2, rfl, e1, ⟨t1, rfl⟩⟩ := vals2 r1
  obtain ⟨y1, y2, rfl, e2, ⟨t2, rfl⟩⟩ := vals2 r2
  obtain rfl : x1 = Value.ref d := e1
  obtain rfl : y1 = Value.ref e := e2
  refine SeqAt.rcIn_tuples (e := fun n => if n = 0 then eqDV ks ls else (i == j)) p1 p2 (by omega) (fun n h1 h2 => ?_) ⟨.bl (eqDV ks ls && decide (i = j)), H, I, ?_, q⟩
  · match n, h1, h2 with
    | 0, _, _ => exact dict_eqIn I (by show X.A.units + 1 + 1 < cLine; omega) hd he ia ib nd
    | 1, _, _ => exact (SeqAt.EqAt.int_int _ _ _ _).inModel _ _
    | n + 2, h1, _ => exact absurd h1 (by simp)
  · show Value.bool _ = Value.bool _
    simp [List.range_succ]
    rfl
theorem op_neTD (hu : X.A.units + 64 < cLine) : OpR X (compareOp .NotEq) (rTD fun b => !b) := by
  intro pins s σ H x y v u Q I rx ry h
  obtain ⟨a, b, d, e, ks, ls, i, j, rfl, rfl, ha, hb, hd, he, ia, ib, nd, q⟩ := h
  obtain rfl : v = Value.ref a := rx
  obtain rfl : u = Value.ref b := ry
  obtain ⟨us, r1, p1, _⟩ := I.tuple (SqT.of ha)
  obtain ⟨ws, r2, p2, _⟩ := I.tuple (SqT.of hb)
  obtain ⟨x1, x2, rfl, e1, ⟨t1, rfl⟩⟩ := vals2 r1
  obtain ⟨y1, y2, rfl, e2, ⟨t2, rfl⟩⟩ := vals2 r2
  obtain rfl : x1 = Value.ref d := e1
  obtain rfl : y1 = Value.ref e := e2
  obtain ⟨⟨cls, dd, data, sl⟩, ho, hc, n, hdt⟩ := id p1
  obtain ⟨⟨cls2, dd2, data2, sl2⟩, ho2, hc2, n2, hdt2⟩ := id p2
  simp only at hc hdt hc2 hdt2
  subst hc hdt hc2 hdt2
  refine PySem.W.cmp_ofNotEq (wpAny_richCompare_same_room (T := "tuple") (op := .NotEq) ⟨_, ho, rfl⟩ ⟨_, ho2, rfl⟩ F.slot_tuple_ne (call_meetsIn F.slot_tuple_ne ⟨_, ho, rfl⟩ F.entry_tuple_ne (F.args_tuple_ne_2 _ _) (tup2_ne a b _ _ _ _ n n2 dd dd2 sl sl2 (eqDV ks ls) (i == j))
    ⟨ho, ho2, dict_eqIn I (by show X.A.units + 1 + 1 < cLine; omega) hd he ia ib nd, (SeqAt.EqAt.int_int _ _ _ _).inModel _ _, (show Value.bool _ ≠ Value.notImplemented ∧ _ from ⟨(fun x => nomatch x), .bl (!(eqDV ks ls && decide (i = j))), H, I, rfl, q⟩)⟩) (by omega))
end
end Mz
set_option Elab.async false
set_option linter.all false
set_option maxRecDepth 100000
set_option maxHeartbeats 4000000
/-! == where a side is empty, whatever the items -/
namespace Mz
open PySem PySem.Spec PyProof.Rows L2
section
variable {X : Cx}
/-- tuples, one of them empty -/
def rEqT0 (K : PySem.W.Frag) : R2 := fun x y H Q => ∃ a b xs, x = .ref a ∧ y = .ref b ∧ SqT K H a xs ∧ SqT K H b [] ∧ Q (.bl xs.isEmpty) H
theorem op_eqT0 (hu : X.A.units + 64 < cLine) : OpR X (compareOp .Eq) (rEqT0 X.K) := by
  intro pins s σ H x y v u Q I rx ry h
  obtain ⟨a, b, xs, rfl, rfl, ha, hb, q⟩ := h
  obtain rfl : v = Value.ref a := rx
  obtain rfl : u = Value.ref b := ry
  obtain ⟨us, r1, p1, _⟩ := I.tuple ha
  obtain ⟨ws, r2, p2, _⟩ := I.tuple hb
  cases r2
  refine SeqAt.eq_tupleAt (e := fun _ => true) p1 p2 (by omega) (fun j h1 h2 => absurd h2 (by simp)) ⟨.bl xs.isEmpty, H, I, ?_, q⟩
  show Value.bool _ = Value.bool _
  cases r1 <;> rfl
theorem isl {h : Heap} {a : Addr} {its : Array Value} (p : PlainL h a its) : h.IsList a its := by
  obtain ⟨o, n, h1, h2, _, h3⟩ := p
  exact ⟨o, h1, h2, n, h3⟩
/-- lists, one of them empty -/
def rEqL0 (K : PySem.W.Frag) : R2 := fun x y H Q => ∃ a b xs, x = .ref a ∧ y = .ref b ∧ SqL K H a xs ∧ SqL K H b [] ∧ Q (.bl xs.isEmpty) H
theorem op_eqL0 (hu : X.A.units + 64 < cLine) : OpR X (compareOp .Eq) (rEqL0 X.K) := by
  intro pins s σ H x y v u Q I rx ry h
  obtain ⟨a, b, xs, rfl, rfl, ha, hb, q⟩ := h
  obtain rfl : v = Value.ref a := rx
  obtain rfl : u = Value.ref b := ry
  obtain ⟨us, r1, p1, _⟩ := I.list ha
  obtain ⟨ws, r2, p2, _⟩ := I.list hb
  cases r2
  cases r1 with
  | nil => exact SeqAt.eq_listAt (e := fun _ => true) (isl p1) (isl p2) rfl (by omega) (fun j h1 h2 => absurd h2 (by simp)) ⟨.bl true, H, I, rfl, q⟩
  | cons r1 t => exact SeqAt.eq_list_lengthsAt (isl p1) (isl p2) (by simp) (by omega) ⟨.bl false, H, I, rfl, q⟩
end
end Mz
set_option Elab.async false
set_option linter.all false
set_option maxRecDepth 100000
set_option maxHeartbeats 4000000
namespace Mz
open PySem PySem.Spec PyProof.Rows L2
section
variable {P : Program} {w : World} {K : PySem.W.Frag} {mg : Str → Option Value} {base : Heap}
theorem scIsMark : FnScope ["value"] ["value"] (defScope sIsMark) := ⟨rfl, rfl, rfl, by decide +kernel, rfl, by decide +kernel, by decide +kernel⟩
theorem ok_isMark {f f1 pM : Addr} {fd fd1 : FuncData} (F : Fun K "is_mark" "is_mark" sIsMark f fd) (G : FnOk P w K mg base CX0 1 f1 fd1 ["value"] (spIsName K)) (m1 : mg "is_name" = some (.ref f1)) (k1 : PySem.W.keepIn K (.ref f1) = true) (b1 : Binds K fd1 ["value"] [])
    (mM : mg "_NO_MARKS" = some (.ref pM)) (hM : ∀ H, SqT K H pM noMarks) : FnOk P w K mg base CX0 2 f fd ["value"] (spIsMark K) := by
  refine F.ok scIsMark (fun vs H Q E h => ?_) (fun cdv A outer s H vs Q E hr h => ?_)
  · obtain ⟨v, rfl, _⟩ := h
    rfl
  · obtain ⟨v, rfl, hk, q⟩ := h
    refine ⟨_, pss_one (ps_ret (pe_and (pe_call G hr (by rfl) m1 k1 b1 .nil pass0 (pa_cons (pv 0) pa_nil)) (pe_one (pe_cmpR op_notIn_seq (pv 0) (pe_glob (v := .ref pM) rfl mM rfl) (by rfl))))), ?_⟩
    refine ⟨_, rfl, v, rfl, hk, fun H' sm => ⟨_, rfl, ite2 (fun hn => ?_) (fun hn => ?_)⟩⟩
    · cases hk with
      | str z hz ok =>
        refine ⟨_, rfl, pM, noMarks, rfl, .inr (hM _), rfl, rfl, ?_⟩
        have e : markV (.str z) = !inV (.str z) noMarks := by
          show (nameS z && !inV (.str z) noMarks) = _
          rw [show nameS z = true from hn, Bool.true_and]
        have q2 := q H' sm
        rw [e] at q2
        exact q2
      | int i => exact absurd hn (by simp [nameV])
      | bl b => exact absurd hn (by simp [nameV])
      | non => exact absurd hn (by simp [nameV])
      | oth a t ty ki ks => exact absurd hn (by simp [nameV])
    · have e : markV v = false := by
        cases v with
        | str z =>
          show (nameS z && !inV (.str z) noMarks) = false
          rw [show nameS z = false from Bool.eq_false_iff.mpr hn, Bool.false_and]
        | _ => rfl
      have q2 := q H' sm
      rw [e] at q2
      exact q2
end
theorem walk_zipT {K : PySem.W.Frag} {a b : Addr} {xs ys : List V} {n : Nat} (hn : n = min xs.length ys.length) : Walk (RZ.ItzT K a b) n (fun H => SqT K H a xs ∧ SqT K H b ys) (YPair (fun i => xs[i]?) (fun i => ys[i]?)) := by
  subst hn
  refine ⟨fun i _ hi q => ?_, fun _ q => ⟨xs, ys, q.1, q.2, by omega⟩, fun i H v H' _ q y => ?_⟩
  · have h1 : i < xs.length := by omega
    have h2 : i < ys.length := by omega
    exact ⟨xs, ys, xs[i], ys[i], q.1, q.2, by simp [h1], by simp [h2]⟩
  · obtain ⟨T, x, z, h1, h2, h3, h4, h5⟩ := y
    exact ⟨T, x, z, h1, h2, h3, h4 xs q.1, h5 ys q.2⟩
theorem ty_at {K : PySem.W.Frag} {H H' : Hp} {v : V} {t : Value} (s : ∀ a, v = .ref a → ∀ o, H a = some o → H' a = some o) (h : TyX K H v t) : TyX K H' v t := by
  cases h with
  | base b =>
    cases b with
    | non => exact .base .non
    | bl x => exact .base (.bl x)
    | int i => exact .base (.int i)
    | str x => exact .base (.str x)
    | flt x => exact .base (.flt x)
    | lst e => exact .base (.lst (s _ rfl _ e))
    | frz e => exact .base (.frz (s _ rfl _ e))
    | tup e => exact .base (.tup (s _ rfl _ e))
    | dK e => exact .base (.dK (s _ rfl _ e))
    | dT e => exact .base (.dT (s _ rfl _ e))
    | ins e cl ha hn htk hm => exact .base (.ins (s _ rfl _ e) cl ha hn htk hm)
  | byt b => exact .byt b
  | set e => exact .set (s _ rfl _ e)
  | kList e c => exact .kList e c
  | kTuple e c => exact .kTuple e c
  | kDict e c => exact .kDict e c
  | fTuple e => exact .fTuple (s _ rfl _ e)
  | fDict e => exact .fDict (s _ rfl _ e)
theorem Kd.at {K : PySem.W.Frag} {H H' : Hp} {v : V} (s : ∀ a, v = .ref a → ∀ o, H a = some o → H' a = some o) (h : Kd K H v) : Kd K H' v := by
  cases h with
  | int i => exact .int i
  | bl b => exact .bl b
  | str z h ok => exact .str z h ok
  | non => exact .non
  | oth a t ty ki ks => exact .oth a t (ty_at s ty) ki ks
/-- a value at an item of a form -/
def Ft (K : PySem.W.Frag) (C : Addr) (H : Hp) (v : V) (form : Str) (t : Bool) : Prop := Kd K H v ∧
  ((form = "place" ∧ ((∃ a z k, v = .ref a ∧ Pl C H a z k ∧ t = true) ∨ (Oty K C H v ∧ t = (ofV v).isSome))) ∨ (form = "mark" ∧ t = markV v) ∨ (form = "name" ∧ t = nameV v))
theorem Ft.at {K : PySem.W.Frag} {C : Addr} {H H' : Hp} {v : V} {form : Str} {t : Bool} (s : ∀ a, v = .ref a → ∀ o, H a = some o → H' a = some o) (h : Ft K C H v form t) : Ft K C H' v form t := by
  obtain ⟨hk, h⟩ := h
  refine ⟨hk.at s, ?_⟩
  rcases h with ⟨hf, ⟨a, z, k, e, ⟨dx, h⟩, r⟩ | ⟨⟨u, ty, k⟩, r⟩⟩ | h | h
  · exact .inl ⟨hf, .inl ⟨a, z, k, e, ⟨dx, s a e _ h⟩, r⟩⟩
  · exact .inl ⟨hf, .inr ⟨⟨u, ty_at s ty, k⟩, r⟩⟩
  · exact .inr (.inl h)
  · exact .inr (.inr h)
theorem Ft.same {K : PySem.W.Frag} {C : Addr} {H H' : Hp} {v : V} {form : Str} {t : Bool} (s : Same H H') (h : Ft K C H v form t) : Ft K C H' v form t := h.at fun a _ o e => s a o e
def spFits (K : PySem.W.Frag) (C : Addr) : Sp := fun vs H Q _ => ∃ (v : V) (form : Str) (t : Bool), vs = [v, .str form] ∧ Ft K C H v form t ∧ ∀ H', Same H H' → Q (.bl t) H'
section
variable {P : Program} {w : World} {K : PySem.W.Frag} {mg : Str → Option Value} {base : Heap}
theorem scFits : FnScope ["item", "form"] ["item", "form"] (defScope sFits) := ⟨rfl, rfl, rfl, by decide +kernel, rfl, by decide +kernel, by decide +kernel⟩
theorem ok_fits {f f1 f2 f3 C : Addr} {fd fd1 fd2 fd3 : FuncData} (F : Fun K "_fits" "_fits" sFits f fd) (G1 : FnOk P w K mg base CX0 6 f1 fd1 ["value"] (spIsPl K C)) (m1 : mg "is_place" = some (.ref f1)) (k1 : PySem.W.keepIn K (.ref f1) = true) (b1 : Binds K fd1 ["value"] [])
    (G2 : FnOk P w K mg base CX0 2 f2 fd2 ["value"] (spIsMark K)) (m2 : mg "is_mark" = some (.ref f2)) (k2 : PySem.W.keepIn K (.ref f2) = true) (b2 : Binds K fd2 ["value"] [])
    (G3 : FnOk P w K mg base CX0 1 f3 fd3 ["value"] (spIsName K)) (m3 : mg "is_name" = some (.ref f3)) (k3 : PySem.W.keepIn K (.ref f3) = true) (b3 : Binds K fd3 ["value"] []) : FnOk P w K mg base CX0 7 f fd ["item", "form"] (spFits K C) := by
  refine F.ok scFits (fun vs H Q E h => ?_) (fun cdv A outer s H vs Q E hr h => ?_)
  · obtain ⟨v, form, t, rfl, _⟩ := h
    rfl
  · obtain ⟨v, form, t, rfl, ⟨hk, hf⟩, q⟩ := h
    have hr1 : Room 1 _ := hr.mono (by decide)
    have hr2 : Room 2 _ := hr.mono (by decide)
    refine ⟨_, pss_cons (ps_if (pt_cmpR op_eq (pv 1) pe_str (nomark _)) (pss_one (ps_ret (pe_call G1 hr (by rfl) m1 k1 b1 .nil pass0 (pa_cons (pv 0) pa_nil)))) pss_nil)
      (pss_one (ps_ret (pe_ifExp (pt_cmpR op_eq (pv 1) pe_str (nomark _)) (pe_call G2 hr2 (by rfl) m2 k2 b2 .nil pass0 (pa_cons (pv 0) pa_nil)) (pe_call G3 hr1 (by rfl) m3 k3 b3 .nil pass0 (pa_cons (pv 0) pa_nil))))), ?_⟩
    have ne1 : decide (V.str "mark" = V.str "place") = false := by decide +kernel
    have ne2 : decide (V.str "name" = V.str "place") = false := by decide +kernel
    have ne3 : decide (V.str "name" = V.str "mark") = false := by decide +kernel
    rcases hf with ⟨rfl, h⟩ | ⟨rfl, rfl⟩ | ⟨rfl, rfl⟩
    · refine ⟨_, rfl, rfl, _, rfl, ?_⟩
      rw [decide_eq_true rfl]
      refine iteT ?_
      rcases h with ⟨a, z, k, rfl, pa, rfl⟩ | ⟨oty, rfl⟩
      · exact ⟨_, rfl, .ref a, rfl, .inl ⟨a, z, k, rfl, pa, q H (Same.refl H)⟩⟩
      · exact ⟨_, rfl, v, rfl, .inr ⟨⟨hk, oty⟩, q⟩⟩
    · refine ⟨_, rfl, rfl, _, rfl, ?_⟩
      rw [ne1]
      refine iteF ⟨_, rfl, rfl, _, rfl, ?_⟩
      rw [decide_eq_true rfl]
      exact iteT ⟨_, rfl, v, rfl, hk, q⟩
    · refine ⟨_, rfl, rfl, _, rfl, ?_⟩
      rw [ne2]
      refine iteF ⟨_, rfl, rfl, _, rfl, ?_⟩
      rw [ne3]
      exact iteF ⟨_, rfl, v, rfl, hk, q⟩
end
/-! is_step -/
def formL : List (Str × List Str) := [("cut", ["place"]), ("write", ["place", "place", "mark"]), ("read", ["place"]), ("look", ["place"]), ("store", ["place", "mark"]), ("test", ["place"]), ("sync", ["place", "place"]), ("lock", ["name"]), ("unlock", ["name"])]
def formS (z : Str) : Option (List Str) := (formL.find? fun q => decide (z = q.1)).map (·.2)
/-- the written dict of the forms -/
def FTab (K : PySem.W.Frag) (w : World) (d : Addr) : Prop := ∃ es n, KDict K w d es n ∧ ∀ z : Str, ∃ r, PySem.W.nsIn K d z = some r ∧ ((formS z = none ∧ r = none) ∨ ∃ fs a, formS z = some fs ∧ r = some (.ref a) ∧ ∀ H, SqT K H a (fs.map V.str))
inductive Fts (K : PySem.W.Frag) (C : Addr) (H : Hp) : List V → List Str → List Bool → Prop
  | nil : Fts K C H [] [] []
  | cons {v vs f fs t ts} (h : Ft K C H v f t) (r : Fts K C H vs fs ts) : Fts K C H (v :: vs) (f :: fs) (t :: ts)
theorem Fts.len {K : PySem.W.Frag} {C : Addr} {H : Hp} {r : List V} {fs : List Str} {ts : List Bool} (h : Fts K C H r fs ts) : r.length = fs.length := by
  induction h with
  | nil => rfl
  | cons _ _ ih => rw [List.length_cons, List.length_cons, ih]
theorem Fts.len2 {K : PySem.W.Frag} {C : Addr} {H : Hp} {r : List V} {fs : List Str} {ts : List Bool} (h : Fts K C H r fs ts) : r.length = ts.length := by
  induction h with
  | nil => rfl
  | cons _ _ ih => rw [List.length_cons, List.length_cons, ih]
theorem Fts.get {K : PySem.W.Frag} {C : Addr} {H : Hp} {r : List V} {fs : List Str} {ts : List Bool} (h : Fts K C H r fs ts) : ∀ {i : Nat}, i < r.length → ∃ v f t, r[i]? = some v ∧ fs[i]? = some f ∧ ts[i]? = some t ∧ Ft K C H v f t := by
  induction h with
  | nil => intro i h; exact absurd h (by simp)
  | cons h _ ih =>
    intro i hi
    match i, hi with
    | 0, _ => exact ⟨_, _, _, rfl, rfl, rfl, h⟩
    | i + 1, hi => exact ih (i := i) (by simpa using hi)
theorem forms_le {z : Str} {fs : List Str} (h : formS z = some fs) : fs.length ≤ 3 := by
  unfold formS at h
  cases e : formL.find? fun q => decide (z = q.1) with
  | none => rw [e] at h; cases h
  | some q =>
    rw [e] at h
    cases h
    have all : ∀ q ∈ formL, q.2.length ≤ 3 := by decide +kernel
    exact all q (List.mem_of_find?_eq_some e)
/-- whether a tuple is a step -/
def Tpl (K : PySem.W.Frag) (C : Addr) (H : Hp) (l : List V) (t : Bool) : Prop := (l = [] ∧ t = false) ∨ ∃ x r, l = x :: r ∧ ((∃ ty, TyX K H x ty ∧ PySem.W.kitOne K ty (.type "str") = some false ∧ t = false) ∨
  ∃ z : Str, x = .str z ∧ ((formS z = none ∧ t = false) ∨ ∃ fs, formS z = some fs ∧ ((r.length ≠ fs.length ∧ r.length ≤ 100 ∧ t = false) ∨ ∃ ts, Fts K C H r fs ts ∧ t = ts.all id)))
/-- whether a value is a step -/
def Stp (K : PySem.W.Frag) (C : Addr) (H : Hp) (v : V) (t : Bool) : Prop := (∃ ty, TyX K H v ty ∧ PySem.W.kitOne K ty (.type "tuple") = some false ∧ t = false) ∨ ∃ a l, v = .ref a ∧ H a = some (.tup l) ∧ Tpl K C H l t
def spIsStep (K : PySem.W.Frag) (C : Addr) : Sp := fun vs H Q _ => ∃ (v : V) (t : Bool), vs = [v] ∧ Stp K C H v t ∧ ∀ H', Same H H' → Q (.bl t) H'
section
variable {P : Program} {w : World} {K : PySem.W.Frag} {mg : Str → Option Value} {base : Heap}
theorem scIsStep : FnScope ["value", "item", "form"] ["value"] (defScope sIsStep) := ⟨rfl, rfl, rfl, by decide +kernel, rfl, by decide +kernel, by decide +kernel⟩
theorem ok_isStep {f f1 dF C : Addr} {fd fd1 : FuncData} (F : Fun K "is_step" "is_step" sIsStep f fd) (G1 : FnOk P w K mg base CX0 7 f1 fd1 ["item", "form"] (spFits K C)) (m1 : mg "_fits" = some (.ref f1)) (k1 : PySem.W.keepIn K (.ref f1) = true) (b1 : Binds K fd1 ["item", "form"] [])
    (mF : mg "_FORMS" = some (.ref dF)) (tF : FTab K w dF) (B : Blt mg) (D : Blp mg) (mT : mg "tuple" = none) (mZ : mg "zip" = none) : FnOk P w K mg base CX0 8 f fd ["value"] (spIsStep K C) := by
  refine F.ok scIsStep (fun vs H Q E h => ?_) (fun cdv A outer s H vs Q E hr h => ?_)
  · obtain ⟨v, t, rfl, _⟩ := h
    rfl
  · obtain ⟨v, t, rfl, hv, q⟩ := h
    have nd := scIsStep.nd
    obtain ⟨es, n, DF, lF⟩ := tF
    refine ⟨_, (pss_cons (ps_if (PW.pt (pw_or (pt_not (pt_val (pe_callB call_isi (by rfl) D.isi (by decide +kernel) (pa_cons (pv 0) (pa_cons (pe_bltn (v := .ty "tuple") (by rfl) mT (by decide +kernel) rfl) pa_nil))))) (pw_or (pt_cmpR (op_eqT0 hr.units) (pv 0) (pe_tup pa_nil) (nomark _)) (pw_or1 (pt_not (pt_val (pe_callB call_isi (by rfl) D.isi (by decide +kernel) (pa_cons (pe_ix ix_tup (pv 0) pe_int (fun _ _ => rfl)) (pa_cons (pe_bltn (v := .ty "str") (by rfl) D.str (by decide +kernel) rfl) pa_nil))))))))) (pss_one (ps_ret pe_bl)) pss_nil)
      (pss_cons (ps_if (PW.pt (pw_or (pt_cmpR (op_notIn_kd DF) (pe_ix ix_tup (pv 0) pe_int (fun _ _ => rfl)) (pe_glob (v := .ref dF) rfl mF rfl) (by rfl)) (pw_or1 (pt_cmpR op_ne (pe_callB call_len_seq (by rfl) B.len PySem.boot_len (pa_cons (pv 0) pa_nil)) (pe_op op_add pe_int (pe_callB call_len_seq (by rfl) B.len PySem.boot_len (pa_cons (pe_ix ix_kdict (pe_glob (v := .ref dF) rfl mF rfl) (pe_ix ix_tup (pv 0) pe_int (fun _ _ => rfl)) (fun _ _ => rfl)) pa_nil))) (nomark _))))) (pss_one (ps_ret pe_bl)) pss_nil)
      (pss_one (ps_ret (pe_callB (cr_all rfl) (by rfl) D.all (by decide +kernel) (pa_cons (pe_lc (own := [("item", 1), ("form", 2)]) (g := gTup K 2 (gCons (gName 1) (gCons (gName 2) (gNil)))) (tt := tYes) rfl nd (RZ.pi_zipA (by rfl) mZ (pa_cons (pe_slice sl_tup (pv 0) (po_some pe_int) po_none) (pa_cons (pe_ix ix_kdict (pe_glob (v := .ref dF) rfl mF rfl) (pe_ix ix_tup (pv 0) pe_int (fun _ _ => rfl)) (fun _ _ => rfl)) pa_nil))) (blkOk_by (N := ["value", "item", "form"]) (sc := defScope sIsStep) (by decide +kernel)) (fun _ _ _ _ _ => pg_tup (by rfl) (pgs_cons (pg_name (i := 1) nd rfl (Or.inl rfl)) (pgs_cons (pg_name (i := 2) nd rfl (Or.inl rfl)) (pgs_nil)))) (fun _ _ _ _ _ => pts_nil) (fun _ _ _ _ _ => (pe_call G1 hr (by rfl) m1 k1 b1 .nil pass0 (pa_cons (pv 1) (pa_cons (pv 2) pa_nil))))) pa_nil)))))), ?_⟩
    refine ⟨_, rfl, ?_⟩
    rcases hv with ⟨ty, hty, kt, rfl⟩ | ⟨a, l, rfl, ha, hl⟩
    · exact ⟨_, _, _, _, false, rfl, .ty _, hty, kt, false, rfl, iteT (iteT (q H (Same.refl H)))⟩
    · refine ⟨_, _, _, _, true, rfl, .ty _, .base (.tup ha), kit_ty (by decide +kernel), true, rfl, iteF ?_⟩
      refine ⟨_, rfl, (by show 0 ≤ sizeLine; decide), fun p0 np0 => ?_⟩
      have s1 : Same H (upd H p0 (.tup [])) := same_nw np0
      have t1 : upd H p0 (.tup []) p0 = some (.tup []) := upd_same
      generalize upd H p0 (.tup []) = H1 at s1 t1
      have a1 := s1 _ _ ha
      refine ⟨a, p0, l, rfl, rfl, SqT.of a1, SqT.of t1, _, rfl, ?_⟩
      rcases hl with ⟨rfl, rfl⟩ | ⟨x, r, rfl, hx⟩
      · exact iteT (iteT (q _ s1))
      refine iteF ?_
      have i0 : atI (x :: r) (0 : Int) = some x := atI_nat (xs := x :: r) (j := 0) rfl
      rcases hx with ⟨ty, hty, kt, rfl⟩ | ⟨z, rfl, hz⟩
      · exact ⟨_, rfl, a, _, _, _, rfl, rfl, SqT.of a1, i0, _, _, _, _, false, rfl, .ty _, ty_at (fun _ _ o e => s1 _ o e) hty, kt, false, rfl, iteT (q _ s1)⟩
      refine ⟨_, rfl, a, _, _, _, rfl, rfl, SqT.of a1, i0, _, _, _, _, true, rfl, .ty _, .base (.str z), kit_ty (by decide +kernel), true, rfl, iteF ?_⟩
      obtain ⟨v, ev, hv⟩ := lF z
      refine ⟨_, rfl, a, _, _, _, rfl, rfl, SqT.of a1, i0, z, v, rfl, rfl, ev, _, rfl, ?_⟩
      rcases hv with ⟨fz, rfl⟩ | ⟨fs, af, fz, rfl, hfs⟩
      · rcases hz with ⟨_, rfl⟩ | ⟨gs, e, _⟩
        · exact iteT (iteT (q _ s1))
        · rw [fz] at e
          cases e
      rcases hz with ⟨e, _⟩ | ⟨gs, e, hz⟩
      · rw [fz] at e
        cases e
      rw [fz] at e
      cases e
      refine iteF ⟨_, rfl, a, _, rfl, .inr (SqT.of a1), _, rfl, a, _, _, _, rfl, rfl, SqT.of a1, i0, dF, z, .ref af, rfl, rfl, ⟨_, _, _, DF.at_, DF.lit, ev, rfl⟩, af, _, rfl, .inr (hfs _), _, _, rfl, rfl, rfl, _, rfl, ?_⟩
      have lnf : ((fs.map V.str).length : Int) = (fs.length : Int) := by rw [List.length_map]
      rcases hz with ⟨hne, hle, rfl⟩ | ⟨ts, hfts, rfl⟩
      · rw [show (!decide (V.int (((V.str z :: r).length : Nat) : Int) = V.int (1 + (((fs.map V.str).length : Nat) : Int)))) = true by
          rw [lnf, decide_eq_false (fun e => by have := V.int.inj e; rw [List.length_cons] at this; omega)]
          rfl]
        exact iteT (q _ s1)
      have lr := hfts.len
      rw [show (!decide (V.int (((V.str z :: r).length : Nat) : Int) = V.int (1 + (((fs.map V.str).length : Nat) : Int)))) = false by
        rw [lnf, decide_eq_true (by rw [List.length_cons]; congr 1; omega)]
        rfl]
      refine iteF ?_
      have lf3 : fs.length ≤ 3 := forms_le fz
      have s10 : HT.sIx (r.length + 1) 0 (some (1 : Int)) = 1 := by
        unfold HT.sIx
        simp
      have ecut : cutV (V.str z :: r) (some (1 : Int)) none = r := by
        unfold cutV
        rw [List.length_cons, s10]
        show ((V.str z :: r).drop 1).take (r.length + 1 - 1) = r
        simp
      refine ⟨_, rfl, _, rfl, a, _, rfl, SqT.of a1, (fun h => by rw [List.length_cons, s10] at h; exact absurd h.1 (by decide)), fun p2 np2 => ?_⟩
      rw [ecut]
      have s2 : Same H1 (upd H1 p2 (.tup r)) := same_nw np2
      have t2 : upd H1 p2 (.tup r) p2 = some (.tup r) := upd_same
      generalize upd H1 p2 (.tup r) = H2 at s2 t2
      refine ⟨_, rfl, a, _, _, _, rfl, rfl, SqT.of (s2 _ _ a1), i0, dF, z, .ref af, rfl, rfl, ⟨_, _, _, DF.at_, DF.lit, ev, rfl⟩, p2, af, r, fs.map V.str, rfl, .inr ⟨SqT.of t2, hfs _, fun D nD => ?_⟩⟩
      have p2D : p2 ≠ D := ne_of_none t2 nD
      refine lc_it (walk_zipT (n := r.length) (by rw [List.length_map]; omega)) (fun i H' => (∀ q o, q ≠ D → H2 q = some o → H' q = some o) ∧ H' D = some (.lst ((ts.take i).map V.bl)))
        ⟨fun q o n e => by rw [upd_ne n]; exact e, upd_same⟩ (fun i H' _ h => ⟨SqT.of (h.1 _ _ p2D t2), hfs _⟩) ?_ ?_
      · rintro i x H3 H4 hi ⟨keep, hD⟩ ⟨T, x1, y1, rfl, nT, rfl, e1, e2⟩
        obtain ⟨v1, f1, t1, g1, g2, g3, ft⟩ := hfts.get hi
        have e1 : r[i]? = some x1 := e1
        have e2 : (fs.map V.str)[i]? = some y1 := e2
        rw [g1] at e1
        have ex : v1 = x1 := Option.some.inj e1
        subst ex
        rw [List.getElem?_map, g2] at e2
        have ey : V.str f1 = y1 := Option.some.inj e2
        subst ey
        have sT : Same H3 (upd H3 T (.tup [v1, .str f1])) := same_nw nT
        have tT : upd H3 T (.tup [v1, .str f1]) T = some (.tup [v1, .str f1]) := upd_same
        generalize upd H3 T (.tup [v1, .str f1]) = H5 at sT tT
        refine ⟨T, _, rfl, SqT.of tT, rfl, _, _, rfl, _, _, rfl, rfl, ?_⟩
        refine ⟨rfl, ?_⟩
        unfold tYes
        have old : ∀ q o, H q = some o → H5 q = some o := fun q o e => sT _ _ (keep q o (ne_of_none (s2 _ _ (s1 _ _ e)) nD) (s2 _ _ (s1 _ _ e)))
        refine iteT ⟨_, rfl, _, rfl, v1, f1, t1, rfl, ft.same old, fun H6 s6 => ?_⟩
        refine ⟨_, s6 _ _ (sT _ _ hD), ?_, ?_, ?_⟩
        · rw [List.length_map, List.length_take]
          exact Nat.lt_of_le_of_lt (Nat.min_le_left _ _) (Nat.lt_of_lt_of_le (show i < 4 by omega) (by decide))
        · intro q o n e
          rw [upd_ne n]
          exact s6 _ _ (sT _ _ (keep q o n e))
        · rw [upd_same, List.take_succ, g3, List.map_append]
          rfl
      · rintro H3 ⟨keep, hD⟩
        rw [List.take_of_length_le (by have := hfts.len2; omega)] at hD
        exact ⟨D, ts, rfl, SqL.of hD, q _ fun q2 o e => keep q2 o (ne_of_none (s2 _ _ (s1 _ _ e)) nD) (s2 _ _ (s1 _ _ e))⟩
end
end Mz
set_option Elab.async false
set_option linter.all false
set_option maxRecDepth 100000
set_option maxHeartbeats 4000000
namespace Mz
open PySem PySem.Spec PyProof.Rows L2
/-! letters, by order and by the alphabet -/
def loC (c : Nat) : Bool := !decide ((⟨#[c]⟩ : Str).cps.toList < ("a" : Str).cps.toList)
def hiC (c : Nat) : Bool := !decide (("z" : Str).cps.toList < (⟨#[c]⟩ : Str).cps.toList)
theorem abc_range : abc.cps.toList = List.range' 97 26 := by decide +kernel
theorem one_lt (a b : Nat) : ([a] : List Nat) < [b] ↔ a < b := by
  rw [List.cons_lt_cons_iff]
  simp
theorem letter_eq (c : Nat) : (loC c && hiC c) = decide (c ∈ abc.cps.toList) := by
  have e1 : loC c = decide (97 ≤ c) := by
    unfold loC
    rw [show ("a" : Str).cps.toList = [97] by decide +kernel]
    show (!decide (([c] : List Nat) < [97])) = _
    rw [decide_eq_decide.mpr (one_lt c 97)]
    by_cases h : c < 97
    · rw [decide_eq_true h, decide_eq_false (by omega)]; rfl
    · rw [decide_eq_false h, decide_eq_true (by omega)]; rfl
  have e2 : hiC c = decide (c ≤ 122) := by
    unfold hiC
    rw [show ("z" : Str).cps.toList = [122] by decide +kernel]
    show (!decide (([122] : List Nat) < [c])) = _
    rw [decide_eq_decide.mpr (one_lt 122 c)]
    by_cases h : 122 < c
    · rw [decide_eq_true h, decide_eq_false (by omega)]; rfl
    · rw [decide_eq_false h, decide_eq_true (by omega)]; rfl
  rw [e1, e2, abc_range, ← Bool.decide_and]
  refine decide_eq_decide.mpr ?_
  rw [List.mem_range'_1]
  omega
theorem dp_strs {K : PySem.W.Frag} {H : Hp} : ∀ l : List Str, DpAll K H (l.map V.str) (l.map PyData.str)
  | [] => .nil
  | z :: l => .cons (.str z) (dp_strs l)
theorem strs_lay : ∀ l : List Str, (∀ z ∈ l, PyData.strOk z = true) → PyData.canLayAll0 (l.map PyData.str) = true ∧ PyData.depthAll (l.map PyData.str) = 0
  | [], _ => ⟨rfl, rfl⟩
  | z :: l, ok => by
    obtain ⟨h1, h2⟩ := strs_lay l fun y hy => ok y (List.mem_cons_of_mem _ hy)
    have h3 := ok z List.mem_cons_self
    rw [List.map_cons]
    refine ⟨?_, ?_⟩
    · simp [PyData.canLayAll0, PyData.canLay0, h1, h3]
    · simp [PyData.depthAll, PyData.depth, h2]
theorem shaped_strs (l : List Str) (ok : ∀ z ∈ l, PyData.strOk z = true) : SeqAt.shaped (.list (l.map PyData.str)) = true := by
  obtain ⟨h1, h2⟩ := strs_lay l ok
  unfold SeqAt.shaped
  simp [PyData.canLay0, PyData.depth, h1, h2]
theorem eqv_nil {xs : List PyData} : PyData.eqv (.list xs) (.list []) = xs.isEmpty := by
  cases xs <;> rfl
end Mz
set_option Elab.async false
set_option linter.all false
set_option maxRecDepth 100000
set_option maxHeartbeats 4000000
namespace Mz
open PySem PySem.Spec PyProof.Rows L2
theorem Kp.same {H H' : Hp} {b : Addr} (s : Same H H') : Kp b H H' := fun p o _ e => s p o e
theorem Bx.same {H H' : Hp} {b : Addr} {n : Nat} (s : Same H H') (h : Bx H b n) : Bx H' b n := by
  obtain ⟨x, y, z, e, r⟩ := h
  exact ⟨x, y, z, s _ _ e, r⟩
theorem app_nil {z : Str} : (z ++ "" : Str) = z := str_ext (by rw [app_list]; exact List.append_nil _)
theorem nil_list : ("" : Str).cps.toList = [] := by decide +kernel
theorem join_list : ∀ cs : List Nat, (Str.join "" (cs.map fun c => (⟨#[c]⟩ : Str))).cps.toList = cs
  | [] => rfl
  | [c] => rfl
  | c :: d :: r => by
    show ((⟨#[c]⟩ : Str) ++ "" ++ Str.join "" ((d :: r).map fun c => (⟨#[c]⟩ : Str))).cps.toList = _
    rw [app_list, app_list, join_list (d :: r), nil_list, List.append_nil]
    rfl
/-- a text of up to n letters -/
def Az (n : Nat) (z : Str) : Prop := z.length ≤ n ∧ ∀ c ∈ z.cps.toList, c ∈ abc.cps.toList
theorem Az.sm {n : Nat} {z : Str} (h : Az n z) : Sm n z := ⟨h.1, strOk_iff.mpr fun c hc => by
  have := h.2 c hc
  revert this
  rw [abc_range]
  intro x
  have := List.mem_range'_1.mp x
  omega⟩
theorem Az.app {n m : Nat} {y z : Str} (hy : Az n y) (hz : Az m z) : Az (n + m) (y ++ z) := by
  refine ⟨by rw [strLen_append]; exact Nat.add_le_add hy.1 hz.1, fun c hc => ?_⟩
  rw [cps_app] at hc
  rcases List.mem_append.mp hc with h | h
  · exact hy.2 c h
  · exact hz.2 c h
theorem Az.cut {n : Nat} {z : Str} (h : Az n z) (lo hi : Option Int) : Az n (cutS z lo hi) := by
  refine ⟨Nat.le_trans (cutS_length z lo hi) h.1, fun c hc => ?_⟩
  unfold cutS at hc
  exact h.2 c (List.mem_of_mem_drop (List.mem_of_mem_take (by simpa using hc)))
theorem Az.one {c : Nat} (h : c ∈ abc.cps.toList) : Az 1 ⟨#[c]⟩ := ⟨Nat.le_refl _, fun d hd => by
  have : d = c := by simpa using hd
  rw [this]
  exact h⟩
theorem Az.name {z : Str} (h : Az 6 z) (h1 : 1 ≤ z.length) : nameS z = true := by
  show ((decide (1 ≤ (z.length : Int)) && decide ((z.length : Int) ≤ 6)) && z.cps.toList.all fun c => decide (c ∈ abc.cps.toList)) = true
  have h6 := h.1
  rw [decide_eq_true (by omega), decide_eq_true (by omega)]
  show (z.cps.toList.all fun c => decide (c ∈ abc.cps.toList)) = true
  rw [List.all_eq_true]
  exact fun c hc => decide_eq_true (h.2 c hc)
structure Tk (P : Program) (w : World) (K : PySem.W.Frag) (mg : Str → Option Value) (base : Heap) (f : Addr) (fd : FuncData) : Prop where
  ok : FnOk P w K mg base CX0 1 f fd ["_law_box_here", "_law_many"] spTake
  m : mg "_law_take" = some (.ref f)
  k : PySem.W.keepIn K (.ref f) = true
  b : Binds K fd ["_law_box_here", "_law_many"] []
def spWord (K : PySem.W.Frag) : Sp := fun vs H Q _ => ∃ (b : Addr) (n : Nat), vs = [.ref b] ∧ Bx H b n ∧ n ≤ 900000 ∧ ∀ (z : Str) (H' : Hp), Wd z → Bx H' b (n + 8) → Kp b H H' → Q (.str z) H'
section
variable {P : Program} {w : World} {K : PySem.W.Frag} {mg : Str → Option Value} {base : Heap}
theorem scWord : FnScope ["_law_box_here", "_law_letters", "_law_word_here", "_law_k"] ["_law_box_here"] (defScope sWord) := ⟨rfl, rfl, rfl, by decide +kernel, rfl, by decide +kernel, by decide +kernel⟩
theorem ok_word {f f1 : Addr} {fd fd1 : FuncData} (F : Fun K "_law_word" "_law_word" sWord f fd) (T : Tk P w K mg base f1 fd1) (B : Blt mg) : FnOk P w K mg base CX0 2 f fd ["_law_box_here"] (spWord K) := by
  refine F.ok scWord (fun vs H Q E h => ?_) (fun cdv A outer s H vs Q E hr h => ?_)
  · obtain ⟨b, n, rfl, _⟩ := h
    rfl
  · obtain ⟨b, n, rfl, hB, hn, q⟩ := h
    have nd := scWord.nd
    refine ⟨_, (pss_cons (ps_set (i := 1) nd rfl (Or.inr rfl) pe_str)
      (pss_cons (ps_set (i := 2) nd rfl (Or.inl rfl) (pe_join pe_str (pe_lc (own := [("_law_k", 3)]) (g := gName 3) (tt := tYes) rfl nd (pi_range1 rfl B.range (pa_cons (pe_op op_add pe_int (pe_call T.ok hr (by rfl) T.m T.k T.b .nil pass0 (pa_cons (pv 0) (pa_cons pe_int pa_nil)))) pa_nil)) (blkOk_by (N := ["_law_box_here", "_law_letters", "_law_word_here", "_law_k"]) (sc := defScope sWord) (by decide +kernel)) (fun _ _ _ _ _ => (pg_name (i := 3) nd rfl (Or.inl rfl))) (fun _ _ _ _ _ => pts_nil) (fun _ _ _ _ _ => (pe_ix ix_str (pv 1) (pe_call T.ok hr (by rfl) T.m T.k T.b .nil pass0 (pa_cons (pv 0) (pa_cons pe_int pa_nil))) (fun _ _ => rfl))))))
      (pss_one (ps_ret (pe_ifExp (pt_cmpR op_in_seq (pv 2) (pe_tup (pa_cons pe_str (pa_cons pe_str (pa_cons pe_str (pa_cons pe_str (pa_cons pe_str (pa_cons pe_str (pa_cons pe_str pa_nil)))))))) (by rfl)) (pe_op op_add_str pe_str (pe_slice sl_str (pv 2) (po_some pe_int) po_none)) (pv 2)))))), ?_⟩
    have off : ∀ {G : Hp} {p b : Addr} {m : Nat}, Bx G b m → G p = none → p ≠ b := fun hb hp => by
      obtain ⟨_, _, _, e, _⟩ := hb
      exact (ne_of_none e hp).symm
    have one : ∀ {H1 : Hp} {p : Addr} (o : HO), H1 p = none → ∃ H2, H2 = upd H1 p o ∧ Same H1 H2 ∧ H2 p = some o := fun o n => ⟨_, rfl, same_nw n, upd_same⟩
    refine ⟨⟨_, rfl⟩, _, rfl, b, n, 6, rfl, hB, by omega, by decide, by decide, fun r H3 r0 r1 B3 K3 => ?_⟩
    refine ⟨_, _, rfl, rfl, _, rfl, by omega, by omega, fun D hD => ?_⟩
    have nb : D ≠ b := off B3 hD
    refine lc_range (lo := 0) (n := (1 + r).toNat) (fun i H' => Bx H' b (n + 1 + i) ∧ Kp b H3 H' ∧ ∃ cs : List Nat, cs.length = i ∧ (∀ c ∈ cs, c ∈ abc.cps.toList) ∧ H' D = some (.lst ((cs.map fun c => (⟨#[c]⟩ : Str)).map V.str)))
      ⟨B3.upd hD, Kp.fresh hD, [], rfl, fun _ h => (nomatch h), upd_same⟩ ?_ ?_
    · rintro i H4 hi ⟨B4, K4, cs, ely, hcs, hl⟩
      refine ⟨rfl, ?_⟩
      unfold tYes
      refine iteT ⟨_, rfl, _, rfl, b, n + 1 + i, 26, rfl, B4, by omega, by decide, by decide, fun c H5 c0 c1 B5 K5 => ?_⟩
      obtain ⟨g, hg, hm⟩ := atI_in (l := abc.cps.toList) c0 c1
      have hl3 := K5 D _ nb hl
      refine ⟨abc, c, g, rfl, rfl, (by decide +kernel), hg, _, hl3, by rw [List.length_map, List.length_map, ely]; exact Nat.lt_of_lt_of_le (by omega) (show 9 ≤ sizeLine by decide), ?_⟩
      refine ⟨?_, ?_, cs ++ [g], by rw [List.length_append, ely]; rfl, ?_, by rw [List.map_append, List.map_append]; exact upd_same⟩
      · obtain ⟨x, y, z, e, h⟩ := B5
        exact ⟨x, y, z, by rw [upd_ne nb.symm]; exact e, h⟩
      · intro p o np e
        have pD : p ≠ D := ne_of_none e hD
        rw [upd_ne pD]
        exact K5 p o np (K4 p o np e)
      · intro y hy
        rcases List.mem_append.mp hy with h | h
        · exact hcs y h
        · rw [List.mem_singleton.mp h]
          exact hm
    · rintro H4 ⟨B4, K4, cs, ely, hcs, hl⟩
      have ones : ∀ y ∈ cs.map fun c => (⟨#[c]⟩ : Str), Sm 1 y := fun y hy => by
        obtain ⟨c, hc, rfl⟩ := List.mem_map.mp hy
        exact sm_sign (z := abc) (by decide +kernel) (hcs c hc)
      have ej : (Txt.join "" (cs.map fun c => (⟨#[c]⟩ : Str))).cps.toList = cs := by
        unfold Txt.join
        rw [StrLaws.glued_eq_join, join_list]
      refine ⟨"", D, _, rfl, rfl, .inl (SqL.of hl), ?_, ?_⟩
      · have e2 := sum_ones _ ones
        have e3 : (cs.map fun c => (⟨#[c]⟩ : Str)).length * ("" : Str).length = 0 := by
          rw [show ("" : Str).length = 0 by decide +kernel, Nat.mul_zero]
        rw [List.length_map] at e2
        omega
      generalize Txt.join "" (cs.map fun c => (⟨#[c]⟩ : Str)) = z at ej
      have az : Az 6 z := ⟨by rw [← len_cps, ej]; omega, fun c hc => hcs c (by rw [ej] at hc; exact hc)⟩
      have l1 : 1 ≤ z.length := by rw [← len_cps, ej]; omega
      have nz := az.name l1
      refine ⟨_, rfl, (by show 7 ≤ sizeLine; decide), fun pt npt => ?_⟩
      obtain ⟨H5, e, s5, t5⟩ := one (.tup noMarks) npt
      rw [show (upd H4 pt (.tup [V.str "old", V.str "zero", V.str "end", V.str "fails", V.str "more", V.str "done", V.str "none"])) = H5 from e.symm]
      clear e
      have Kf : Kp b H H5 := K3.trans (K4.trans (Kp.same s5))
      have Bf : Bx H5 b (n + 8) := (B4.same s5).more (by omega)
      refine ⟨pt, noMarks, rfl, .inr (SqT.of t5), rfl, rfl, _, rfl, ite2 (fun hin => ?_) (fun hin => ?_)⟩
      · have hz : z ∈ (["old", "zero", "end", "fails", "more", "done", "none"] : List Str) := by
          have hin : (noMarks.any fun y => eqV y (.str z)) = true := hin
          obtain ⟨y, hy, e⟩ := List.any_eq_true.mp hin
          have e : eqV y (.str z) = true := e
          simp only [noMarks, List.mem_cons, List.not_mem_nil, or_false] at hy
          rcases hy with rfl | rfl | rfl | rfl | rfl | rfl | rfl
          all_goals
            have e2 := (beq_iff_eq.mp (show (_ == z) = true from e))
            rw [← e2]
            decide +kernel
        have all : ∀ z ∈ (["old", "zero", "end", "fails", "more", "done", "none"] : List Str), Wd ("q" ++ cutS z (some 1) none) ∧ ("q" : Str).length + (cutS z (some 1) none).length ≤ sizeLine := by
          unfold Wd Sm
          decide +kernel
        obtain ⟨w1, w2⟩ := all z hz
        exact ⟨_, rfl, _, rfl, z, rfl, Nat.le_trans az.1 (by decide), _, _, rfl, rfl, w2, q _ H5 w1 Bf Kf⟩
      · refine ⟨_, rfl, q z H5 ⟨nz, ?_, az.sm.mono (by decide)⟩ Bf Kf⟩
        show (nameS z && !inV (.str z) noMarks) = true
        rw [nz, Bool.true_and]
        have : inV (.str z) noMarks = false := Bool.eq_false_iff.mpr hin
        rw [this]
        rfl
end
end Mz
set_option Elab.async false
set_option linter.all false
set_option maxRecDepth 100000
set_option maxHeartbeats 4000000
namespace Mz
open PySem PySem.Spec PyProof.Rows L2
/-- a def that the law calls -/
structure C1 (P : Program) (w : World) (K : PySem.W.Frag) (mg : Str → Option Value) (base : Heap) (x : Str) (k : Nat) (ps : List Str) (sp : Sp) (f : Addr) (fd : FuncData) : Prop where
  ok : FnOk P w K mg base CX0 k f fd ps sp
  m : mg x = some (.ref f)
  k : PySem.W.keepIn K (.ref f) = true
  b : Binds K fd ps []
/-- lists and tuples are no places, a place is neither an int nor a str -/
structure Npx (K : PySem.W.Frag) (C : Addr) : Prop where
  lst : PySem.W.kitOne K (.type "list") (.ref C) = some false
  tup : PySem.W.kitOne K (.type "tuple") (.ref C) = some false
  ki : PySem.W.kitOne K (.ref C) (.type "int") = some false
  ks : PySem.W.kitOne K (.ref C) (.type "str") = some false
  kt : PySem.W.kitOne K (.ref C) (.type "tuple") = some false
section
variable {K : PySem.W.Frag} {C : Addr} {H : Hp} {p : Addr} {z : Str}
theorem ft_ps (N : Npl K C) {t : Bool} (h : Sm 1000 z) (e : (partsS z).isSome = t) : Ft K C H (.str z) "place" t := ⟨.str z h.1 h.2, .inl ⟨rfl, .inr ⟨⟨_, .base (.str z), N.str⟩, e.symm⟩⟩⟩
theorem ft_pi (N : Npl K C) {i : Int} {t : Bool} (e : (ofV (.int i)).isSome = t) : Ft K C H (.int i) "place" t := ⟨.int i, .inl ⟨rfl, .inr ⟨⟨_, .base (.int i), N.int⟩, e.symm⟩⟩⟩
theorem kd_lst {l : List V} (h : H p = some (.lst l)) : Kd K H (.ref p) := .oth p _ (.base (.lst h)) (kit_ty (by decide +kernel)) (kit_ty (by decide +kernel))
theorem kd_tup {l : List V} (h : H p = some (.tup l)) : Kd K H (.ref p) := .oth p _ (.base (.tup h)) (kit_ty (by decide +kernel)) (kit_ty (by decide +kernel))
theorem kd_pl (Y : Pty K C) (X : Npx K C) {k : Int} (h : Pl C H p z k) : Kd K H (.ref p) := .oth p _ (h.ty Y) X.ki X.ks
end
theorem parts_word {w : Str} (hw : Wd w) : (partsS w).isSome = true := by
  have e := parts_sfx hw.1 (k := 0) (by decide) (by decide)
  have e2 : w ++ sfx 0 = w := str_ext (by rw [app_list]; exact List.append_nil _)
  rw [e2] at e
  rw [e]
  rfl
theorem parts_sign {w : Str} (hw : Wd w) {c : Nat} (h : 49 ≤ c ∧ c ≤ 51) : (partsS (w ++ "+" ++ ⟨#[c]⟩)).isSome = true ∧ (partsS (w ++ "-" ++ ⟨#[c]⟩)).isSome = true := by
  have two : ∀ (a b : Str) (k : Int), a.cps.toList ++ b.cps.toList = (sfx k).cps.toList → -3 ≤ k → k ≤ 3 → (partsS (w ++ a ++ b)).isSome = true := fun a b k e k0 k1 => by
    have e2 : w ++ a ++ b = w ++ sfx k := str_ext (by rw [app_list, app_list, app_list, List.append_assoc, e])
    rw [e2, parts_sfx hw.1 k0 k1]
    rfl
  have : c = 49 ∨ c = 50 ∨ c = 51 := by omega
  rcases this with rfl | rfl | rfl
  · exact ⟨two _ _ 1 (by decide +kernel) (by decide) (by decide), two _ _ (-1) (by decide +kernel) (by decide) (by decide)⟩
  · exact ⟨two _ _ 2 (by decide +kernel) (by decide) (by decide), two _ _ (-2) (by decide +kernel) (by decide) (by decide)⟩
  · exact ⟨two _ _ 3 (by decide +kernel) (by decide) (by decide), two _ _ (-3) (by decide +kernel) (by decide) (by decide)⟩
theorem sm_shift {w : Str} (hw : Wd w) {c : Nat} (h : c ≤ 122) : Sm 1000 (w ++ "+" ++ ⟨#[c]⟩) ∧ Sm 1000 (w ++ "-" ++ ⟨#[c]⟩) := by
  have s1 : Sm 1 (⟨#[c]⟩ : Str) := ⟨Nat.le_refl _, strOk_iff.mpr fun d hd => by
    have : d = c := by simpa using hd
    omega⟩
  have s2 : Sm 1 ("+" : Str) ∧ Sm 1 ("-" : Str) := by
    unfold Sm
    decide +kernel
  exact ⟨((hw.2.2.app s2.1).app s1).mono (by decide), ((hw.2.2.app s2.2).app s1).mono (by decide)⟩
theorem mark_name {v : V} (h : nameV v = false) : markV v = false := by
  cases v with
  | str z =>
    show (nameS z && !inV (.str z) noMarks) = false
    rw [show nameS z = false from h, Bool.false_and]
  | _ => rfl
theorem ft_odd {K : PySem.W.Frag} {C : Addr} {H : Hp} {v : V} {form : Str} (hk : Kd K H v) (h : nameV v = false) (hf : form = "mark" ∨ form = "name") : Ft K C H v form false := ⟨hk, .inr (hf.imp (fun e => ⟨e, (mark_name h).symm⟩) fun e => ⟨e, h.symm⟩)⟩
def LetF (l form : Str) : Prop := (l = "p" ∧ form = "place") ∨ (l = "m" ∧ form = "mark") ∨ (l = "n" ∧ form = "name")
def spItem (K : PySem.W.Frag) (C : Addr) : Sp := fun vs H Q _ => ∃ (b : Addr) (n : Nat) (l form : Str), vs = [.ref b, .str l] ∧ LetF l form ∧ Bx H b n ∧ n ≤ 900000 ∧
  ∀ (p : Addr) (v : V) (t : Bool) (H' : Hp), Ft K C H' v form t → (∀ a, v = .ref a → a ≠ b ∧ H a = none) → H' p = some (.lst [v, .bl t]) → H p = none → p ≠ b → Bx H' b (n + 30) → Kp b H H' → Q (.ref p) H'
section
variable {P : Program} {w : World} {K : PySem.W.Frag} {mg : Str → Option Value} {base : Heap}
theorem scItem : FnScope ["_law_box_here", "_law_letter", "_law_word_here", "_law_sure", "_law_some", "_law_odd"] ["_law_box_here", "_law_letter"] (defScope sItem) := ⟨rfl, rfl, rfl, by decide +kernel, rfl, by decide +kernel, by decide +kernel⟩
theorem ok_item {f f1 fW fI C : Addr} {fd fd1 fdW fdI : FuncData} {ds : List Value} {g2 : List Value → List Value → List Value} (F : Fun K "_law_item" "_law_item" sItem f fd) (T : Tk P w K mg base f1 fd1) (GW : C1 P w K mg base "_law_word" 2 ["_law_box_here"] (spWord K) fW fdW) (B : Blt mg) (Z : Cpl K mg C) (M : Mk K C fI) (Nn : Npl K C) (X : Npx K C) (Y : Pty K C)
    (GI : FnOk P w K mg base CX0 3 fI fdI ["self", "base", "shift"] (spInit C)) (hds : Vals [.int 0] ds) (bI : Binds K fdI ["self", "base", "shift"] ds) (kI2 : KBn K fdI ["self", "base", "shift"] 2 ["shift"] g2 (fun vs zs => vs ++ zs)) : FnOk P w K mg base CX0 5 f fd ["_law_box_here", "_law_letter"] (spItem K C) := by
  refine F.ok scItem (fun vs H Q E h => ?_) (fun cdv A outer s H vs Q E hr h => ?_)
  · obtain ⟨b, n, l, form, rfl, _⟩ := h
    rfl
  · obtain ⟨b, n, l, form, rfl, hl, hB, hn, q⟩ := h
    have nd := scItem.nd
    have hr1 : Room 1 _ := hr.mono (by decide)
    have hr2 : Room 2 _ := hr.mono (by decide)
    have hr4 : Room 4 _ := hr.mono (by decide)
    refine ⟨_, (pss_cons (ps_set (i := 2) nd rfl (Or.inl rfl) (pe_call GW.ok hr2 (by rfl) GW.m GW.k GW.b .nil pass0 (pa_cons (pv 0) pa_nil)))
      (pss_cons (ps_set (i := 3) nd rfl (Or.inl rfl) (pe_cmpR op_gt (pe_call T.ok hr1 (by rfl) T.m T.k T.b .nil pass0 (pa_cons (pv 0) (pa_cons pe_int pa_nil))) pe_int (nomark _)))
      (pss_cons (ps_if (pt_cmpR op_eq (pv 1) pe_str (nomark _)) (pss_cons (ps_set (i := 4) nd rfl (Or.inl rfl) (pe_lst (pa_cons (pv 2) (pa_cons (pe_op op_add_str (pe_op op_add_str (pv 2) pe_str) (pe_ix ix_str pe_str (pe_call T.ok hr1 (by rfl) T.m T.k T.b .nil pass0 (pa_cons (pv 0) (pa_cons pe_int pa_nil))) (fun _ _ => rfl))) (pa_cons (pe_op op_add_str (pe_op op_add_str (pv 2) pe_str) (pe_ix ix_str pe_str (pe_call T.ok hr1 (by rfl) T.m T.k T.b .nil pass0 (pa_cons (pv 0) (pa_cons pe_int pa_nil))) (fun _ _ => rfl))) pa_nil)))))
      (pss_cons (ps_set (i := 4) nd rfl (Or.inl rfl) (pe_op op_cat (pv 4) (pe_lst (pa_cons (pe_call T.ok hr1 (by rfl) T.m T.k T.b .nil pass0 (pa_cons (pv 0) (pa_cons pe_int pa_nil))) (pa_cons (pe_makeK M GI hr4 (by rfl) Z.mgC kI2 pass0 (pa_cons (pv 2) pa_nil) (pk_cons (pe_op op_sub (pe_call T.ok hr1 (by rfl) T.m T.k T.b .nil pass0 (pa_cons (pv 0) (pa_cons pe_int pa_nil))) pe_int) pk_nil)) (pa_cons (pe_ix ix_str pe_str (pe_call T.ok hr1 (by rfl) T.m T.k T.b .nil pass0 (pa_cons (pv 0) (pa_cons pe_int pa_nil))) (fun _ _ => rfl)) pa_nil))))))
      (pss_cons (ps_set (i := 5) nd rfl (Or.inl rfl) (pe_lst (pa_cons (pe_op op_add_str (pv 2) pe_str) (pa_cons (pe_op op_add_str (pv 2) pe_str) (pa_cons (pe_op op_add_str (pv 2) pe_str) (pa_cons pe_str (pa_cons pe_int (pa_cons (pe_op op_sub pe_int pe_int) (pa_cons pe_bl (pa_cons pe_non (pa_cons (pe_lst (pa_cons pe_int pa_nil)) (pa_cons (pe_op op_add_str pe_str (pv 2)) (pa_cons (pe_op op_add_str (pv 2) pe_str) pa_nil)))))))))))))
      (pss_cons (ps_set (i := 5) nd rfl (Or.inl rfl) (pe_op op_cat (pv 5) (pe_lst (pa_cons (pe_op op_add_str pe_str (pv 2)) (pa_cons (pe_upper (pv 2)) (pa_cons (pe_op op_add_str (pv 2) pe_str) (pa_cons (pe_op op_add_str (pv 2) pe_str) (pa_cons (pe_tup (pa_cons (pv 2) pa_nil)) (pa_cons pe_str (pa_cons (pe_op op_mul_str (pv 2) pe_int) pa_nil))))))))))
      (pss_one (ps_ret (pe_ifExp (pt_val (pv 3)) (pe_lst (pa_cons (pe_ix ix_list (pv 4) (pe_call T.ok hr1 (by rfl) T.m T.k T.b .nil pass0 (pa_cons (pv 0) (pa_cons pe_int pa_nil))) (fun _ _ => rfl)) (pa_cons pe_bl pa_nil))) (pe_lst (pa_cons (pe_ix ix_list (pv 5) (pe_call T.ok hr1 (by rfl) T.m T.k T.b .nil pass0 (pa_cons (pv 0) (pa_cons pe_int pa_nil))) (fun _ _ => rfl)) (pa_cons pe_bl pa_nil)))))))))) pss_nil)
      (pss_cons (ps_set (i := 5) nd rfl (Or.inl rfl) (pe_lst (pa_cons pe_str (pa_cons (pe_op op_add_str (pv 2) pe_str) (pa_cons (pe_upper (pv 2)) (pa_cons (pe_op op_add_str (pv 2) pe_str) (pa_cons pe_non (pa_cons pe_int (pa_cons (pe_lst (pa_cons (pv 2) pa_nil)) (pa_cons (pe_op op_mul_str (pv 2) pe_int) (pa_cons (pe_make M GI hr4 (by rfl) Z.mgC bI hds pass0 (pa_cons (pv 2) pa_nil)) (pa_cons (pe_op op_add_str pe_str (pv 2)) pa_nil))))))))))))
      (pss_cons (ps_if (pt_cmpR op_eq (pv 1) pe_str (nomark _)) (pss_one (ps_set (i := 5) nd rfl (Or.inl rfl) (pe_op op_cat (pv 5) (pe_lst (pa_cons pe_str (pa_cons pe_str (pa_cons pe_str (pa_cons pe_str (pa_cons pe_str (pa_cons pe_str (pa_cons pe_str pa_nil))))))))))) (pss_one (ps_set (i := 2) nd rfl (Or.inl rfl) (pe_ix ix_list (pe_lst (pa_cons pe_str (pa_cons pe_str (pa_cons (pv 2) (pa_cons (pv 2) pa_nil))))) (pe_call T.ok hr1 (by rfl) T.m T.k T.b .nil pass0 (pa_cons (pv 0) (pa_cons pe_int pa_nil))) (fun _ _ => rfl)))))
      (pss_one (ps_ret (pe_ifExp (pt_val (pv 3)) (pe_lst (pa_cons (pv 2) (pa_cons pe_bl pa_nil))) (pe_lst (pa_cons (pe_ix ix_list (pv 5) (pe_call T.ok hr1 (by rfl) T.m T.k T.b .nil pass0 (pa_cons (pv 0) (pa_cons (pe_callB call_len_seq (by rfl) B.len PySem.boot_len (pa_cons (pv 5) pa_nil)) pa_nil))) (fun _ _ => rfl)) (pa_cons pe_bl pa_nil))))))))))), ?_⟩
    have off : ∀ {G : Hp} {p b : Addr} {m : Nat}, Bx G b m → G p = none → p ≠ b := fun hb hp => by
      obtain ⟨_, _, _, e, _⟩ := hb
      exact (ne_of_none e hp).symm
    have one : ∀ {H1 : Hp} {p : Addr} (o : HO), H1 p = none → ∃ H2, H2 = upd H1 p o ∧ Same H1 H2 ∧ H2 p = some o := fun o n => ⟨_, rfl, same_nw n, upd_same⟩
    have big : 10000 ≤ sizeLine := by decide
    have free : ∀ {G : Hp} {q : Addr}, Kp b H G → G q = none → q ≠ b → H q = none := fun {G q} kp e nq => by
      cases x : H q with
      | none => rfl
      | some o =>
        rw [kp q o nq x] at e
        cases e
    -- the end: a value and whether it stands there
    have fin : ∀ (v : V) (t : Bool) (G : Hp), Ft K C G v form t → (∀ a, v = .ref a → a ≠ b ∧ H a = none) → Bx G b (n + 30) → Kp b H G → 2 ≤ sizeLine ∧ ∀ p, G p = none → Q (.ref p) (upd G p (.lst [v, .bl t])) := fun v t G ft fr bx kp => ⟨(by decide), fun p np =>
      q p v t _ (ft.same (same_nw np)) fr upd_same (free kp np (off bx np)) (off bx np) (bx.same (same_nw np)) (kp.trans (Kp.same (same_nw np)))⟩
    refine ⟨_, rfl, b, n, rfl, hB, by omega, fun w0 H1 hw B1 K1 => ?_⟩
    have wl : w0.length ≤ 10 := hw.2.2.1
    have wl1 : 1 ≤ w0.length := (name_len hw.1).1
    refine ⟨_, rfl, b, n + 8, 5, rfl, B1, by omega, by decide, by decide, fun r H2 r0 r1 B2 K2 => ⟨_, _, rfl, rfl, ?_⟩⟩
    generalize decide (r > 0) = sure
    have K02 := K1.trans K2
    clear K1 K2
    have txt : ∀ {s : Str}, s.length ≤ 10 → w0.length + s.length ≤ sizeLine ∧ s.length + w0.length ≤ sizeLine := fun h => ⟨by omega, by omega⟩
    rcases hl with ⟨rfl, rfl⟩ | hl
    · refine ⟨_, rfl, rfl, _, rfl, ?_⟩
      rw [decide_eq_true rfl]
      refine iteT ?_
      have d123 : ∀ c ∈ ("123" : Str).cps.toList, 49 ≤ c ∧ c ≤ 51 := by decide +kernel
      refine ⟨_, rfl, _, rfl, _, _, rfl, rfl, (txt (by decide +kernel)).1, _, rfl, b, n + 9, 3, rfl, B2, by omega, by decide, by decide, fun r3 H3 a3 b3 B3 K3 => ?_⟩
      obtain ⟨c3, hc3, hm3⟩ := atI_in (l := ("123" : Str).cps.toList) a3 b3
      have l1 : (w0 ++ "+" : Str).length + (⟨#[c3]⟩ : Str).length ≤ sizeLine := by rw [strLen_append]; show w0.length + 1 + 1 ≤ sizeLine; omega
      refine ⟨"123", _, c3, rfl, rfl, (by decide +kernel), hc3, _, _, rfl, rfl, l1, _, rfl, _, _, rfl, rfl, (txt (by decide +kernel)).1, _, rfl, b, n + 10, 3, rfl, B3, by omega, by decide, by decide, fun r4 H4 a4 b4 B4 K4 => ?_⟩
      obtain ⟨c4, hc4, hm4⟩ := atI_in (l := ("123" : Str).cps.toList) a4 b4
      have l2 : (w0 ++ "-" : Str).length + (⟨#[c4]⟩ : Str).length ≤ sizeLine := by rw [strLen_append]; show w0.length + 1 + 1 ≤ sizeLine; omega
      refine ⟨"123", _, c4, rfl, rfl, (by decide +kernel), hc4, _, _, rfl, rfl, l2, (by show 3 ≤ sizeLine; decide), fun p1 n1 => ?_⟩
      obtain ⟨H5, e, s5, t5⟩ := one (.lst [V.str w0, V.str (w0 ++ "+" ++ ⟨#[c3]⟩), V.str (w0 ++ "-" ++ ⟨#[c4]⟩)]) n1
      rw [← e]
      clear e
      have B5 := B4.same s5
      have p1b := off B4 n1
      refine ⟨_, rfl, _, rfl, b, n + 11, 4, rfl, B5, by omega, by decide, by decide, fun r6 H6 a6 b6 B6 K6 => ?_⟩
      refine ⟨_, rfl, _, rfl, b, n + 12, 7, rfl, B6, by omega, by decide, by decide, fun r7 H7 a7 b7 B7 K7 => ⟨_, _, rfl, rfl, rfl, rfl, fun x dx nx ndx _ => ?_⟩⟩
      refine ⟨x, dx, w0, r7 - 3, rfl, upd_same, by omega, hw.2.2.2, .inr hw.1, by unfold lowS; split <;> first | omega | (rename_i e0; rw [e0] at wl1; exact absurd wl1 (by decide +kernel)), by omega, fun H8 u8 t8 => ⟨rfl, ?_⟩⟩
      have s8 : Same H7 H8 := fun r o h => u8 r o (ne_of_none h nx) (by
        rw [upd_ne (ne_of_none h nx), upd_ne (ne_of_none h ndx)]
        exact h)
      have xb := off B7 nx
      have B8 := B7.same s8
      refine ⟨_, rfl, b, n + 13, 4, rfl, B8, by omega, by decide, by decide, fun r9 H9 a9 b9 B9 K9 => ?_⟩
      obtain ⟨c9, hc9, hm9⟩ := atI_in (l := ("0123" : Str).cps.toList) a9 b9
      refine ⟨"0123", _, c9, rfl, rfl, (by decide +kernel), hc9, (by show 3 ≤ sizeLine; decide), fun p2 n2 => ?_⟩
      obtain ⟨H10, e, s10, t10⟩ := one (.lst [V.int r6, V.ref x, V.str ⟨#[c9]⟩]) n2
      rw [← e]
      clear e
      have K59 : Kp b H5 H10 := K6.trans (K7.trans ((Kp.same s8).trans (K9.trans (Kp.same s10))))
      refine ⟨_, _, _, _, rfl, rfl, K59 _ _ p1b t5, t10, (by show 6 ≤ sizeLine; decide), fun p3 n3 => ?_⟩
      obtain ⟨H11, e, s11, t11⟩ := one (.lst ([V.str w0, V.str (w0 ++ "+" ++ ⟨#[c3]⟩), V.str (w0 ++ "-" ++ ⟨#[c4]⟩)] ++ [V.int r6, V.ref x, V.str ⟨#[c9]⟩])) n3
      rw [← e]
      clear e
      have B11 := (B9.same s10).same s11
      have p3b := off (B9.same s10) n3
      have x11 : Pl C H11 x w0 (r7 - 3) := ⟨dx, s11 _ _ (s10 _ _ (K9 _ _ xb t8))⟩
      -- what stands for no place
      have lw : ∀ s : Str, s.length ≤ 10 → w0.length + s.length ≤ sizeLine := fun s h => (txt h).1
      have rw_ : ∀ s : Str, s.length ≤ 10 → s.length + w0.length ≤ sizeLine := fun s h => (txt h).2
      refine ⟨_, rfl, _, _, rfl, rfl, lw _ (by decide +kernel), _, rfl, _, _, rfl, rfl, lw _ (by decide +kernel), _, rfl, _, _, rfl, rfl, lw _ (by decide +kernel), _, _, rfl, rfl, (by show 1 ≤ sizeLine; decide), fun q1 m1 => ?_⟩
      obtain ⟨H12, e, s12, t12⟩ := one (.lst [V.int 0]) m1
      rw [← e]
      clear e
      refine ⟨_, rfl, _, _, rfl, rfl, rw_ _ (by decide +kernel), _, rfl, _, _, rfl, rfl, lw _ (by decide +kernel), (by show 11 ≤ sizeLine; decide), fun q2 m2 => ?_⟩
      obtain ⟨H13, e, s13, t13⟩ := one (.lst [V.str (w0 ++ "+4"), V.str (w0 ++ "+0"), V.str (w0 ++ "-"), V.str "", V.int 4, V.int (0 - 1), V.bl true, V.non, V.ref q1, V.str (" " ++ w0), V.str (w0 ++ "+1 ")]) m2
      rw [← e]
      clear e
      refine ⟨_, rfl, _, rfl, _, _, rfl, rfl, rw_ _ (by decide +kernel), _, rfl, ⟨_, rfl⟩, _, rfl, rfl, by omega, _, rfl, _, _, rfl, rfl, lw _ (by decide +kernel), _, rfl, _, _, rfl, rfl, lw _ (by decide +kernel), _, rfl, (by show 1 ≤ sizeLine; decide), fun q3 m3 => ?_⟩
      obtain ⟨H14, e, s14, t14⟩ := one (.tup [V.str w0]) m3
      rw [← e]
      clear e
      refine ⟨_, rfl, _, _, rfl, rfl, by decide, by decide, wl1, by omega, (by show 7 ≤ sizeLine; decide), fun q4 m4 => ?_⟩
      obtain ⟨H15, e, s15, t15⟩ := one (.lst [V.str ("1+" ++ w0), V.str (Txt.upper w0), V.str (w0 ++ "+01"), V.str (w0 ++ "
"), V.ref q3, V.str "4", V.str (repS w0 (7 : Int).toNat)]) m4
      rw [← e]
      clear e
      refine ⟨_, _, _, _, rfl, rfl, s15 _ _ (s14 _ _ t13), t15, (by show 18 ≤ sizeLine; decide), fun q5 m5 => ?_⟩
      obtain ⟨H16, e, s16, t16⟩ := one (.lst ([V.str (w0 ++ "+4"), V.str (w0 ++ "+0"), V.str (w0 ++ "-"), V.str "", V.int 4, V.int (0 - 1), V.bl true, V.non, V.ref q1, V.str (" " ++ w0), V.str (w0 ++ "+1 ")] ++ [V.str ("1+" ++ w0), V.str (Txt.upper w0), V.str (w0 ++ "+01"), V.str (w0 ++ "
"), V.ref q3, V.str "4", V.str (repS w0 (7 : Int).toNat)])) m5
      rw [← e]
      clear e
      have s1116 : Same H11 H16 := s12.trans (s13.trans (s14.trans (s15.trans s16)))
      have B16 := B11.same s1116
      have K16 : Kp b H H16 := K02.trans (K3.trans (K4.trans ((Kp.same s5).trans (K59.trans ((Kp.same s11).trans (Kp.same s1116))))))
      have q1b := off B11 m1
      have q3b := off ((B11.same s12).same s13) m3
      have q1bn := free (K02.trans (K3.trans (K4.trans ((Kp.same s5).trans (K59.trans (Kp.same s11)))))) m1 q1b
      have q3bn := free (K02.trans (K3.trans (K4.trans ((Kp.same s5).trans (K59.trans ((Kp.same s11).trans (Kp.same (s12.trans s13)))))))) m3 q3b
      have xbn := free (K02.trans (K3.trans (K4.trans ((Kp.same s5).trans (K6.trans K7))))) nx xb
      have q5b := off ((((B11.same s12).same s13).same s14).same s15) m5
      refine ⟨_, rfl, _, rfl, ite2 (fun hs => ?_) (fun hs => ?_)⟩
      · refine ⟨_, rfl, _, rfl, b, n + 14, 6, rfl, B16, by omega, by decide, by decide, fun r17 H17 a17 b17 B17 K17 => ?_⟩
        obtain ⟨v, hv, hm⟩ := atI_in (l := [V.str w0, V.str (w0 ++ "+" ++ ⟨#[c3]⟩), V.str (w0 ++ "-" ++ ⟨#[c4]⟩)] ++ [V.int r6, V.ref x, V.str ⟨#[c9]⟩]) a17 b17
        have x17 : Pl C H17 x w0 (r7 - 3) := by
          obtain ⟨d1, h1⟩ := x11
          exact ⟨d1, K17 _ _ xb (s1116 _ _ h1)⟩
        have ok : Ft K C H17 v "place" true ∧ ∀ a, v = .ref a → a ≠ b ∧ H a = none := by
          simp only [List.mem_append, List.mem_cons, List.not_mem_nil, or_false] at hm
          rcases hm with (rfl | rfl | rfl) | (rfl | rfl | rfl)
          · exact ⟨ft_ps Nn (hw.2.2.mono (by decide)) (parts_word hw), fun a e => nomatch e⟩
          · exact ⟨ft_ps Nn (sm_shift hw (by have := d123 c3 hm3; omega)).1 (parts_sign hw (d123 c3 hm3)).1, fun a e => nomatch e⟩
          · exact ⟨ft_ps Nn (sm_shift hw (by have := d123 c4 hm4; omega)).2 (parts_sign hw (d123 c4 hm4)).2, fun a e => nomatch e⟩
          · refine ⟨ft_pi Nn ?_, fun a e => nomatch e⟩
            show (if 0 ≤ r6 ∧ r6 ≤ 3 then some (("" : Str), r6) else none).isSome = true
            rw [if_pos ⟨a6, by omega⟩]
            rfl
          · exact ⟨⟨kd_pl Y X x17, .inl ⟨rfl, .inl ⟨x, w0, r7 - 3, rfl, x17, rfl⟩⟩⟩, fun a e => by cases e; exact ⟨xb, xbn⟩⟩
          · have dg : ∀ c ∈ ("0123" : Str).cps.toList, Sm 1000 ⟨#[c]⟩ ∧ (partsS ⟨#[c]⟩).isSome = true := by
              unfold Sm
              decide +kernel
            exact ⟨ft_ps Nn (dg c9 hm9).1 (dg c9 hm9).2, fun a e => nomatch e⟩
        exact ⟨p3, _, _, _, rfl, rfl, SqL.of (K17 _ _ p3b (s1116 _ _ t11)), hv, fin v true H17 ok.1 ok.2 (B17.more (by omega)) (K16.trans K17)⟩
      · refine ⟨_, rfl, _, rfl, b, n + 14, 18, rfl, B16, by omega, by decide, by decide, fun r17 H17 a17 b17 B17 K17 => ?_⟩
        obtain ⟨v, hv, hm⟩ := atI_in (l := [V.str (w0 ++ "+4"), V.str (w0 ++ "+0"), V.str (w0 ++ "-"), V.str "", V.int 4, V.int (0 - 1), V.bl true, V.non, V.ref q1, V.str (" " ++ w0), V.str (w0 ++ "+1 ")] ++ [V.str ("1+" ++ w0), V.str (Txt.upper w0), V.str (w0 ++ "+01"), V.str (w0 ++ "
"), V.ref q3, V.str "4", V.str (repS w0 (7 : Int).toNat)]) a17 b17
        have h1 := K17 _ _ q1b (s16 _ _ (s15 _ _ (s14 _ _ (s13 _ _ t12))))
        have h3 := K17 _ _ q3b (s16 _ _ (s15 _ _ t14))
        have tx : ∀ y ∈ oddP w0, Ft K C H17 (.str y) "place" false ∧ ∀ a, V.str y = .ref a → a ≠ b ∧ H a = none := fun y hy => ⟨ft_ps Nn ((sm_oddP hw hy).mono (by decide)) (by rw [odd_place hw hy]; rfl), fun a e => nomatch e⟩
        have ok : Ft K C H17 v "place" false ∧ ∀ a, v = .ref a → a ≠ b ∧ H a = none := by
          have m := fun y (h : y ∈ oddP w0) => tx y h
          simp only [oddP, List.mem_cons, List.not_mem_nil, or_false] at m
          simp only [List.mem_append, List.mem_cons, List.not_mem_nil, or_false] at hm
          rcases hm with (rfl | rfl | rfl | rfl | rfl | rfl | rfl | rfl | rfl | rfl | rfl) | (rfl | rfl | rfl | rfl | rfl | rfl | rfl)
          · exact m _ (by simp)
          · exact m _ (by simp)
          · exact m _ (by simp)
          · exact m _ (by simp)
          · exact ⟨ft_pi Nn (by decide), fun a e => nomatch e⟩
          · exact ⟨ft_pi Nn (by decide), fun a e => nomatch e⟩
          · exact ⟨⟨.bl true, .inl ⟨rfl, .inr ⟨⟨_, .base (.bl true), Nn.bool⟩, rfl⟩⟩⟩, fun a e => nomatch e⟩
          · exact ⟨⟨.non, .inl ⟨rfl, .inr ⟨⟨_, .base .non, Nn.non⟩, rfl⟩⟩⟩, fun a e => nomatch e⟩
          · exact ⟨⟨kd_lst h1, .inl ⟨rfl, .inr ⟨⟨_, .base (.lst h1), X.lst⟩, rfl⟩⟩⟩, fun a e => by cases e; exact ⟨q1b, q1bn⟩⟩
          · exact m _ (by simp)
          · exact m _ (by simp)
          · exact m _ (by simp)
          · exact m _ (by simp)
          · exact m _ (by simp)
          · exact m _ (by simp)
          · exact ⟨⟨kd_tup h3, .inl ⟨rfl, .inr ⟨⟨_, .base (.tup h3), X.tup⟩, rfl⟩⟩⟩, fun a e => by cases e; exact ⟨q3b, q3bn⟩⟩
          · exact m _ (by simp)
          · exact m (repS w0 7) (by simp)
        exact ⟨q5, _, _, _, rfl, rfl, SqL.of (K17 _ _ q5b t16), hv, fin v false H17 ok.1 ok.2 (B17.more (by omega)) (K16.trans K17)⟩
    · have hnp : decide (V.str l = V.str "p") = false := by
        rcases hl with ⟨rfl, _⟩ | ⟨rfl, _⟩ <;> decide +kernel
      refine ⟨_, rfl, rfl, _, rfl, ?_⟩
      rw [hnp]
      have lw : ∀ s : Str, s.length ≤ 10 → w0.length + s.length ≤ sizeLine := fun s h => (txt h).1
      have rw_ : ∀ s : Str, s.length ≤ 10 → s.length + w0.length ≤ sizeLine := fun s h => (txt h).2
      refine iteF ?_
      refine ⟨_, rfl, _, _, rfl, rfl, lw _ (by decide +kernel), _, rfl, ⟨_, rfl⟩, _, rfl, rfl, by omega, _, rfl, _, _, rfl, rfl, lw _ (by decide +kernel), _, rfl, (by show 1 ≤ sizeLine; decide), fun q1 m1 => ?_⟩
      obtain ⟨H3, e, s3, t3⟩ := one (.lst [V.str w0]) m1
      rw [← e]
      clear e
      refine ⟨_, rfl, _, _, rfl, rfl, by decide, by decide, wl1, by omega, _, rfl, fun x dx nx ndx _ => ?_⟩
      have low0 : lowS w0 ≤ 0 := by unfold lowS; split <;> decide
      refine ⟨x, dx, w0, 0, rfl, upd_same, by omega, hw.2.2.2, .inr hw.1, low0, by decide, fun H4 u4 t4 => ⟨rfl, ?_⟩⟩
      have s4 : Same H3 H4 := fun r o h => u4 r o (ne_of_none h nx) (by
        rw [upd_ne (ne_of_none h nx), upd_ne (ne_of_none h ndx)]
        exact h)
      refine ⟨_, rfl, _, _, rfl, rfl, rw_ _ (by decide +kernel), (by show 10 ≤ sizeLine; decide), fun q2 m2 => ?_⟩
      obtain ⟨H5, e, s5, t5⟩ := one (.lst [V.str "", V.str (w0 ++ "1"), V.str (Txt.upper w0), V.str (w0 ++ "
"), V.non, V.int 5, V.ref q1, V.str (repS w0 (7 : Int).toNat), V.ref x, V.str (" " ++ w0)]) m2
      rw [← e]
      clear e
      have q1b := off B2 m1
      have xb := off (B2.same s3) nx
      have q2b := off ((B2.same s3).same s4) m2
      have q1bn := free K02 m1 q1b
      have xbn := free (K02.trans (Kp.same s3)) nx xb
      have s25 : Same H2 H5 := s3.trans (s4.trans s5)
      have B5 := B2.same s25
      have K05 : Kp b H H5 := K02.trans (Kp.same s25)
      have odd : ∀ v ∈ [V.str "", V.str (w0 ++ "1"), V.str (Txt.upper w0), V.str (w0 ++ "
"), V.non, V.int 5, V.ref q1, V.str (repS w0 (7 : Int).toNat), V.ref x, V.str (" " ++ w0)], ∀ G : Hp, Kp b H5 G → Kd K G v ∧ nameV v = false ∧ ∀ a, v = .ref a → a ≠ b ∧ H a = none := by
        intro v hm G kG
        have h1 := kG _ _ q1b (s5 _ _ (s4 _ _ t3))
        have h2 : Pl C G x w0 0 := ⟨dx, kG _ _ xb (s5 _ _ t4)⟩
        have tx : ∀ y ∈ oddN w0, Kd K G (.str y) ∧ nameV (.str y) = false ∧ ∀ a, V.str y = .ref a → a ≠ b ∧ H a = none := fun y hy => ⟨.str y (Nat.le_trans (sm_oddN hw hy).1 (by decide)) (sm_oddN hw hy).2, odd_name hw hy, fun a e => nomatch e⟩
        simp only [oddN, List.mem_cons, List.not_mem_nil, or_false] at tx
        simp only [List.mem_cons, List.not_mem_nil, or_false] at hm
        rcases hm with rfl | rfl | rfl | rfl | rfl | rfl | rfl | rfl | rfl | rfl
        · exact tx _ (by simp)
        · exact tx _ (by simp)
        · exact tx _ (by simp)
        · exact tx _ (by simp)
        · exact ⟨.non, rfl, fun a e => nomatch e⟩
        · exact ⟨.int 5, rfl, fun a e => nomatch e⟩
        · exact ⟨kd_lst h1, rfl, fun a e => by cases e; exact ⟨q1b, q1bn⟩⟩
        · exact tx (repS w0 7) (by simp)
        · exact ⟨kd_pl Y X h2, rfl, fun a e => by cases e; exact ⟨xb, xbn⟩⟩
        · exact tx _ (by simp)
      rcases hl with ⟨rfl, rfl⟩ | ⟨rfl, rfl⟩
      · refine ⟨_, rfl, rfl, _, rfl, ?_⟩
        rw [decide_eq_true rfl]
        refine iteT ⟨_, rfl, (by show 7 ≤ sizeLine; decide), fun q3 m3 => ?_⟩
        obtain ⟨H6, e, s6, t6⟩ := one (.lst noMarks) m3
        rw [show (upd H5 q3 (.lst [V.str "old", V.str "zero", V.str "end", V.str "fails", V.str "more", V.str "done", V.str "none"])) = H6 from e.symm]
        clear e
        refine ⟨_, _, _, _, rfl, rfl, s6 _ _ t5, t6, (by show 17 ≤ sizeLine; decide), fun q4 m4 => ?_⟩
        obtain ⟨H7, e, s7, t7⟩ := one (.lst ([V.str "", V.str (w0 ++ "1"), V.str (Txt.upper w0), V.str (w0 ++ "
"), V.non, V.int 5, V.ref q1, V.str (repS w0 (7 : Int).toNat), V.ref x, V.str (" " ++ w0)] ++ noMarks)) m4
        rw [← e]
        clear e
        have s57 := s6.trans s7
        have B7 := B5.same s57
        have q4b := off (B5.same s6) m4
        refine ⟨_, rfl, _, rfl, ite2 (fun hs => ?_) (fun hs => ?_)⟩
        · exact ⟨_, rfl, fin (.str w0) true H7 ⟨.str w0 (by omega) hw.2.2.2, .inr (.inl ⟨rfl, hw.2.1.symm⟩)⟩ (fun a e => nomatch e) (B7.more (by omega)) (K05.trans (Kp.same s57))⟩
        · refine ⟨_, rfl, _, rfl, _, rfl, q4, _, rfl, .inl (SqL.of t7), b, n + 9, _, rfl, B7, by omega, (by show (0 : Int) < 17; decide), (by show (17 : Int) < 2 ^ 64; decide), fun r8 H8 a8 b8 B8 K8 => ?_⟩
          obtain ⟨v, hv, hm⟩ := atI_in (l := [V.str "", V.str (w0 ++ "1"), V.str (Txt.upper w0), V.str (w0 ++ "
"), V.non, V.int 5, V.ref q1, V.str (repS w0 (7 : Int).toNat), V.ref x, V.str (" " ++ w0)] ++ noMarks) a8 b8
          refine ⟨q4, _, _, _, rfl, rfl, SqL.of (K8 _ _ q4b t7), hv, ?_⟩
          rcases List.mem_append.mp hm with h | h
          · obtain ⟨k1, k2, k3⟩ := odd v h H8 ((Kp.same s57).trans K8)
            exact fin v false H8 (ft_odd k1 k2 (.inl rfl)) k3 (B8.more (by omega)) (K05.trans ((Kp.same s57).trans K8))
          · have all : ∀ v ∈ noMarks, ∃ z, v = .str z ∧ Sm 1000 z ∧ markV v = false := by
              intro v hv
              simp only [noMarks, List.mem_cons, List.not_mem_nil, or_false] at hv
              rcases hv with rfl | rfl | rfl | rfl | rfl | rfl | rfl
              all_goals exact ⟨_, rfl, by unfold Sm; decide +kernel, by decide +kernel⟩
            obtain ⟨z, rfl, hz, ez⟩ := all v h
            exact fin _ false H8 ⟨.str z hz.1 hz.2, .inr (.inl ⟨rfl, ez.symm⟩)⟩ (fun a e => nomatch e) (B8.more (by omega)) (K05.trans ((Kp.same s57).trans K8))
      · refine ⟨_, rfl, rfl, _, rfl, ?_⟩
        rw [show decide (V.str "n" = V.str "m") = false by decide +kernel]
        refine iteF ⟨_, rfl, _, rfl, (by show 4 ≤ sizeLine; decide), fun q3 m3 => ?_⟩
        obtain ⟨H6, e, s6, t6⟩ := one (.lst [V.str "old", V.str "none", V.str w0, V.str w0]) m3
        rw [← e]
        clear e
        have q3b := off B5 m3
        refine ⟨_, rfl, b, n + 9, 4, rfl, B5.same s6, by omega, by decide, by decide, fun r7 H7 a7 b7 B7 K7 => ?_⟩
        obtain ⟨u, hu, hm⟩ := atI_in (l := [V.str "old", V.str "none", V.str w0, V.str w0]) a7 b7
        refine ⟨q3, _, _, _, rfl, rfl, SqL.of (K7 _ _ q3b t6), hu, ?_⟩
        have hu2 : ∃ z, u = .str z ∧ Sm 1000 z ∧ nameS z = true := by
          simp only [List.mem_cons, List.not_mem_nil, or_false] at hm
          rcases hm with rfl | rfl | rfl | rfl
          · exact ⟨_, rfl, by unfold Sm; decide +kernel, by decide +kernel⟩
          · exact ⟨_, rfl, by unfold Sm; decide +kernel, by decide +kernel⟩
          · exact ⟨_, rfl, hw.2.2.mono (by decide), hw.1⟩
          · exact ⟨_, rfl, hw.2.2.mono (by decide), hw.1⟩
        obtain ⟨z, rfl, hz, ez⟩ := hu2
        have K57 : Kp b H5 H7 := (Kp.same s6).trans K7
        refine ⟨_, rfl, _, rfl, ite2 (fun hs => ?_) (fun hs => ?_)⟩
        · exact ⟨_, rfl, fin (.str z) true H7 ⟨.str z hz.1 hz.2, .inr (.inr ⟨rfl, ez.symm⟩)⟩ (fun a e => nomatch e) (B7.more (by omega)) (K05.trans K57)⟩
        · refine ⟨_, rfl, _, rfl, _, rfl, q2, _, rfl, .inl (SqL.of (K57 _ _ q2b t5)), b, n + 10, _, rfl, B7, by omega, (by show (0 : Int) < 10; decide), (by show (10 : Int) < 2 ^ 64; decide), fun r8 H8 a8 b8 B8 K8 => ?_⟩
          obtain ⟨v, hv, hm⟩ := atI_in (l := [V.str "", V.str (w0 ++ "1"), V.str (Txt.upper w0), V.str (w0 ++ "
"), V.non, V.int 5, V.ref q1, V.str (repS w0 (7 : Int).toNat), V.ref x, V.str (" " ++ w0)]) a8 b8
          refine ⟨q2, _, _, _, rfl, rfl, SqL.of (K8 _ _ q2b (K57 _ _ q2b t5)), hv, ?_⟩
          obtain ⟨k1, k2, k3⟩ := odd v hm H8 (K57.trans K8)
          exact fin v false H8 (ft_odd k1 k2 (.inr rfl)) k3 (B8.more (by omega)) (K05.trans (K57.trans K8))
end
end Mz
set_option Elab.async false
set_option linter.all false
set_option maxRecDepth 100000
set_option maxHeartbeats 4000000
namespace Mz
open PySem PySem.Spec PyProof.Rows L2
def spRight (K : PySem.W.Frag) (C : Addr) : Sp := fun vs H Q _ => ∃ (v : V) (t d : Bool), vs = [v, .bl d] ∧ Stp K C H v t ∧ ∀ H', Same H H' → Q (.bl (t == d)) H'
theorem Stp.same {K : PySem.W.Frag} {C : Addr} {H H' : Hp} {v : V} {t : Bool} (s : Same H H') (h : Stp K C H v t) : Stp K C H' v t := by
  have fts : ∀ {r fs ts}, Fts K C H r fs ts → Fts K C H' r fs ts := fun h => by
    induction h with
    | nil => exact .nil
    | cons h _ ih => exact .cons (h.same s) ih
  rcases h with ⟨ty, hty, r⟩ | ⟨a, l, e, ha, h⟩
  · exact .inl ⟨ty, ty_at (fun _ _ o e => s _ o e) hty, r⟩
  refine .inr ⟨a, l, e, s _ _ ha, ?_⟩
  rcases h with h | ⟨x, r, e, h⟩
  · exact .inl h
  refine .inr ⟨x, r, e, ?_⟩
  rcases h with ⟨ty, hty, r⟩ | ⟨z, e2, h⟩
  · exact .inl ⟨ty, ty_at (fun _ _ o e => s _ o e) hty, r⟩
  refine .inr ⟨z, e2, ?_⟩
  rcases h with h | ⟨fs, e3, h | ⟨ts, h, e4⟩⟩
  · exact .inl h
  · exact .inr ⟨fs, e3, .inl h⟩
  · exact .inr ⟨fs, e3, .inr ⟨ts, fts h, e4⟩⟩
section
variable {P : Program} {w : World} {K : PySem.W.Frag} {mg : Str → Option Value} {base : Heap}
theorem scRight : FnScope ["_law_thing", "_law_due", "_law_found"] ["_law_thing", "_law_due"] (defScope sRight) := ⟨rfl, rfl, rfl, by decide +kernel, rfl, by decide +kernel, by decide +kernel⟩
theorem ok_right {f f1 C : Addr} {fd fd1 : FuncData} (F : Fun K "_law_right" "_law_right" sRight f fd) (GS : C1 P w K mg base "is_step" 8 ["value"] (spIsStep K C) f1 fd1) (D : Blp mg) : FnOk P w K mg base CX0 9 f fd ["_law_thing", "_law_due"] (spRight K C) := by
  refine F.ok scRight (fun vs H Q E h => ?_) (fun cdv A outer s H vs Q E hr h => ?_)
  · obtain ⟨v, t, d, rfl, _⟩ := h
    rfl
  · obtain ⟨v, t, d, rfl, hv, q⟩ := h
    have nd := scRight.nd
    refine ⟨_, (pss_cons (ps_set (i := 2) nd rfl (Or.inl rfl) (pe_lst (pa_cons (pe_call GS.ok hr (by rfl) GS.m GS.k GS.b .nil pass0 (pa_cons (pv 0) pa_nil)) (pa_cons (pe_call GS.ok hr (by rfl) GS.m GS.k GS.b .nil pass0 (pa_cons (pv 0) pa_nil)) pa_nil))))
      (pss_one (ps_ret (pe_and (pe_cmpR (op_eqD hr.units) (pv 2) (pe_lst (pa_cons (pv 1) (pa_cons (pv 1) pa_nil))) (nomark _)) (pe_one (pe_callB call_isi (by rfl) D.isi (by decide +kernel) (pa_cons (pe_ix ix_list (pv 2) pe_int (fun _ _ => rfl)) (pa_cons (pe_bltn (v := .ty "bool") (by rfl) D.bool (by decide +kernel) rfl) pa_nil)))))))), ?_⟩
    have off : ∀ {G : Hp} {p b : Addr} {m : Nat}, Bx G b m → G p = none → p ≠ b := fun hb hp => by
      obtain ⟨_, _, _, e, _⟩ := hb
      exact (ne_of_none e hp).symm
    have one : ∀ {H1 : Hp} {p : Addr} (o : HO), H1 p = none → ∃ H2, H2 = upd H1 p o ∧ Same H1 H2 ∧ H2 p = some o := fun o n => ⟨_, rfl, same_nw n, upd_same⟩
    refine ⟨_, rfl, v, t, rfl, hv, fun H1 s1 => ⟨_, rfl, v, t, rfl, hv.same s1, fun H2 s2 => ⟨(by show 2 ≤ sizeLine; decide), fun p1 n1 => ?_⟩⟩⟩
    obtain ⟨H3, e, s3, t3⟩ := one (.lst [V.bl t, V.bl t]) n1
    rw [← e]
    clear e
    refine ⟨_, rfl, _, rfl, _, rfl, (by show 2 ≤ sizeLine; decide), fun p2 n2 => ?_⟩
    obtain ⟨H4, e, s4, t4⟩ := one (.lst [V.bl d, V.bl d]) n2
    rw [← e]
    clear e
    have s := s1.trans (s2.trans (s3.trans s4))
    have q2 := q _ s
    refine ⟨.list [.bool t, .bool t], .list [.bool d, .bool d], .lst (SqL.of (s4 _ _ t3)) (.cons (.bl _) (.cons (.bl _) .nil)), .lst (SqL.of t4) (.cons (.bl _) (.cons (.bl _) .nil)), ?_, ?_, _, rfl, ?_⟩
    · cases t <;> decide +kernel
    · cases d <;> decide +kernel
    rw [show PyData.eqv (.list [.bool t, .bool t]) (.list [.bool d, .bool d]) = (t == d) by cases t <;> cases d <;> decide +kernel]
    cases htd : (t == d) with
    | false =>
      rw [htd] at q2
      exact iteF q2
    | true =>
      rw [htd] at q2
      exact iteT ⟨_, rfl, p1, _, _, _, rfl, rfl, SqL.of (s4 _ _ t3), rfl, _, _, _, _, true, rfl, .ty _, .base (.bl t), kit_ty (by decide +kernel), q2⟩
end
end Mz
set_option Elab.async false
set_option linter.all false
set_option maxRecDepth 100000
set_option maxHeartbeats 4000000
namespace Mz
open PySem PySem.Spec PyProof.Rows L2
theorem Fts.snoc {K : PySem.W.Frag} {C : Addr} {H : Hp} {v : V} {f : Str} {t : Bool} {vs : List V} {fs : List Str} {ts : List Bool} (h : Fts K C H vs fs ts) (x : Ft K C H v f t) : Fts K C H (vs ++ [v]) (fs ++ [f]) (ts ++ [t]) := by
  induction h with
  | nil => exact .cons x .nil
  | cons h _ ih => exact .cons h ih
theorem Fts.at {K : PySem.W.Frag} {C : Addr} {H H' : Hp} {vs : List V} {fs : List Str} {ts : List Bool} (s : ∀ v ∈ vs, ∀ a, v = .ref a → ∀ o, H a = some o → H' a = some o) (h : Fts K C H vs fs ts) : Fts K C H' vs fs ts := by
  induction h with
  | nil => exact .nil
  | cons h _ ih => exact .cons (h.at (s _ List.mem_cons_self)) (ih fun v hv => s v (List.mem_cons_of_mem _ hv))
/-- the letters of the law's forms -/
def fof (c : Nat) : Str := if c = 112 then "place" else if c = 109 then "mark" else "name"
def nineL : List (Str × Str) := [("cut", "p"), ("write", "ppm"), ("read", "p"), ("look", "p"), ("store", "pm"), ("test", "p"), ("sync", "pp"), ("lock", "n"), ("unlock", "n")]
theorem nine_ok : ∀ q ∈ nineL, formS q.1 = some (q.2.cps.toList.map fof) ∧ (∀ c ∈ q.2.cps.toList, c = 112 ∨ c = 109 ∨ c = 110) ∧ 1 ≤ q.2.cps.toList.length ∧ q.2.cps.toList.length ≤ 3 ∧ formS (Txt.upper q.1) = none ∧ formS (q.1 ++ " ") = none ∧ q.1.length ≤ 10 := by decide +kernel
theorem letF {c : Nat} (h : c = 112 ∨ c = 109 ∨ c = 110) : LetF ⟨#[c]⟩ (fof c) := by
  rcases h with rfl | rfl | rfl
  · exact .inl ⟨rfl, rfl⟩
  · exact .inr (.inl ⟨rfl, rfl⟩)
  · exact .inr (.inr ⟨rfl, rfl⟩)
theorem slA_any {K : PySem.W.Frag} {H : Hp} {a : Addr} {xs : List V} {lo hi : Option Int} {Q : VK} (h : H a = some (.tup xs)) (q : ∀ p G, Same H G → G p = some (.tup (cutV xs lo hi)) → Q (.ref p) G) : rSlA K (.ref a) lo hi H Q := by
  refine ⟨a, xs, rfl, SqT.of h, fun e => q a H (Same.refl H) ?_, fun _ p np => q p _ (same_nw np) upd_same⟩
  have : cutV xs lo hi = xs := by
    unfold cutV
    rw [e.1, e.2]
    simp
  rw [this]
  exact h
theorem catA_any {K : PySem.W.Frag} {H : Hp} {a b : Addr} {xs ys : List V} {Q : VK} (ha : H a = some (.tup xs)) (hb : H b = some (.tup ys)) (l : xs.length + ys.length ≤ sizeLine) (q : ∀ p G, Same H G → G p = some (.tup (xs ++ ys)) → Q (.ref p) G) : rCatA K (.ref a) (.ref b) H Q := by
  refine ⟨a, b, xs, ys, rfl, rfl, SqT.of ha, SqT.of hb, l, fun e => ?_, fun _ e => ?_, fun _ _ p np => q p _ (same_nw np) upd_same⟩
  · refine q b H (Same.refl H) ?_
    rw [e]
    exact hb
  · refine q a H (Same.refl H) ?_
    rw [e, List.append_nil]
    exact ha
theorem stp_len {K : PySem.W.Frag} {C : Addr} {H : Hp} {a : Addr} {z : Str} {r : List V} {fs : List Str} (h : H a = some (.tup (.str z :: r))) (f : formS z = some fs) (n : r.length ≠ fs.length) (l : r.length ≤ 100) : Stp K C H (.ref a) false :=
  .inr ⟨a, _, rfl, h, .inr ⟨_, r, rfl, .inr ⟨z, rfl, .inr ⟨fs, f, .inl ⟨n, l, rfl⟩⟩⟩⟩⟩
theorem stp_form {K : PySem.W.Frag} {C : Addr} {H : Hp} {a : Addr} {z : Str} {r : List V} (h : H a = some (.tup (.str z :: r))) (f : formS z = none) : Stp K C H (.ref a) false :=
  .inr ⟨a, _, rfl, h, .inr ⟨_, r, rfl, .inr ⟨z, rfl, .inl ⟨f, rfl⟩⟩⟩⟩
theorem cut_last {x : V} {r : List V} (h : 1 ≤ r.length) : cutV (x :: r) none (some (-1)) = x :: r.take (r.length - 1) := by
  unfold cutV
  have e : HT.sIx (x :: r).length (x :: r).length (some (-1)) = r.length := by
    show (if (-1 : Int) < 0 then ((-1 : Int) + ((r.length + 1 : Nat) : Int)).toNat else min (-1 : Int).toNat (r.length + 1)) = r.length
    rw [if_pos (by decide)]
    omega
  rw [e]
  show ((x :: r).drop 0).take (r.length - 0) = _
  have : r.length - 0 = (r.length - 1) + 1 := by omega
  rw [this]
  rfl
theorem cut_head1 {x : V} {r : List V} {i : Int} (h0 : 0 ≤ i) (h1 : i ≤ (r.length : Int)) : cutV (x :: r) none (some (1 + i)) = x :: r.take i.toNat ∧ cutV (x :: r) (some (1 + i)) none = r.drop i.toNat := by
  have e1 : HT.sIx (x :: r).length (x :: r).length (some (1 + i)) = i.toNat + 1 := by
    show (if (1 + i : Int) < 0 then ((1 + i : Int) + ((r.length + 1 : Nat) : Int)).toNat else min (1 + i : Int).toNat (r.length + 1)) = i.toNat + 1
    rw [if_neg (by omega)]
    omega
  have e2 : HT.sIx (x :: r).length 0 (some (1 + i)) = i.toNat + 1 := by
    show (if (1 + i : Int) < 0 then ((1 + i : Int) + ((r.length + 1 : Nat) : Int)).toNat else min (1 + i : Int).toNat (r.length + 1)) = i.toNat + 1
    rw [if_neg (by omega)]
    omega
  constructor
  · unfold cutV
    rw [e1]
    rfl
  · unfold cutV
    rw [e2]
    show ((x :: r).drop (i.toNat + 1)).take ((x :: r).length - (i.toNat + 1)) = r.drop i.toNat
    rw [List.drop_succ_cons]
    refine List.take_of_length_le ?_
    rw [List.length_drop, List.length_cons]
    omega
theorem cut_one {x : V} {r : List V} : cutV (x :: r) (some 1) none = r ∧ HT.sIx (x :: r).length 0 (some (1 : Int)) = 1 := by
  have e : HT.sIx (x :: r).length 0 (some (1 : Int)) = 1 := by
    unfold HT.sIx
    simp
  refine ⟨?_, e⟩
  unfold cutV
  rw [e]
  show ((x :: r).drop 1).take ((x :: r).length - 1) = r
  simp
theorem paired_snoc {α β : Type} {F : α → β → Prop} {x : α} {y : β} (h : F x y) : ∀ {xs : List α} {ys : List β}, Paired F xs ys → Paired F (xs ++ [x]) (ys ++ [y])
  | _, _, .nil => .cons h .nil
  | _, _, .cons k t => .cons k (paired_snoc h t)
theorem paired_imp2 {α β : Type} {F G : α → β → Prop} : ∀ {xs : List α} {ys : List β}, Paired F xs ys → (∀ x y, x ∈ xs → F x y → G x y) → Paired G xs ys
  | _, _, .nil, _ => .nil
  | _, _, .cons h t, f => .cons (f _ _ List.mem_cons_self h) (paired_imp2 t fun x y m => f x y (List.mem_cons_of_mem _ m))
theorem paired_get {α β : Type} {F : α → β → Prop} : ∀ {xs : List α} {ys : List β}, Paired F xs ys → ∀ {i : Nat} {x : α}, xs[i]? = some x → ∃ y, ys[i]? = some y ∧ F x y
  | _, _, .nil, _, _, e => nomatch e
  | _, _, .cons h t, 0, _, e => ⟨_, rfl, by cases e; exact h⟩
  | _, _, .cons h t, i + 1, _, e => paired_get t (i := i) e
theorem paired_len {α β : Type} {F : α → β → Prop} : ∀ {xs : List α} {ys : List β}, Paired F xs ys → xs.length = ys.length
  | _, _, .nil => rfl
  | _, _, .cons _ t => by rw [List.length_cons, List.length_cons, paired_len t]
theorem ne_of_bx {H : Hp} {b p : Addr} {n : Nat} {l : List V} (h : Bx H b n) (e : H p = some (.tup l)) : p ≠ b := fun z => by
  obtain ⟨_, _, _, e2, _⟩ := h
  rw [z, e2] at e
  cases e
theorem same_of21 {b : Addr} {H H' : Hp} (h : H b = none) (k : Kp b H H') : Same H H' := fun q o e => k q o (ne_of_none e h) e
def spLaw (K : PySem.W.Frag) : Sp := fun vs H Q _ => ∃ (a : Addr) (ns : List Int), vs = [.ref a] ∧ SqL K H a (ns.map V.int) ∧ ns.length ≤ 63 ∧ ∀ H', Q (.bl true) H'
section
variable {P : Program} {w : World} {K : PySem.W.Frag} {mg : Str → Option Value} {base : Heap}
theorem scLaw : FnScope ["_law_script", "_law_forms", "_law_k", "_law_box_here", "_law_word_here", "_law_form", "_law_items", "_law_step", "_law_more", "_law_at", "_law_wrong", "_law_thing", "_law_letter", "_law_item_here"] ["_law_script"] (defScope sLaw) := ⟨rfl, rfl, rfl, by decide +kernel, rfl, by decide +kernel, by decide +kernel⟩
theorem ok_law {f fC fB fI fR ft C : Addr} {fd fdC fdB fdI fdR fdt : FuncData} (F : Fun K "law" "law" sLaw f fd) (B : Blt mg) (mT : mg "tuple" = none) (mL : mg "list" = none) (T : Tk P w K mg base ft fdt) (GC : C1 P w K mg base "_law_cell" 1 ["_law_script", "_law_k"] (spCell K) fC fdC) (GB : C1 P w K mg base "_law_box" 1 ["_law_cell_here"] spBox fB fdB)
    (GI : C1 P w K mg base "_law_item" 5 ["_law_box_here", "_law_letter"] (spItem K C) fI fdI) (GR : C1 P w K mg base "_law_right" 9 ["_law_thing", "_law_due"] (spRight K C) fR fdR) : FnOk P w K mg base CX0 10 f fd ["_law_script"] (spLaw K) := by
  refine F.ok scLaw (fun vs H Q E h => ?_) (fun cdv A outer s H vs Q E hr h => ?_)
  · obtain ⟨a, ns, rfl, _⟩ := h
    rfl
  · obtain ⟨a, ns, rfl, hS, hlen, q⟩ := h
    have nd := scLaw.nd
    have hr1 : Room 1 _ := hr.mono (by decide)
    have hr5 : Room 5 _ := hr.mono (by decide)
    have hr9 : Room 9 _ := hr.mono (by decide)
    refine ⟨_, (pss_cons (ps_set (i := 1) nd rfl (Or.inl rfl) (pe_lst (pa_cons (pe_tup (pa_cons pe_str (pa_cons pe_str pa_nil))) (pa_cons (pe_tup (pa_cons pe_str (pa_cons pe_str pa_nil))) (pa_cons (pe_tup (pa_cons pe_str (pa_cons pe_str pa_nil))) (pa_cons (pe_tup (pa_cons pe_str (pa_cons pe_str pa_nil))) (pa_cons (pe_tup (pa_cons pe_str (pa_cons pe_str pa_nil))) (pa_cons (pe_tup (pa_cons pe_str (pa_cons pe_str pa_nil))) pa_nil))))))))
      (pss_cons (ps_set (i := 1) nd rfl (Or.inl rfl) (pe_op op_cat (pv 1) (pe_lst (pa_cons (pe_tup (pa_cons pe_str (pa_cons pe_str pa_nil))) (pa_cons (pe_tup (pa_cons pe_str (pa_cons pe_str pa_nil))) (pa_cons (pe_tup (pa_cons pe_str (pa_cons pe_str pa_nil))) pa_nil))))))
      (pss_cons (ps_for PassesOwn.never rfl (pi_range1 rfl B.range (pa_cons (pe_callB (call_max2 rfl) (by rfl) B.max (by decide +kernel) (pa_cons pe_int (pa_cons (pe_callB (call_min2 rfl) (by rfl) B.min (by decide +kernel) (pa_cons pe_int (pa_cons (pe_callB call_len_seq (by rfl) B.len PySem.boot_len (pa_cons (pv 0) pa_nil)) pa_nil))) pa_nil))) pa_nil)) (pg_name (i := 2) nd rfl (Or.inl rfl))
      (pss_cons (ps_set (i := 3) nd rfl (Or.inr rfl) (pe_call GB.ok hr1 (by rfl) GB.m GB.k GB.b .nil pass0 (pa_cons (pe_call GC.ok hr1 (by rfl) GC.m GC.k GC.b .nil pass0 (pa_cons (pv 0) (pa_cons (pv 2) pa_nil))) pa_nil)))
      (pss_cons (ps_asg (pe_ix ix_list (pv 1) (pe_call T.ok hr1 (by rfl) T.m T.k T.b .nil pass0 (pa_cons (pv 3) (pa_cons pe_int pa_nil))) (fun _ _ => rfl)) (pg_tup (by rfl) (pgs_cons (pg_name (i := 4) nd rfl (.inl rfl)) (pgs_cons (pg_name (i := 5) nd rfl (.inl rfl)) pgs_nil))))
      (pss_cons (ps_setLc (i := 6) (own := [("_law_letter", 12)]) (g := gName 12) (tt := tYes) rfl nd rfl rfl (sw_true rfl rfl rfl (by decide +kernel)) (pi_str (pv 5)) (blkOk_by (N := ["_law_script", "_law_forms", "_law_k", "_law_box_here", "_law_word_here", "_law_form", "_law_items", "_law_step", "_law_more", "_law_at", "_law_wrong", "_law_thing", "_law_letter", "_law_item_here"]) (sc := defScope sLaw) (by decide +kernel)) (fun _ _ _ _ _ => (pg_name (i := 12) nd rfl (Or.inl rfl))) (fun _ _ _ _ _ => pts_nil) (fun _ _ _ _ _ => (pe_call GI.ok hr5 (by rfl) GI.m GI.k GI.b .nil pass0 (pa_cons (pv 3) (pa_cons (pv 12) pa_nil)))))
      (pss_cons (ps_set (i := 7) nd rfl (Or.inl rfl) (pe_callTy call_tuple_of (by rfl) mT (by decide +kernel) (pa_cons (pe_op op_cat (pe_lst (pa_cons (pv 4) pa_nil)) (pe_lc (own := [("_law_item_here", 13)]) (g := gName 13) (tt := tYes) (te := tOp (rIxL K) (tVar 13) (tC (.int 0))) rfl nd (pi_list (pv 6)) (blkOk_by (N := ["_law_script", "_law_forms", "_law_k", "_law_box_here", "_law_word_here", "_law_form", "_law_items", "_law_step", "_law_more", "_law_at", "_law_wrong", "_law_thing", "_law_letter", "_law_item_here"]) (sc := defScope sLaw) (by decide +kernel)) (fun _ _ _ _ _ => (pg_name (i := 13) nd rfl (Or.inl rfl))) (fun _ _ _ _ _ => pts_nil) (fun _ _ _ _ _ => (pe_ix ix_list (pv 13) pe_int (fun _ _ => rfl))))) pa_nil)))
      (pss_cons (ps_if (pt_not (pt_val (pe_call GR.ok hr9 (by rfl) GR.m GR.k GR.b .nil pass0 (pa_cons (pv 7) (pa_cons (pe_cmpR (op_eqL0 hr.units) (pe_lc (own := [("_law_item_here", 13)]) (g := gName 13) (tt := tNot (tB (tOp (rIxL K) (tVar 13) (tC (.int 1))))) (te := tVar 13) rfl nd (pi_list (pv 6)) (blkOk_by (N := ["_law_script", "_law_forms", "_law_k", "_law_box_here", "_law_word_here", "_law_form", "_law_items", "_law_step", "_law_more", "_law_at", "_law_wrong", "_law_thing", "_law_letter", "_law_item_here"]) (sc := defScope sLaw) (by decide +kernel)) (fun _ _ _ _ _ => (pg_name (i := 13) nd rfl (Or.inl rfl))) (fun _ _ _ _ _ => pts_one (pt_not (pt_val (pe_ix ix_list (pv 13) pe_int (fun _ _ => rfl))))) (fun _ _ _ _ _ => (pv 13))) (pe_lst pa_nil) (nomark _)) pa_nil))))) (pss_one (ps_ret pe_bl)) pss_nil)
      (pss_cons (ps_set (i := 8) nd rfl (Or.inl rfl) (pe_ix ix_list (pe_call GI.ok hr5 (by rfl) GI.m GI.k GI.b .nil pass0 (pa_cons (pv 3) (pa_cons (pe_ix ix_str pe_str (pe_call T.ok hr1 (by rfl) T.m T.k T.b .nil pass0 (pa_cons (pv 3) (pa_cons pe_int pa_nil))) (fun _ _ => rfl)) pa_nil))) pe_int (fun _ _ => rfl)))
      (pss_cons (ps_set (i := 9) nd rfl (Or.inl rfl) (pe_op op_add pe_int (pe_call T.ok hr1 (by rfl) T.m T.k T.b .nil pass0 (pa_cons (pv 3) (pa_cons (pe_callB call_len_seq (by rfl) B.len PySem.boot_len (pa_cons (pv 7) pa_nil)) pa_nil)))))
      (pss_cons (ps_set (i := 10) nd rfl (Or.inl rfl) (pe_lst (pa_cons (pe_slice sl_tup (pv 7) po_none (po_some (pe_un un_neg pe_int))) (pa_cons (pe_op op_catA (pe_op op_catA (pe_slice sl_tupA (pv 7) po_none (po_some (pv 9))) (pe_tup (pa_cons (pv 8) pa_nil))) (pe_slice sl_tupA (pv 7) (po_some (pv 9)) po_none)) (pa_cons (pe_callTy call_list_of (by rfl) mL (by decide +kernel) (pa_cons (pv 7) pa_nil)) (pa_cons (pe_op op_catA (pe_tup (pa_cons (pe_upper (pv 4)) pa_nil)) (pe_slice sl_tup (pv 7) (po_some pe_int) po_none)) (pa_cons (pe_tup pa_nil) (pa_cons (pe_tup (pa_cons (pv 4) pa_nil)) pa_nil))))))))
      (pss_cons (ps_set (i := 10) nd rfl (Or.inl rfl) (pe_op op_cat (pv 10) (pe_lst (pa_cons (pv 4) (pa_cons pe_non (pa_cons (pe_op op_catA (pe_tup (pa_cons pe_non pa_nil)) (pe_slice sl_tup (pv 7) (po_some pe_int) po_none)) (pa_cons (pe_op op_catA (pe_tup (pa_cons (pe_op op_add_str (pv 4) pe_str) pa_nil)) (pe_slice sl_tup (pv 7) (po_some pe_int) po_none)) (pa_cons (pe_op op_catA (pe_tup (pa_cons (pe_lst (pa_cons (pv 4) pa_nil)) pa_nil)) (pe_slice sl_tup (pv 7) (po_some pe_int) po_none)) pa_nil))))))))
      (pss_one (ps_for PassesOwn.never rfl (pi_list (pv 10)) (pg_name (i := 11) nd rfl (Or.inl rfl)) (pss_one (ps_if (pt_not (pt_val (pe_call GR.ok hr9 (by rfl) GR.m GR.k GR.b .nil pass0 (pa_cons (pv 11) (pa_cons pe_bl pa_nil))))) (pss_one (ps_ret pe_bl)) pss_nil))))))))))))))
      (pss_one (ps_ret pe_bl))))), ?_⟩
    have off : ∀ {G : Hp} {p b : Addr} {m : Nat}, Bx G b m → G p = none → p ≠ b := fun hb hp => by
      obtain ⟨_, _, _, e, _⟩ := hb
      exact (ne_of_none e hp).symm
    have one : ∀ {H1 : Hp} {p : Addr} (o : HO), H1 p = none → ∃ H2, H2 = upd H1 p o ∧ Same H1 H2 ∧ H2 p = some o := fun o n => ⟨_, rfl, same_nw n, upd_same⟩
    have t2 : ∀ {G : Hp} {x y : Str} {A : Prop}, A → (2 ≤ sizeLine ∧ A) := fun h => ⟨by decide, h⟩
    refine ⟨(by show 2 ≤ sizeLine; decide), fun u1 n1 => ?_⟩
    obtain ⟨H1, e, s1, h1⟩ := one (.tup [V.str "cut", V.str "p"]) n1
    rw [← e]
    clear e
    refine ⟨(by show 2 ≤ sizeLine; decide), fun u2 n2 => ?_⟩
    obtain ⟨H2, e, s2, h2⟩ := one (.tup [V.str "write", V.str "ppm"]) n2
    rw [← e]
    clear e
    refine ⟨(by show 2 ≤ sizeLine; decide), fun u3 n3 => ?_⟩
    obtain ⟨H3, e, s3, h3⟩ := one (.tup [V.str "read", V.str "p"]) n3
    rw [← e]
    clear e
    refine ⟨(by show 2 ≤ sizeLine; decide), fun u4 n4 => ?_⟩
    obtain ⟨H4, e, s4, h4⟩ := one (.tup [V.str "look", V.str "p"]) n4
    rw [← e]
    clear e
    refine ⟨(by show 2 ≤ sizeLine; decide), fun u5 n5 => ?_⟩
    obtain ⟨H5, e, s5, h5⟩ := one (.tup [V.str "store", V.str "pm"]) n5
    rw [← e]
    clear e
    refine ⟨(by show 2 ≤ sizeLine; decide), fun u6 n6 => ?_⟩
    obtain ⟨H6, e, s6, h6⟩ := one (.tup [V.str "test", V.str "p"]) n6
    rw [← e]
    clear e
    refine ⟨(by show 6 ≤ sizeLine; decide), fun f1 m1 => ?_⟩
    obtain ⟨H7, e, s7, h7⟩ := one (.lst [V.ref u1, V.ref u2, V.ref u3, V.ref u4, V.ref u5, V.ref u6]) m1
    rw [← e]
    clear e
    refine ⟨_, rfl, (by show 2 ≤ sizeLine; decide), fun u7 n7 => ?_⟩
    obtain ⟨H8, e, s8, h8⟩ := one (.tup [V.str "sync", V.str "pp"]) n7
    rw [← e]
    clear e
    refine ⟨(by show 2 ≤ sizeLine; decide), fun u8 n8 => ?_⟩
    obtain ⟨H9, e, s9, h9⟩ := one (.tup [V.str "lock", V.str "n"]) n8
    rw [← e]
    clear e
    refine ⟨(by show 2 ≤ sizeLine; decide), fun u9 n9 => ?_⟩
    obtain ⟨H10, e, s10, h10⟩ := one (.tup [V.str "unlock", V.str "n"]) n9
    rw [← e]
    clear e
    refine ⟨(by show 3 ≤ sizeLine; decide), fun f2 m2 => ?_⟩
    obtain ⟨H11, e, s11, h11⟩ := one (.lst [V.ref u7, V.ref u8, V.ref u9]) m2
    rw [← e]
    clear e
    have s711 : Same H7 H11 := s8.trans (s9.trans (s10.trans s11))
    refine ⟨_, _, _, _, rfl, rfl, s711 _ _ h7, h11, (by show 9 ≤ sizeLine; decide), fun fm nfm => ?_⟩
    obtain ⟨H12, e, s12, h12⟩ := one (.lst ([V.ref u1, V.ref u2, V.ref u3, V.ref u4, V.ref u5, V.ref u6] ++ [V.ref u7, V.ref u8, V.ref u9])) nfm
    rw [← e]
    clear e
    have s712 := s711.trans s12
    have s012 : Same H H12 := s1.trans (s2.trans (s3.trans (s4.trans (s5.trans (s6.trans (s7.trans s712))))))
    have forms : ∀ v ∈ ([V.ref u1, V.ref u2, V.ref u3, V.ref u4, V.ref u5, V.ref u6] ++ [V.ref u7, V.ref u8, V.ref u9]), ∃ u z fo, v = .ref u ∧ (z, fo) ∈ nineL ∧ H12 u = some (.tup [.str z, .str fo]) := by
      intro v hv
      simp only [List.mem_append, List.mem_cons, List.not_mem_nil, or_false] at hv
      rcases hv with (rfl | rfl | rfl | rfl | rfl | rfl) | (rfl | rfl | rfl)
      · exact ⟨u1, _, _, rfl, by simp [nineL], s712 _ _ (s7 _ _ (s6 _ _ (s5 _ _ (s4 _ _ (s3 _ _ (s2 _ _ h1))))))⟩
      · exact ⟨u2, _, _, rfl, by simp [nineL], s712 _ _ (s7 _ _ (s6 _ _ (s5 _ _ (s4 _ _ (s3 _ _ h2)))))⟩
      · exact ⟨u3, _, _, rfl, by simp [nineL], s712 _ _ (s7 _ _ (s6 _ _ (s5 _ _ (s4 _ _ h3))))⟩
      · exact ⟨u4, _, _, rfl, by simp [nineL], s712 _ _ (s7 _ _ (s6 _ _ (s5 _ _ h4)))⟩
      · exact ⟨u5, _, _, rfl, by simp [nineL], s712 _ _ (s7 _ _ (s6 _ _ h5))⟩
      · exact ⟨u6, _, _, rfl, by simp [nineL], s712 _ _ (s7 _ _ h6)⟩
      · exact ⟨u7, _, _, rfl, by simp [nineL], s12 _ _ (s11 _ _ (s10 _ _ (s9 _ _ h8)))⟩
      · exact ⟨u8, _, _, rfl, by simp [nineL], s12 _ _ (s11 _ _ (s10 _ _ h9))⟩
      · exact ⟨u9, _, _, rfl, by simp [nineL], s12 _ _ (s11 _ _ h10)⟩
    clear h1 h2 h3 h4 h5 h6 h7 h8 h9 h10 h11 s1 s2 s3 s4 s5 s6 s7 s8 s9 s10 s11 s712 s711
    refine ⟨_, rfl, a, _, rfl, .inl (s012.seq hS), _, _, rfl, _, _, rfl, ?_⟩
    generalize hm : (if (if (((ns.map V.int).length : Nat) : Int) < 10 then (((ns.map V.int).length : Nat) : Int) else 10) > 3 then (if (((ns.map V.int).length : Nat) : Int) < 10 then (((ns.map V.int).length : Nat) : Int) else 10) else 3) = m
    have m0 : 3 ≤ m ∧ m ≤ 10 := by
      rw [← hm]
      split <;> split <;> omega
    refine ⟨m, rfl, by omega, by omega, for_range (lo := 0) (n := m.toNat) (fun _ σ H' => ∃ v2 v3 v4 v5 v6 v7 v8 v9 v10 v11 v12 v13 : Option V, σ = [some (.ref a), some (.ref fm), v2, v3, v4, v5, v6, v7, v8, v9, v10, v11, v12, v13] ∧ Same H12 H')
      ⟨_, _, _, _, _, _, _, _, _, _, _, _, rfl, Same.refl H12⟩ ?_ fun σ H' _ => q H'⟩
    rintro i σ H0 hi ⟨v2, v3, v4, v5, v6, v7, v8, v9, v10, v11, v12, v13, rfl, s0⟩
    generalize hD : ({ nx := _, rt := _, bk := _, ct := _ } : Ends) = DD
    have dnx : ∀ σ' H', (∃ v2 v3 v4 v5 v6 v7 v8 v9 v10 v11 v12 v13 : Option V, σ' = [some (V.ref a), some (V.ref fm), v2, v3, v4, v5, v6, v7, v8, v9, v10, v11, v12, v13] ∧ Same H12 H') → DD.nx σ' H' := fun σ' H' h => by
      rw [← hD]
      exact h
    clear hD
    have ei : (0 + (i : Int)) = ((i : Nat) : Int) := by omega
    rw [ei]
    refine ⟨_, rfl, _, rfl, a, ns, i, rfl, (s012.trans s0).seq hS, by omega, fun c => ?_⟩
    refine ⟨c, rfl, fun b H1 nb B1 K1 => ?_⟩
    have fmb : fm ≠ b := ne_of_none (s0 _ _ h12) nb
    refine ⟨_, rfl, _, rfl, b, 0, 9, rfl, B1, by omega, by decide, by decide, fun r H2 r0 r1 B2 K2 => ?_⟩
    obtain ⟨v, hv, hm⟩ := atI_in (l := [V.ref u1, V.ref u2, V.ref u3, V.ref u4, V.ref u5, V.ref u6] ++ [V.ref u7, V.ref u8, V.ref u9]) r0 r1
    obtain ⟨u, z, fo, rfl, hq, hu⟩ := forms v hm
    have K02 := K1.trans K2
    have ub : u ≠ b := ne_of_none (s0 _ _ hu) nb
    refine ⟨fm, _, _, _, rfl, rfl, SqL.of (K02 _ _ fmb (s0 _ _ h12)), hv, ?_⟩
    have nz := nine_ok _ hq
    dsimp only at nz
    obtain ⟨fz, hcs, l1, l3, fup, fsp, zl⟩ := nz
    refine ⟨u, _, rfl, SqT.of (K02 _ _ ub (s0 _ _ hu)), rfl, _, _, rfl, _, _, rfl, rfl, ?_⟩
    -- the items
    refine ⟨_, rfl, fo, rfl, fun D nD => ?_⟩
    have Db := off B2 nD
    refine lc_it walk_str (fun i H' => Bx H' b (1 + 30 * i) ∧ Kp b H2 H' ∧ ∃ (ps : List Addr) (qs : List (V × Bool)), ps.length = i ∧ H' D = some (.lst (ps.map V.ref)) ∧ Paired (fun (p : Addr) (q : V × Bool) => H' p = some (.lst [q.1, .bl q.2])) ps qs ∧ Fts K C H' (qs.map (·.1)) ((fo.cps.toList.take i).map fof) (qs.map (·.2)) ∧
        (∀ p ∈ ps, p ≠ b ∧ p ≠ D) ∧ ∀ q ∈ qs, ∀ a, q.1 = .ref a → a ≠ b ∧ a ≠ D)
      ⟨B2.upd nD, Kp.fresh nD, [], [], rfl, upd_same, .nil, .nil, (fun _ h => nomatch h), fun _ h => nomatch h⟩ (fun _ _ _ _ => trivial) ?_ ?_
    · rintro i2 x H3 H4 hi2 ⟨B3, K3, ps, qs, lps, hDl, pr, ft, nps, nqs⟩ ⟨rfl, c2, hc2, rfl⟩
      have hc3 : fo.cps.toList[i2]? = some c2 := by
        rw [Array.getElem?_toList]
        exact hc2
      refine ⟨rfl, ?_⟩
      unfold tYes
      have l3b : i2 < 3 := by
        have : fo.cps.size = fo.cps.toList.length := by rw [Array.length_toList]
        omega
      refine iteT ⟨_, rfl, _, rfl, b, 1 + 30 * i2, _, fof c2, rfl, letF (hcs c2 (List.mem_of_getElem? hc3)), B3, by omega, fun p v t H5 fv fr hp np pb B5 K5 => ?_⟩
      have pD : p ≠ D := fun z => by
        rw [z, hDl] at np
        cases np
      have hD5 := K5 _ _ Db hDl
      refine ⟨_, hD5, ?_, ?_, ?_, ps ++ [p], qs ++ [(v, t)], ?_, ?_, ?_, ?_, ?_, ?_⟩
      · rw [List.length_map]
        exact Nat.lt_of_le_of_lt (show ps.length ≤ 3 by omega) (by decide)
      · obtain ⟨y1, y2, y3, e, h⟩ := B5.more (show 1 + 30 * i2 + 30 ≤ 1 + 30 * (i2 + 1) by omega)
        exact ⟨y1, y2, y3, by rw [upd_ne Db.symm]; exact e, h⟩
      · intro p2 o n e
        have : p2 ≠ D := ne_of_none e nD
        rw [upd_ne this]
        exact K5 _ _ n (K3 _ _ n e)
      · rw [List.length_append, lps]
        rfl
      · rw [upd_same, List.map_append]
        rfl
      · refine paired_snoc ?_ (paired_imp2 pr fun p2 q hm h => ?_)
        · rw [upd_ne pD]
          exact hp
        · obtain ⟨g1, g2⟩ := nps p2 hm
          rw [upd_ne g2]
          exact K5 _ _ g1 h
      · rw [List.map_append, List.map_append, List.take_succ, hc3, List.map_append]
        refine Fts.snoc (ft.at fun v2 hv2 a2 e o h => ?_) (fv.at fun a2 e o h => ?_)
        · obtain ⟨q, hq, rfl⟩ := List.mem_map.mp hv2
          obtain ⟨g1, g2⟩ := nqs q hq a2 e
          rw [upd_ne g2]
          exact K5 _ _ g1 h
        · have : a2 ≠ D := fun z => by
            have := (fr a2 e).2
            rw [z, hDl] at this
            cases this
          rw [upd_ne this]
          exact h
      · intro p2 h
        rcases List.mem_append.mp h with h | h
        · exact nps p2 h
        · rw [List.mem_singleton.mp h]
          exact ⟨pb, pD⟩
      · intro q h a2 e
        rcases List.mem_append.mp h with h | h
        · exact nqs q h a2 e
        · rw [List.mem_singleton.mp h] at e
          have e : v = .ref a2 := e
          refine ⟨(fr a2 e).1, fun z => ?_⟩
          have := (fr a2 e).2
          rw [z, hDl] at this
          cases this
    rintro H3 ⟨B3, K3, ps, qs, lps, hDl, pr, ft, nps, nqs⟩
    have sz : fo.cps.size = fo.cps.toList.length := by rw [Array.length_toList]
    rw [sz] at B3 lps ft
    rw [List.take_length] at ft
    have lft := ft.len
    have lft2 := ft.len2
    rw [List.length_map] at lft lft2
    rw [List.length_map] at lft lft2
    have K03 := K02.trans K3
    have D1 := hDl
    -- the step
    have lqs : qs.length = ps.length := (paired_len pr).symm
    refine ⟨_, rfl, (by show 1 ≤ sizeLine; decide), fun w1 nw1 => ?_⟩
    obtain ⟨H4, e, s4, t4⟩ := one (.lst [V.str z]) nw1
    rw [← e]
    clear e
    refine ⟨_, rfl, D, rfl, ⟨_, SqL.of (s4 _ _ hDl)⟩, fun D2 nD2 => ?_⟩
    refine lc_list (K := K) (a := D) (xs := ps.map V.ref) (fun i H' => (∀ q o, q ≠ D2 → H4 q = some o → H' q = some o) ∧ H' D2 = some (.lst ((qs.map (·.1)).take i)))
      ⟨fun q o n e => by rw [upd_ne n]; exact e, upd_same⟩ (fun i H' _ h => SqL.of (h.1 _ _ (ne_of_none (s4 _ _ hDl) nD2) (s4 _ _ hDl))) ?_ ?_
    · rintro i2 x H5 hx ⟨keep, hD2⟩
      rw [List.getElem?_map] at hx
      cases hp : ps[i2]? with
      | none => rw [hp] at hx; cases hx
      | some p =>
        rw [hp] at hx
        cases hx
        obtain ⟨y, hy, hpy⟩ := paired_get pr hp
        have pD2 : p ≠ D2 := ne_of_none (s4 _ _ hpy) nD2
        refine ⟨rfl, ?_⟩
        unfold tYes
        have ly : i2 < qs.length := (List.getElem?_eq_some_iff.mp hy).1
        refine iteT ⟨_, rfl, p, _, _, _, rfl, rfl, SqL.of (keep _ _ pD2 (s4 _ _ hpy)), rfl, _, hD2, ?_, ?_, ?_⟩
        · rw [List.length_take]
          exact Nat.lt_of_le_of_lt (Nat.min_le_left _ _) (Nat.lt_of_lt_of_le (show i2 < 4 by omega) (by decide))
        · intro q o n e
          rw [upd_ne n]
          exact keep q o n e
        · rw [upd_same, List.take_succ, List.getElem?_map, hy]
          rfl
    rintro H5 ⟨keep5, hD2⟩
    rw [List.length_map, ← lqs, List.take_of_length_le (by rw [List.length_map]; exact Nat.le_refl _)] at hD2
    have s45 : Same H3 H5 := fun q o e => keep5 q o (ne_of_none (s4 _ _ e) nD2) (s4 _ _ e)
    have w15 : H5 w1 = some (.lst [V.str z]) := keep5 _ _ (ne_of_none t4 nD2) t4
    refine ⟨_, _, _, _, rfl, rfl, w15, hD2, (by rw [List.length_map]; exact Nat.le_trans (show 1 + qs.length ≤ 4 by omega) (by decide)), fun l6 nl6 => ?_⟩
    obtain ⟨H6, e, s6, t6⟩ := one (.lst ([V.str z] ++ qs.map (·.1))) nl6
    rw [← e]
    clear e
    refine ⟨l6, _, rfl, .inl ⟨SqL.of t6, fun st nst => ?_⟩⟩
    obtain ⟨H7, e, s7, t7⟩ := one (.tup (V.str z :: qs.map (·.1))) nst
    rw [show upd H6 st (.tup ([V.str z] ++ qs.map (·.1))) = H7 from e.symm]
    clear e
    have s37 : Same H3 H7 := s45.trans (s6.trans s7)
    have hD7 := s37 _ _ hDl
    have ft7 := ft.at fun v _ a2 _ o h => s37 _ _ h
    have stp : Stp K C H7 (.ref st) ((qs.map (·.2)).all id) := .inr ⟨st, _, rfl, t7, .inr ⟨_, _, rfl, .inr ⟨z, rfl, .inr ⟨_, fz, .inr ⟨_, ft7, rfl⟩⟩⟩⟩⟩
    -- which items stand there
    refine ⟨_, rfl, _, rfl, D, rfl, ⟨_, SqL.of hD7⟩, fun D3 nD3 => ?_⟩
    refine lc_list (K := K) (a := D) (xs := ps.map V.ref) (fun i H' => (∀ q o, q ≠ D3 → H7 q = some o → H' q = some o) ∧ ∃ acc : List V, H' D3 = some (.lst acc) ∧ acc.isEmpty = ((qs.map (·.2)).take i).all id ∧ acc.length ≤ i)
      ⟨fun q o n e => by rw [upd_ne n]; exact e, [], upd_same, rfl, Nat.le_refl _⟩ (fun i H' _ h => SqL.of (h.1 _ _ (ne_of_none hD7 nD3) hD7)) ?_ ?_
    · rintro i2 x H8 hx ⟨keep, acc, hD3, ea, la⟩
      rw [List.getElem?_map] at hx
      cases hp : ps[i2]? with
      | none => rw [hp] at hx; cases hx
      | some p =>
        rw [hp] at hx
        cases hx
        obtain ⟨y, hy, hpy⟩ := paired_get pr hp
        have pD3 : p ≠ D3 := ne_of_none (s37 _ _ hpy) nD3
        have ly : i2 < qs.length := (List.getElem?_eq_some_iff.mp hy).1
        refine ⟨rfl, ?_⟩
        have tk : ((qs.map (·.2)).take (i2 + 1)).all id = (((qs.map (·.2)).take i2).all id && y.2) := by
          rw [List.take_succ, List.getElem?_map, hy, List.all_append]
          simp
        refine ⟨_, rfl, p, _, _, _, rfl, rfl, SqL.of (keep _ _ pD3 (s37 _ _ hpy)), rfl, _, rfl, ?_⟩
        cases y2 : y.2 with
        | true =>
          refine iteF ⟨keep, acc, hD3, ?_, by omega⟩
          rw [tk, y2, ea, Bool.and_true]
        | false =>
          refine iteT ⟨_, rfl, _, hD3, Nat.lt_of_le_of_lt (show acc.length ≤ 3 by omega) (by decide), ?_, _, upd_same, ?_, by rw [List.length_append]; show acc.length + 1 ≤ i2 + 1; omega⟩
          · intro q o n e
            rw [upd_ne n]
            exact keep q o n e
          · rw [tk, y2, Bool.and_false]
            cases acc <;> rfl
    rintro H8 ⟨keep8, acc, hD3, ea, la⟩
    have hD83 := hD3
    rw [List.length_map, ← lqs, List.take_of_length_le (by rw [List.length_map]; exact Nat.le_refl _)] at ea
    have s78 : Same H7 H8 := fun q o e => keep8 q o (ne_of_none e nD3) e
    refine ⟨(by show 0 ≤ sizeLine; decide), fun l9 nl9 => ?_⟩
    obtain ⟨H9, e, s9, t9⟩ := one (.lst []) nl9
    rw [← e]
    clear e
    have s79 := s78.trans s9
    refine ⟨D3, l9, acc, rfl, rfl, SqL.of (s9 _ _ hD3), SqL.of t9, .ref st, (qs.map (·.2)).all id, acc.isEmpty, rfl, stp.same s79, fun H10 s10 => ?_⟩
    rw [ea, show (((qs.map (·.2)).all id) == ((qs.map (·.2)).all id)) = true from beq_self_eq_true _]
    refine ⟨_, rfl, iteF ?_⟩
    have s710 := s79.trans s10
    have B10 := (B3.same s37).same s710
    have K10 := K03.trans (Kp.same (s37.trans s710))
    have st10 := s710 _ _ t7
    have stb : st ≠ b := ne_of_bx B10 st10
    -- one item more
    refine ⟨_, rfl, _, rfl, b, _, 3, rfl, B10, by omega, by decide, by decide, fun r11 H11 a11 b11 B11 K11 => ?_⟩
    obtain ⟨c11, hc11, hm11⟩ := atI_in (l := ("pmn" : Str).cps.toList) a11 b11
    have pmn : ∀ c ∈ ("pmn" : Str).cps.toList, c = 112 ∨ c = 109 ∨ c = 110 := by decide +kernel
    refine ⟨"pmn", _, c11, rfl, rfl, (by decide +kernel), hc11, b, _, _, fof c11, rfl, letF (pmn c11 hm11), B11, by omega, fun p12 more t12 H12 fv12 fr12 hp12 np12 pb12 B12 K12 => ?_⟩
    refine ⟨p12, _, _, _, rfl, rfl, SqL.of hp12, rfl, ?_⟩
    have K1012 := K11.trans K12
    have st12 := K1012 _ _ stb st10
    -- a place for it
    have lL : (V.str z :: qs.map (·.1)).length = qs.length + 1 := by rw [List.length_cons, List.length_map]
    have q1 : 1 ≤ qs.length := by omega
    have q3 : qs.length ≤ 3 := by omega
    refine ⟨_, rfl, _, rfl, st, _, rfl, .inr (SqT.of st12), b, _, _, rfl, B12, by omega, (by rw [lL]; omega), (by rw [lL]; omega), fun r13 H13 a13 b13 B13 K13 => ⟨_, _, rfl, rfl, ?_⟩⟩
    rw [lL] at b13
    have st13 := K13 _ _ stb st12
    have lm : (qs.map (·.1)).length = qs.length := List.length_map ..
    have K13' := K10.trans (K1012.trans K13)
    clear K1012 K11 K12 K13 B10 B11 B12
    obtain ⟨ch1, ch2⟩ := cut_head1 (x := V.str z) (r := qs.map (·.1)) (i := r13) a13 (by rw [lm]; omega)
    obtain ⟨co1, co2⟩ := cut_one (x := V.str z) (r := qs.map (·.1))
    have cl := cut_last (x := V.str z) (r := qs.map (·.1)) (by rw [lm]; omega)
    have nw1 : ¬ (HT.sIx (V.str z :: qs.map (·.1)).length 0 (some (1 : Int)) = 0 ∧ HT.sIx (V.str z :: qs.map (·.1)).length (V.str z :: qs.map (·.1)).length none = (V.str z :: qs.map (·.1)).length) := fun h => by rw [co2] at h; exact absurd h.1 (by decide)
    have nwl : ¬ (HT.sIx (V.str z :: qs.map (·.1)).length 0 none = 0 ∧ HT.sIx (V.str z :: qs.map (·.1)).length (V.str z :: qs.map (·.1)).length (some (-1 : Int)) = (V.str z :: qs.map (·.1)).length) := fun h => by
      have h2 := h.2
      rw [lL] at h2
      have : HT.sIx (qs.length + 1) (qs.length + 1) (some (-1 : Int)) = qs.length := by
        show (if (-1 : Int) < 0 then ((-1 : Int) + ((qs.length + 1 : Nat) : Int)).toNat else min (-1 : Int).toNat (qs.length + 1)) = qs.length
        rw [if_pos (by decide)]
        omega
      omega
    have big : 10000 ≤ sizeLine := by decide
    have inS : ∀ {G : Hp} {p : Addr}, Same H13 G → True := fun _ => trivial
    -- what is no step
    refine ⟨_, rfl, _, rfl, _, rfl, st, _, rfl, SqT.of st13, nwl, fun a1 na1 => ?_⟩
    rw [cl]
    obtain ⟨H14, e, s14, x1⟩ := one (.tup (V.str z :: (qs.map (·.1)).take ((qs.map (·.1)).length - 1))) na1
    rw [← e]
    clear e
    refine ⟨_, rfl, _, rfl, _, rfl, slA_any (s14 _ _ st13) fun a2 H15 s15 x2 => ?_⟩
    rw [ch1] at x2
    refine ⟨_, rfl, (by show 1 ≤ sizeLine; decide), fun a3 na3 => ?_⟩
    obtain ⟨H16, e, s16, x3⟩ := one (.tup [more]) na3
    rw [← e]
    clear e
    have lt1 : ((qs.map (·.1)).take r13.toNat).length ≤ qs.length := by rw [List.length_take]; omega
    refine catA_any (s16 _ _ x2) x3 (by rw [List.length_cons]; show _ + 1 + 1 ≤ sizeLine; omega) fun a4 H17 s17 x4 => ?_
    refine ⟨_, rfl, _, rfl, _, rfl, ?_⟩
    unfold tNoPart
    refine slA_any (s17 _ _ (s16 _ _ (s15 _ _ (s14 _ _ st13)))) fun a5 H18 s18 x5 => ?_
    rw [ch2] at x5
    have l5 : (z :: []).length = 1 := rfl
    have ld : ((qs.map (·.1)).drop r13.toNat).length ≤ qs.length := by rw [List.length_drop]; omega
    refine catA_any (s18 _ _ x4) x5 (by rw [List.length_append, List.length_cons]; show _ + 1 + 1 + _ ≤ sizeLine; omega) fun a6 H19 s19 x6 => ?_
    have S19 : Same H13 H19 := s14.trans (s15.trans (s16.trans (s17.trans (s18.trans s19))))
    refine ⟨_, rfl, st, _, rfl, .inr (SqT.of (S19 _ _ st13)), fun a7 na7 => ?_⟩
    obtain ⟨H20, e, s20, x7⟩ := one (.lst (V.str z :: qs.map (·.1))) na7
    rw [← e]
    clear e
    have S20 := S19.trans s20
    refine ⟨_, rfl, ⟨_, rfl⟩, _, rfl, rfl, by omega, (by show 1 ≤ sizeLine; decide), fun b1 nb1 => ?_⟩
    obtain ⟨H21, e, s21, y1⟩ := one (.tup [V.str (Txt.upper z)]) nb1
    rw [← e]
    clear e
    have S21 := S20.trans s21
    refine ⟨_, rfl, _, rfl, st, _, rfl, SqT.of (S21 _ _ st13), nw1, fun b2 nb2 => ?_⟩
    rw [co1]
    obtain ⟨H22, e, s22, xb2⟩ := one (.tup (qs.map (·.1))) nb2
    rw [← e]
    clear e
    refine catA_any (s22 _ _ y1) xb2 (by rw [lm]; show 1 + _ ≤ sizeLine; omega) fun a8 H23 s23 x8 => ?_
    have S23 := S21.trans (s22.trans s23)
    refine ⟨(by show 0 ≤ sizeLine; decide), fun a9 na9 => ?_⟩
    obtain ⟨H24, e, s24, x9⟩ := one (.tup []) na9
    rw [← e]
    clear e
    refine ⟨_, rfl, (by show 1 ≤ sizeLine; decide), fun a10 na10 => ?_⟩
    obtain ⟨H25, e, s25, x10⟩ := one (.tup [V.str z]) na10
    rw [← e]
    clear e
    refine ⟨(by show 6 ≤ sizeLine; decide), fun la nla => ?_⟩
    obtain ⟨H26, e, s26, xla⟩ := one (.lst [V.ref a1, V.ref a6, V.ref a7, V.ref a8, V.ref a9, V.ref a10]) nla
    rw [← e]
    clear e
    have S26 := S23.trans (s24.trans (s25.trans s26))
    refine ⟨_, rfl, _, rfl, (by show 1 ≤ sizeLine; decide), fun c1 nc1 => ?_⟩
    obtain ⟨H27, e, s27, z1⟩ := one (.tup [V.non]) nc1
    rw [← e]
    clear e
    have S27 := S26.trans s27
    refine ⟨_, rfl, _, rfl, st, _, rfl, SqT.of (S27 _ _ st13), nw1, fun c2 nc2 => ?_⟩
    rw [co1]
    obtain ⟨H28, e, s28, xc2⟩ := one (.tup (qs.map (·.1))) nc2
    rw [← e]
    clear e
    refine catA_any (s28 _ _ z1) xc2 (by rw [lm]; show 1 + _ ≤ sizeLine; omega) fun a11 H29 s29 x11 => ?_
    have S29 := S27.trans (s28.trans s29)
    refine ⟨_, rfl, _, _, rfl, rfl, (by show z.length + 1 ≤ sizeLine; omega), (by show 1 ≤ sizeLine; decide), fun c3 nc3 => ?_⟩
    obtain ⟨H30, e, s30, z3⟩ := one (.tup [V.str (z ++ " ")]) nc3
    rw [← e]
    clear e
    have S30 := S29.trans s30
    refine ⟨_, rfl, _, rfl, st, _, rfl, SqT.of (S30 _ _ st13), nw1, fun c4 nc4 => ?_⟩
    rw [co1]
    obtain ⟨H31, e, s31, xc4⟩ := one (.tup (qs.map (·.1))) nc4
    rw [← e]
    clear e
    refine catA_any (s31 _ _ z3) xc4 (by rw [lm]; show 1 + _ ≤ sizeLine; omega) fun a12 H32 s32 x12 => ?_
    have S32 := S30.trans (s31.trans s32)
    refine ⟨_, rfl, (by show 1 ≤ sizeLine; decide), fun c5 nc5 => ?_⟩
    obtain ⟨H33, e, s33, z5⟩ := one (.lst [V.str z]) nc5
    rw [← e]
    clear e
    refine ⟨(by show 1 ≤ sizeLine; decide), fun c6 nc6 => ?_⟩
    obtain ⟨H34, e, s34, z6⟩ := one (.tup [V.ref c5]) nc6
    rw [← e]
    clear e
    have S34 := S32.trans (s33.trans s34)
    refine ⟨_, rfl, _, rfl, st, _, rfl, SqT.of (S34 _ _ st13), nw1, fun c7 nc7 => ?_⟩
    rw [co1]
    obtain ⟨H35, e, s35, xc7⟩ := one (.tup (qs.map (·.1))) nc7
    rw [← e]
    clear e
    refine catA_any (s35 _ _ z6) xc7 (by rw [lm]; show 1 + _ ≤ sizeLine; omega) fun a13 H36 s36 x13 => ?_
    refine ⟨(by show 5 ≤ sizeLine; decide), fun lb nlb => ?_⟩
    obtain ⟨H37, e, s37b, xlb⟩ := one (.lst [V.str z, V.non, V.ref a11, V.ref a12, V.ref a13]) nlb
    rw [← e]
    clear e
    have S2737 : Same H26 H37 := s27.trans (s28.trans (s29.trans (s30.trans (s31.trans (s32.trans (s33.trans (s34.trans (s35.trans (s36.trans s37b)))))))))
    refine ⟨_, _, _, _, rfl, rfl, S2737 _ _ xla, xlb, (by show 11 ≤ sizeLine; decide), fun lw nlw => ?_⟩
    obtain ⟨H38, e, s38, xlw⟩ := one (.lst ([V.ref a1, V.ref a6, V.ref a7, V.ref a8, V.ref a9, V.ref a10] ++ [V.str z, V.non, V.ref a11, V.ref a12, V.ref a13])) nlw
    rw [← e]
    clear e
    have S2638 := S2737.trans s38
    have S1338 := S26.trans S2638
    have no : ∀ v ∈ [V.ref a1, V.ref a6, V.ref a7, V.ref a8, V.ref a9, V.ref a10] ++ [V.str z, V.non, V.ref a11, V.ref a12, V.ref a13], Stp K C H38 v false := by
      intro v hv
      have S1938 : Same H19 H38 := s20.trans (s21.trans (s22.trans (s23.trans (s24.trans (s25.trans (s26.trans S2638))))))
      have S1438 : Same H14 H38 := s15.trans (s16.trans (s17.trans (s18.trans (s19.trans S1938))))
      have lf : (fo.cps.toList.map fof).length = qs.length := by rw [List.length_map]; omega
      simp only [List.mem_append, List.mem_cons, List.not_mem_nil, or_false] at hv
      rcases hv with (rfl | rfl | rfl | rfl | rfl | rfl) | (rfl | rfl | rfl | rfl | rfl)
      · exact stp_len (S1438 _ _ x1) fz (by rw [lf, List.length_take, lm]; omega) (by rw [List.length_take]; omega)
      · refine stp_len (r := (qs.map (·.1)).take r13.toNat ++ [more] ++ (qs.map (·.1)).drop r13.toNat) (S1938 _ _ (by simpa using x6)) fz ?_ ?_
        · rw [lf, List.length_append, List.length_append, List.length_take, List.length_drop, lm]
          show min r13.toNat qs.length + 1 + (qs.length - r13.toNat) ≠ qs.length
          omega
        · rw [List.length_append, List.length_append, List.length_take, List.length_drop, lm]
          show min r13.toNat qs.length + 1 + (qs.length - r13.toNat) ≤ 100
          omega
      · exact .inl ⟨_, .base (.lst (s21.trans (s22.trans (s23.trans (s24.trans (s25.trans (s26.trans S2638))))) _ _ x7)), kit_ty (by decide +kernel), rfl⟩
      · exact stp_form ((s24.trans (s25.trans (s26.trans S2638))) _ _ x8) fup
      · exact .inr ⟨a9, _, rfl, (s25.trans (s26.trans S2638)) _ _ x9, .inl ⟨rfl, rfl⟩⟩
      · exact stp_len (r := []) ((s26.trans S2638) _ _ x10) fz (by rw [lf]; show 0 ≠ qs.length; omega) (by decide)
      · exact .inl ⟨_, .base (.str z), kit_ty (by decide +kernel), rfl⟩
      · exact .inl ⟨_, .base .non, kit_ty (by decide +kernel), rfl⟩
      · exact .inr ⟨a11, _, rfl, ((s30.trans (s31.trans (s32.trans (s33.trans (s34.trans (s35.trans (s36.trans (s37b.trans s38)))))))) _ _ x11), .inr ⟨_, _, rfl, .inl ⟨_, .base .non, kit_ty (by decide +kernel), rfl⟩⟩⟩
      · exact stp_form ((s33.trans (s34.trans (s35.trans (s36.trans (s37b.trans s38))))) _ _ x12) fsp
      · exact .inr ⟨a13, _, rfl, (s37b.trans s38) _ _ x13, .inr ⟨_, _, rfl, .inl ⟨_, .base (.lst ((s34.trans (s35.trans (s36.trans (s37b.trans s38)))) _ _ z5)), kit_ty (by decide +kernel), rfl⟩⟩⟩
    have K38 : Kp b H0 H38 := K13'.trans (Kp.same S1338)
    refine ⟨_, rfl, lw, rfl, ⟨_, SqL.of xlw⟩, for_list (K := K) (a := lw) (xs := [V.ref a1, V.ref a6, V.ref a7, V.ref a8, V.ref a9, V.ref a10] ++ [V.str z, V.non, V.ref a11, V.ref a12, V.ref a13]) (fun _ σ H' => ∃ x11 : Option V, σ = [some (.ref a), some (.ref fm), some (.int i), some (.ref b), some (.str z), some (.str fo), some (.ref D), some (.ref st), some more, some (.int (1 + r13)), some (.ref lw), x11, v12, v13] ∧ Same H38 H')
      ⟨_, rfl, Same.refl _⟩ (fun _ σ H' _ ⟨_, _, s⟩ => SqL.of (s _ _ xlw)) ?_ ?_⟩
    · rintro j x σ H39 hx ⟨x11, rfl, s39⟩
      generalize hDE : ({ nx := _, rt := _, bk := _, ct := _ } : Ends) = DE
      have enx : ∀ σ' H', (∃ x11 : Option V, σ' = [some (.ref a), some (.ref fm), some (.int i), some (.ref b), some (.str z), some (.str fo), some (.ref D), some (.ref st), some more, some (.int (1 + r13)), some (.ref lw), x11, v12, v13] ∧ Same H38 H') → DE.nx σ' H' := fun σ' H' h => by
        rw [← hDE]
        exact h
      clear hDE
      refine ⟨_, rfl, x, false, false, rfl, (no x (List.mem_of_getElem? hx)).same s39, fun H40 s40 => ⟨_, rfl, iteF ?_⟩⟩
      exact enx _ _ ⟨_, rfl, s39.trans s40⟩
    · rintro σ H39 ⟨x11, rfl, s39⟩
      exact dnx _ _ ⟨_, _, _, _, _, _, _, _, _, _, _, _, rfl, s0.trans (same_of21 nb (K38.trans (Kp.same s39)))⟩

end
end Mz
set_option Elab.async false
set_option linter.all false
set_option maxRecDepth 100000
set_option maxHeartbeats 4000000
namespace Mz
open PySem PySem.Spec PyProof.Rows L2
theorem kb_one {K : PySem.W.Frag} {x qual : Str} {st : Stmt} {f : Addr} {fd : FuncData} {ps : List Str} (F : Fun K x qual st f fd) (n : Nat) (ks : List Str)
    (h : ∀ (kV doc pm : Value) (an : Option Addr) (cdv ct : Value) (us ws : List Value), us.length = n → ws.length = ks.length → bindArgs (PySem.W.fnOf x qual (defArgs st) (defBody st) (defScope st) .none kV doc pm an cdv ct) ⟨us, ks.zip ws⟩ = pure (ps.zip (us ++ ws))) :
    KBn K fd ps n ks (fun us ws => us ++ ws) (fun vs zs => vs ++ zs) := by
  obtain ⟨oc, od, kV, doc, pm, an, cdv, ct, osl, rfl, lk, hcd⟩ := F.ex
  exact ⟨fun s us ws _ hu hw => .of_eq (h kV doc pm an cdv ct us ws hu hw), fun r1 r2 => r1.append r2⟩
theorem kit_own {K : PySem.W.Frag} {C : Addr} {T : String} (hm : PySem.W.mroIn K C (.type T) = some false) (h2 : PySem.W.kitMeta T = true) : PySem.W.kitOne K (.ref C) (.type T) = some false := by
  unfold PySem.W.kitOne
  rw [if_neg (by intro e; cases e)]
  show (if PySem.W.kitMeta T = true then PySem.W.mroIn K C (.type T) else none) = some false
  rw [if_pos h2, hm]
theorem kit_ref {K : PySem.W.Frag} {C : Addr} {T : String} {b : Bool} (hdct : PySem.W.hasDictIn K C = true) (ht : PySem.W.typeIn K (.ref C) = some (.type "type")) (h4 : PySem.W.subIn K (.type T) (.ref C) = some b) : PySem.W.kitOne K (.type T) (.ref C) = some b := by
  obtain ⟨cd, hc, _⟩ := PySem.W.any_some hdct
  unfold PySem.W.kitOne
  rw [if_neg (by intro e; cases e)]
  show (if ((PySem.W.clsIn K C).isSome && PySem.W.typeIn K (.ref C) == some (.type "type")) = true then PySem.W.subIn K (.type T) (.ref C) else none) = some b
  rw [if_pos (by rw [hc, ht] <;> rfl)]
  exact h4
/-! a written dict from texts to ints -/
def entOf (P : Params) (q : Str × Int × Tok × Tok) : DictEntry := ⟨PyData.keyHash P q.1, .str q.1 q.2.2.1, .int q.2.1 q.2.2.2⟩
def lookF (z : Str) : List (Str × Int × Tok × Tok) → Option Int
  | [] => none
  | q :: r => if z = q.1 then some q.2.1 else lookF z r
theorem lit_of {P : Params} : ∀ l : List (Str × Int × Tok × Tok), PySem.W.KeysLit P (l.map (entOf P))
  | [] => trivial
  | q :: r => ⟨⟨q.1, q.2.2.1, rfl, rfl⟩, lit_of r⟩
theorem find_ent {P : Params} {z : Str} : ∀ l : List (Str × Int × Tok × Tok), (lookF z l = none ∧ (l.map (entOf P)).find? (fun x => x.key.isStr z) = none) ∨
    ∃ i t e, lookF z l = some i ∧ (l.map (entOf P)).find? (fun x => x.key.isStr z) = some e ∧ e.val = .int i t
  | [] => .inl ⟨rfl, rfl⟩
  | q :: r => by
    by_cases h : z = q.1
    · refine .inr ⟨q.2.1, q.2.2.2, entOf P q, if_pos h, ?_, rfl⟩
      rw [List.map_cons, List.find?_cons_of_pos]
      show (q.1 == z) = true
      rw [h]
      exact beq_self_eq_true _
    · have e1 : lookF z (q :: r) = lookF z r := if_neg h
      have e2 : ((q :: r).map (entOf P)).find? (fun x => x.key.isStr z) = (r.map (entOf P)).find? (fun x => x.key.isStr z) := by
        rw [List.map_cons, List.find?_cons_of_neg]
        show ¬ (q.1 == z) = true
        intro x
        exact h (beq_iff_eq.mp x).symm
      rw [e1, e2]
      exact find_ent r
theorem tab_of {K : PySem.W.Frag} {w : World} {d : Addr} {es : Array DictEntry} {n : Nat} {l : List (Str × Int × Tok × Tok)} {f : Str → Option Int} (h : K.lookup d = some ⟨.type "dict", none, .dict es n, #[]⟩) (hl : es.toList = l.map (entOf w.params)) (low : (d == sysModules) = false)
    (hf : ∀ z, f z = lookF z l) : Tab K w d f := by
  refine ⟨es, n, ⟨h, by rw [hl]; exact lit_of l, low⟩, fun z => ?_⟩
  have nr : (es.toList.any fun x => x.refKey) = false := by
    rw [hl]
    rw [List.any_eq_false]
    intro e he
    obtain ⟨q, _, rfl⟩ := List.mem_map.mp he
    exact Bool.false_ne_true
  unfold PySem.W.nsIn
  rw [h]
  dsimp only
  rcases find_ent (P := w.params) (z := z) l with ⟨e1, e2⟩ | ⟨i, t, e, e1, e2, e3⟩
  · rw [hl, e2]
    rw [hl] at nr
    refine ⟨none, ?_, .inl ⟨(hf z).trans e1, rfl⟩⟩
    dsimp only
    rw [nr]
    rfl
  · rw [hl, e2]
    exact ⟨some (.int i t), by rw [← e3], .inr ⟨i, t, (hf z).trans e1, rfl⟩⟩
/-! a written dict from texts to tuples of texts -/
def entR (P : Params) (q : Str × Addr × Tok × List Str) : DictEntry := ⟨PyData.keyHash P q.1, .str q.1 q.2.2.1, .ref q.2.1⟩
theorem litR {P : Params} : ∀ l : List (Str × Addr × Tok × List Str), PySem.W.KeysLit P (l.map (entR P))
  | [] => trivial
  | q :: r => ⟨⟨q.1, q.2.2.1, rfl, rfl⟩, litR r⟩
theorem find_entR {P : Params} {z : Str} : ∀ l : List (Str × Addr × Tok × List Str), (((l.map fun q => (q.1, q.2.2.2)).find? fun q => decide (z = q.1)) = none ∧ (l.map (entR P)).find? (fun x => x.key.isStr z) = none) ∨
    ∃ q ∈ l, ((l.map fun q => (q.1, q.2.2.2)).find? fun q => decide (z = q.1)) = some (q.1, q.2.2.2) ∧ (l.map (entR P)).find? (fun x => x.key.isStr z) = some (entR P q)
  | [] => .inl ⟨rfl, rfl⟩
  | q :: r => by
    by_cases h : z = q.1
    · refine .inr ⟨q, List.mem_cons_self .., ?_, ?_⟩
      · rw [List.map_cons, List.find?_cons_of_pos]
        exact decide_eq_true h
      · rw [List.map_cons, List.find?_cons_of_pos]
        show (q.1 == z) = true
        rw [h]
        exact beq_self_eq_true _
    · have e1 : (((q :: r).map fun q => (q.1, q.2.2.2)).find? fun q => decide (z = q.1)) = ((r.map fun q => (q.1, q.2.2.2)).find? fun q => decide (z = q.1)) := by
        rw [List.map_cons, List.find?_cons_of_neg]
        show ¬ decide (z = q.1) = true
        intro x
        exact h (of_decide_eq_true x)
      have e2 : ((q :: r).map (entR P)).find? (fun x => x.key.isStr z) = (r.map (entR P)).find? (fun x => x.key.isStr z) := by
        rw [List.map_cons, List.find?_cons_of_neg]
        show ¬ (q.1 == z) = true
        intro x
        exact h (beq_iff_eq.mp x).symm
      rw [e1, e2]
      rcases find_entR (P := P) (z := z) r with x | ⟨q2, hq, x⟩
      · exact .inl x
      · exact .inr ⟨q2, List.mem_cons_of_mem _ hq, x⟩
theorem ftab_of {K : PySem.W.Frag} {w : World} {d : Addr} {es : Array DictEntry} {n : Nat} {l : List (Str × Addr × Tok × List Str)} (h : K.lookup d = some ⟨.type "dict", none, .dict es n, #[]⟩) (hl : es.toList = l.map (entR w.params)) (low : (d == sysModules) = false)
    (hf : (l.map fun q => (q.1, q.2.2.2)) = formL) (hs : ∀ q ∈ l, ∀ H, SqT K H q.2.1 (q.2.2.2.map V.str)) : FTab K w d := by
  refine ⟨es, n, ⟨h, by rw [hl]; exact litR l, low⟩, fun z => ?_⟩
  have nr : (es.toList.any fun x => x.refKey) = false := by
    rw [hl]
    rw [List.any_eq_false]
    intro e he
    obtain ⟨q, _, rfl⟩ := List.mem_map.mp he
    exact Bool.false_ne_true
  unfold PySem.W.nsIn formS
  rw [h, ← hf]
  dsimp only
  rcases find_entR (P := w.params) (z := z) l with ⟨e1, e2⟩ | ⟨q, hq, e1, e2⟩
  · rw [hl, e2, e1]
    rw [hl] at nr
    refine ⟨none, ?_, .inl ⟨rfl, rfl⟩⟩
    dsimp only
    rw [nr]
    rfl
  · rw [hl, e2, e1]
    exact ⟨some (.ref q.2.1), rfl, .inr ⟨q.2.2.2, q.2.1, rfl, rfl, hs q hq⟩⟩
theorem all_mk {l : PySem.W.OpenLaw} {w : World} {K : PySem.W.Frag} {h : Heap} {mg : Str → Option Value} {fa : Addr} (X : K.In h) (G : h.Ns mainGlobals mg) (hfa : mg "law" = some (.ref fa))
    {cP cX cM po fI tD kD dtn dts dF pM : Addr} {ro : List Value} {odM : Option Addr} {slM : Array (Option Value)} {nM : Nat} {m1 m2 m3 m4 m5 m6 m7 : Tok}
    {fwh : Addr} {odwh anwh : Option Addr} {slwh : Array (Option Value)} {ocwh kVwh dcwh pmwh cdwh ctwh : Value}
    {fii : Addr} {odii anii : Option Addr} {slii : Array (Option Value)} {ocii kVii dcii pmii cdii ctii : Value}
    {fna : Addr} {odna anna : Option Addr} {slna : Array (Option Value)} {ocna kVna dcna pmna cdna ctna : Value}
    {fma : Addr} {odma anma : Option Addr} {slma : Array (Option Value)} {ocma kVma dcma pmma cdma ctma : Value}
    {fip : Addr} {odip anip : Option Addr} {slip : Array (Option Value)} {ocip kVip dcip pmip cdip ctip : Value}
    {fle : Addr} {odle anle : Option Addr} {slle : Array (Option Value)} {ocle kVle dcle pmle cdle ctle : Value}
    {fpt : Addr} {odpt anpt : Option Addr} {slpt : Array (Option Value)} {ocpt kVpt dcpt pmpt cdpt ctpt : Value}
    {ffi : Addr} {odfi anfi : Option Addr} {slfi : Array (Option Value)} {ocfi kVfi dcfi pmfi cdfi ctfi : Value}
    {fis : Addr} {odis anis : Option Addr} {slis : Array (Option Value)} {ocis kVis dcis pmis cdis ctis : Value}
    {fce : Addr} {odce ance : Option Addr} {slce : Array (Option Value)} {occe kVce dcce pmce cdce ctce : Value}
    {fbo : Addr} {odbo anbo : Option Addr} {slbo : Array (Option Value)} {ocbo kVbo dcbo pmbo cdbo ctbo : Value}
    {fta : Addr} {odta anta : Option Addr} {slta : Array (Option Value)} {octa kVta dcta pmta cdta ctta : Value}
    {fwo : Addr} {odwo anwo : Option Addr} {slwo : Array (Option Value)} {ocwo kVwo dcwo pmwo cdwo ctwo : Value}
    {fit : Addr} {odit anit : Option Addr} {slit : Array (Option Value)} {ocit kVit dcit pmit cdit ctit : Value}
    {fri : Addr} {odri anri : Option Addr} {slri : Array (Option Value)} {ocri kVri dcri pmri cdri ctri : Value}
    {fla : Addr} {odla anla : Option Addr} {slla : Array (Option Value)} {ocla kVla dcla pmla cdla ctla : Value}
    {fmo : Addr} {odmo anmo : Option Addr} {slmo : Array (Option Value)} {ocmo kVmo dcmo pmmo cdmo ctmo : Value}
    {fmx : Addr} {odmx anmx : Option Addr} {slmx : Array (Option Value)} {ocmx kVmx dcmx pmmx cdmx ctmx : Value}
    (awh : PySem.W.nsIn K mainGlobals "_is_whole" = some (some (.ref fwh))) (lwh : K.lookup fwh = some ⟨ocwh, odwh, .func (PySem.W.fnOf "_is_whole" "_is_whole" (defArgs sWhole) (defBody sWhole) (defScope sWhole) .none kVwh dcwh pmwh anwh cdwh ctwh), slwh⟩) (cwh : PySem.W.codeIn K cdwh "_is_whole" = true) (kwh : PySem.W.keepIn K (.ref fwh) = true)
    (aii : PySem.W.nsIn K mainGlobals "is_integer" = some (some (.ref fii))) (lii : K.lookup fii = some ⟨ocii, odii, .func (PySem.W.fnOf "is_integer" "is_integer" (defArgs sIsInt) (defBody sIsInt) (defScope sIsInt) .none kVii dcii pmii anii cdii ctii), slii⟩) (cii : PySem.W.codeIn K cdii "is_integer" = true) (kii : PySem.W.keepIn K (.ref fii) = true)
    (ana : PySem.W.nsIn K mainGlobals "is_name" = some (some (.ref fna))) (lna : K.lookup fna = some ⟨ocna, odna, .func (PySem.W.fnOf "is_name" "is_name" (defArgs sIsName) (defBody sIsName) (defScope sIsName) .none kVna dcna pmna anna cdna ctna), slna⟩) (cna : PySem.W.codeIn K cdna "is_name" = true) (kna : PySem.W.keepIn K (.ref fna) = true)
    (ama : PySem.W.nsIn K mainGlobals "is_mark" = some (some (.ref fma))) (lma : K.lookup fma = some ⟨ocma, odma, .func (PySem.W.fnOf "is_mark" "is_mark" (defArgs sIsMark) (defBody sIsMark) (defScope sIsMark) .none kVma dcma pmma anma cdma ctma), slma⟩) (cma : PySem.W.codeIn K cdma "is_mark" = true) (kma : PySem.W.keepIn K (.ref fma) = true)
    (aip : PySem.W.nsIn K mainGlobals "is_place" = some (some (.ref fip))) (lip : K.lookup fip = some ⟨ocip, odip, .func (PySem.W.fnOf "is_place" "is_place" (defArgs sIsPlace) (defBody sIsPlace) (defScope sIsPlace) .none kVip dcip pmip anip cdip ctip), slip⟩) (cip : PySem.W.codeIn K cdip "is_place" = true) (kip : PySem.W.keepIn K (.ref fip) = true)
    (ale : PySem.W.nsIn K mainGlobals "_least_shift" = some (some (.ref fle))) (lle : K.lookup fle = some ⟨ocle, odle, .func (PySem.W.fnOf "_least_shift" "_least_shift" (defArgs sLeast) (defBody sLeast) (defScope sLeast) .none kVle dcle pmle anle cdle ctle), slle⟩) (cle : PySem.W.codeIn K cdle "_least_shift" = true) (kle : PySem.W.keepIn K (.ref fle) = true)
    (apt : PySem.W.nsIn K mainGlobals "_parts_of_text" = some (some (.ref fpt))) (lpt : K.lookup fpt = some ⟨ocpt, odpt, .func (PySem.W.fnOf "_parts_of_text" "_parts_of_text" (defArgs sParts) (defBody sParts) (defScope sParts) .none kVpt dcpt pmpt anpt cdpt ctpt), slpt⟩) (cpt : PySem.W.codeIn K cdpt "_parts_of_text" = true) (kpt : PySem.W.keepIn K (.ref fpt) = true)
    (afi : PySem.W.nsIn K mainGlobals "_fits" = some (some (.ref ffi))) (lfi : K.lookup ffi = some ⟨ocfi, odfi, .func (PySem.W.fnOf "_fits" "_fits" (defArgs sFits) (defBody sFits) (defScope sFits) .none kVfi dcfi pmfi anfi cdfi ctfi), slfi⟩) (cfi : PySem.W.codeIn K cdfi "_fits" = true) (kfi : PySem.W.keepIn K (.ref ffi) = true)
    (ais : PySem.W.nsIn K mainGlobals "is_step" = some (some (.ref fis))) (lis : K.lookup fis = some ⟨ocis, odis, .func (PySem.W.fnOf "is_step" "is_step" (defArgs sIsStep) (defBody sIsStep) (defScope sIsStep) .none kVis dcis pmis anis cdis ctis), slis⟩) (cis : PySem.W.codeIn K cdis "is_step" = true) (kis : PySem.W.keepIn K (.ref fis) = true)
    (ace : PySem.W.nsIn K mainGlobals "_law_cell" = some (some (.ref fce))) (lce : K.lookup fce = some ⟨occe, odce, .func (PySem.W.fnOf "_law_cell" "_law_cell" (defArgs sCell) (defBody sCell) (defScope sCell) .none kVce dcce pmce ance cdce ctce), slce⟩) (cce : PySem.W.codeIn K cdce "_law_cell" = true) (kce : PySem.W.keepIn K (.ref fce) = true)
    (abo : PySem.W.nsIn K mainGlobals "_law_box" = some (some (.ref fbo))) (lbo : K.lookup fbo = some ⟨ocbo, odbo, .func (PySem.W.fnOf "_law_box" "_law_box" (defArgs sBox) (defBody sBox) (defScope sBox) .none kVbo dcbo pmbo anbo cdbo ctbo), slbo⟩) (cbo : PySem.W.codeIn K cdbo "_law_box" = true) (kbo : PySem.W.keepIn K (.ref fbo) = true)
    (ata : PySem.W.nsIn K mainGlobals "_law_take" = some (some (.ref fta))) (lta : K.lookup fta = some ⟨octa, odta, .func (PySem.W.fnOf "_law_take" "_law_take" (defArgs sTake) (defBody sTake) (defScope sTake) .none kVta dcta pmta anta cdta ctta), slta⟩) (cta : PySem.W.codeIn K cdta "_law_take" = true) (kta : PySem.W.keepIn K (.ref fta) = true)
    (awo : PySem.W.nsIn K mainGlobals "_law_word" = some (some (.ref fwo))) (lwo : K.lookup fwo = some ⟨ocwo, odwo, .func (PySem.W.fnOf "_law_word" "_law_word" (defArgs sWord) (defBody sWord) (defScope sWord) .none kVwo dcwo pmwo anwo cdwo ctwo), slwo⟩) (cwo : PySem.W.codeIn K cdwo "_law_word" = true) (kwo : PySem.W.keepIn K (.ref fwo) = true)
    (ait : PySem.W.nsIn K mainGlobals "_law_item" = some (some (.ref fit))) (lit : K.lookup fit = some ⟨ocit, odit, .func (PySem.W.fnOf "_law_item" "_law_item" (defArgs sItem) (defBody sItem) (defScope sItem) .none kVit dcit pmit anit cdit ctit), slit⟩) (cit : PySem.W.codeIn K cdit "_law_item" = true) (kit : PySem.W.keepIn K (.ref fit) = true)
    (ari : PySem.W.nsIn K mainGlobals "_law_right" = some (some (.ref fri))) (lri : K.lookup fri = some ⟨ocri, odri, .func (PySem.W.fnOf "_law_right" "_law_right" (defArgs sRight) (defBody sRight) (defScope sRight) .none kVri dcri pmri anri cdri ctri), slri⟩) (cri : PySem.W.codeIn K cdri "_law_right" = true) (kri : PySem.W.keepIn K (.ref fri) = true)
    (ala : PySem.W.nsIn K mainGlobals "law" = some (some (.ref fla))) (lla : K.lookup fla = some ⟨ocla, odla, .func (PySem.W.fnOf "law" "law" (defArgs sLaw) (defBody sLaw) (defScope sLaw) .none kVla dcla pmla anla cdla ctla), slla⟩) (cla : PySem.W.codeIn K cdla "law" = true) (kla : PySem.W.keepIn K (.ref fla) = true)
    (aCP : PySem.W.nsIn K mainGlobals "Place" = some (some (.ref cP)))
    (aCX : PySem.W.nsIn K mainGlobals "InvalidPlace" = some (some (.ref cX)))
    (aCM : PySem.W.nsIn K mainGlobals "MapError" = some (some (.ref cM)))
    (amo : PySem.W.findCls K (.ref cP) (.type "type") "of" = some (.get (.builtin "classmethod.__get__") (.ref po) .none (.ref cP))) (amo2 : PySem.W.recIn K po "classmethod" = some (.ref fmo :: ro)) (lmo : K.lookup fmo = some ⟨ocmo, odmo, .func (PySem.W.fnOf "of" "Place.of" (defArgs (inClass sPlace 1)) (defBody (inClass sPlace 1)) (defScope (inClass sPlace 1)) .none kVmo dcmo pmmo anmo cdmo ctmo), slmo⟩) (cmo : PySem.W.codeIn K cdmo "Place.of" = true) (kmo : PySem.W.keepIn K (.ref fmo) = true)
    (amx : PySem.W.findIn K (.ref cX) "__init__" = some (some (.ref fmx))) (lmx : K.lookup fmx = some ⟨ocmx, odmx, .func (PySem.W.fnOf "__init__" "InvalidPlace.__init__" (defArgs (inClass sInvPlace 0)) (defBody (inClass sInvPlace 0)) (defScope (inClass sInvPlace 0)) .none kVmx dcmx pmmx anmx cdmx ctmx), slmx⟩) (cmx : PySem.W.codeIn K cdmx "InvalidPlace.__init__" = true) (kmx : PySem.W.keepIn K (.ref fmx) = true)
    (fo : PySem.W.fnIn K fmo = true)
    (tX : PySem.W.typeIn K (.ref fmx) = some (.type "function"))
    {odI anI odT : Option Addr} {slI slT : Array (Option Value)} {ocI dcI pmI cdI ctI : Value} {nT : Nat} {kT kS kL kA kM : Tok}
    (iI : PySem.W.findIn K (.ref cP) "__init__" = some (some (.ref fI)))
    (jI : PySem.W.isFn K (.ref fI) = true)
    (lI : K.lookup fI = some ⟨ocI, odI, .func (PySem.W.fnOf "__init__" "Place.__init__" (defArgs (inClass sPlace 0)) (defBody (inClass sPlace 0)) (defScope (inClass sPlace 0)) (.ref tD) (.ref kD) dcI pmI anI cdI ctI), slI⟩)
    (cI : PySem.W.codeIn K cdI "Place.__init__" = true)
    (kI : PySem.W.keepIn K (.ref fI) = true)
    (lT : K.lookup tD = some ⟨.type "tuple", odT, .seq #[.str "" kT] nT, slT⟩)
    (sD : PySem.W.nsIn K kD "shift" = some (some (.int 0 kS)))
    (pg : PySem.W.plainGet K cP Str.empty = true)
    (hd : PySem.W.hasDictIn K cP = true)
    (pv_ : PySem.W.plainOver K cP = true)
    (sa : PySem.W.findIn K (.ref cP) "__setattr__" = some (some (.builtin "object.__setattr__")))
    (mk : PySem.W.makesIn K cP = true)
    (kc : PySem.W.keepIn K (.ref cP) = true)
    (nB : PySem.W.findIn K (.ref cP) "_base" = some none)
    (nS : PySem.W.findIn K (.ref cP) "_shift" = some none)
    (ha : PySem.W.findIn K (.ref cP) "__class__" = some (some (.builtin "object.__class__")))
    (hn : PySem.W.specialIn K (.builtin "object.__class__") "__get__" = some (some (.builtin "getset_descriptor.__get__")))
    (htk : PySem.W.takesIn K (.builtin "object.__class__") = some true)
    (hm : PySem.W.mroIn K cP (.type "object") = some true)
    (ks : PySem.W.mroIn K cP (.type "str") = some false)
    (ki : PySem.W.mroIn K cP (.type "int") = some false)
    (kt : PySem.W.mroIn K cP (.type "tuple") = some false)
    (tP : PySem.W.typeIn K (.ref cP) = some (.type "type"))
    (rdP : PySem.W.readsIn K cP (.type "type") = true)
    (gaP : PySem.W.specialIn K (.ref cP) "__getattribute__" = some (some (.builtin "type.__getattribute__")))
    {nm qq : Str} {NN : Addr} {bs bm : List Value} {sn : List Str} {sub : List Value} {ab : Bool} {col : Option Bool} {dd : Option Addr} {k0 k1 k2 k3 k5 : Option Value}
    (lX : K.lookup cX = some (excClassObj nm qq cX NN bs bm true sn sub ab col dd k0 k1 k2 k3 k5 "ValueError.__new__"))
    (rX : PySem.HandSPX.refsVE bm = true)
    (saX : PySem.W.findIn K (.ref cX) "__setattr__" = some (some (.builtin "object.__setattr__")))
    (exX : PySem.W.subIn K (.ref cX) (.type "BaseException") = some true)
    (tyX : PySem.W.typeIn K (.ref cX) = some (.type "type"))
    (kX : PySem.W.keepIn K (.ref cX) = true)
    (noX : PySem.W.findIn K (.ref cX) "value" = some none)
    (gaX : PySem.W.findIn K (.ref cX) "__getattribute__" = some (some (.builtin "BaseException.__getattribute__")))
    (ggX : PySem.W.findIn K (.ref cX) "__getattr__" = some none)
    (hdX : PySem.W.hasDictIn K cX = true)
    (suX : PySem.W.subIn K (.ref cX) (.ref cX) = some true)
    (rdM : PySem.W.readsIn K cM (.type "type") = true)
    (gaM : PySem.W.specialIn K (.ref cM) "__getattribute__" = some (some (.builtin "type.__getattribute__")))
    (fcM : PySem.W.findCls K (.ref cM) (.type "type") "__init__" = some (.val (.builtin "ValueError.__init__")))
    (gL : PySem.W.nsIn K mainGlobals "_LONGEST_NAME" = some (some (.int 6 kL)))
    (gA : PySem.W.nsIn K mainGlobals "_LETTERS" = some (some (.str abc kA)))
    (gM : PySem.W.nsIn K mainGlobals "_MOST" = some (some (.int 3 kM)))
    (gN : PySem.W.nsIn K mainGlobals "_NO_MARKS" = some (some (.ref pM)))
    (lM : K.lookup pM = some ⟨.type "tuple", odM, .seq #[.str "old" m1, .str "zero" m2, .str "end" m3, .str "fails" m4, .str "more" m5, .str "done" m6, .str "none" m7] nM, slM⟩)
    {zntn : Nat} {utn0 utn1 utn2 utn3 : Int} {ptn0 qtn0 ptn1 qtn1 ptn2 qtn2 ptn3 qtn3 : Tok}
    (gtn : PySem.W.nsIn K mainGlobals "_NUMBERS" = some (some (.ref dtn)))
    (ttn : K.lookup dtn = some ⟨.type "dict", none, .dict #[⟨utn0, .str "0" ptn0, .int 0 qtn0⟩, ⟨utn1, .str "1" ptn1, .int 1 qtn1⟩, ⟨utn2, .str "2" ptn2, .int 2 qtn2⟩, ⟨utn3, .str "3" ptn3, .int 3 qtn3⟩] zntn, #[]⟩)
    (etn0 : utn0 = PyData.keyHash w.params "0")
    (etn1 : utn1 = PyData.keyHash w.params "1")
    (etn2 : utn2 = PyData.keyHash w.params "2")
    (etn3 : utn3 = PyData.keyHash w.params "3")
    (wtn : (dtn == sysModules) = false)
    {znts : Nat} {uts0 uts1 uts2 uts3 uts4 uts5 : Int} {pts0 qts0 pts1 qts1 pts2 qts2 pts3 qts3 pts4 qts4 pts5 qts5 : Tok}
    (gts : PySem.W.nsIn K mainGlobals "_SHIFTS" = some (some (.ref dts)))
    (tts : K.lookup dts = some ⟨.type "dict", none, .dict #[⟨uts0, .str "-3" pts0, .int (-3) qts0⟩, ⟨uts1, .str "-2" pts1, .int (-2) qts1⟩, ⟨uts2, .str "-1" pts2, .int (-1) qts2⟩, ⟨uts3, .str "+1" pts3, .int 1 qts3⟩, ⟨uts4, .str "+2" pts4, .int 2 qts4⟩, ⟨uts5, .str "+3" pts5, .int 3 qts5⟩] znts, #[]⟩)
    (ets0 : uts0 = PyData.keyHash w.params "-3")
    (ets1 : uts1 = PyData.keyHash w.params "-2")
    (ets2 : uts2 = PyData.keyHash w.params "-1")
    (ets3 : uts3 = PyData.keyHash w.params "+1")
    (ets4 : uts4 = PyData.keyHash w.params "+2")
    (ets5 : uts5 = PyData.keyHash w.params "+3")
    (wts : (dts == sysModules) = false)
    {znF : Nat} {uF0 uF1 uF2 uF3 uF4 uF5 uF6 uF7 uF8 : Int} {aF0 aF1 aF2 aF3 aF4 aF5 aF6 aF7 aF8 : Addr} {oF0 oF1 oF2 oF3 oF4 oF5 oF6 oF7 oF8 : Option Addr} {sF0 sF1 sF2 sF3 sF4 sF5 sF6 sF7 sF8 : Array (Option Value)} {nF0 nF1 nF2 nF3 nF4 nF5 nF6 nF7 nF8 : Nat} {pF0 pF1 pF2 pF3 pF4 pF5 pF6 pF7 pF8 qF0_0 qF1_0 qF1_1 qF1_2 qF2_0 qF3_0 qF4_0 qF4_1 qF5_0 qF6_0 qF6_1 qF7_0 qF8_0 : Tok}
    (gF : PySem.W.nsIn K mainGlobals "_FORMS" = some (some (.ref dF)))
    (tF : K.lookup dF = some ⟨.type "dict", none, .dict #[⟨uF0, .str "cut" pF0, .ref aF0⟩, ⟨uF1, .str "write" pF1, .ref aF1⟩, ⟨uF2, .str "read" pF2, .ref aF2⟩, ⟨uF3, .str "look" pF3, .ref aF3⟩, ⟨uF4, .str "store" pF4, .ref aF4⟩, ⟨uF5, .str "test" pF5, .ref aF5⟩, ⟨uF6, .str "sync" pF6, .ref aF6⟩, ⟨uF7, .str "lock" pF7, .ref aF7⟩, ⟨uF8, .str "unlock" pF8, .ref aF8⟩] znF, #[]⟩)
    (eF0 : uF0 = PyData.keyHash w.params "cut")
    (eF1 : uF1 = PyData.keyHash w.params "write")
    (eF2 : uF2 = PyData.keyHash w.params "read")
    (eF3 : uF3 = PyData.keyHash w.params "look")
    (eF4 : uF4 = PyData.keyHash w.params "store")
    (eF5 : uF5 = PyData.keyHash w.params "test")
    (eF6 : uF6 = PyData.keyHash w.params "sync")
    (eF7 : uF7 = PyData.keyHash w.params "lock")
    (eF8 : uF8 = PyData.keyHash w.params "unlock")
    (wF : (dF == sysModules) = false)
    (lF0 : K.lookup aF0 = some ⟨.type "tuple", oF0, .seq #[.str "place" qF0_0] nF0, sF0⟩)
    (lF1 : K.lookup aF1 = some ⟨.type "tuple", oF1, .seq #[.str "place" qF1_0, .str "place" qF1_1, .str "mark" qF1_2] nF1, sF1⟩)
    (lF2 : K.lookup aF2 = some ⟨.type "tuple", oF2, .seq #[.str "place" qF2_0] nF2, sF2⟩)
    (lF3 : K.lookup aF3 = some ⟨.type "tuple", oF3, .seq #[.str "place" qF3_0] nF3, sF3⟩)
    (lF4 : K.lookup aF4 = some ⟨.type "tuple", oF4, .seq #[.str "place" qF4_0, .str "mark" qF4_1] nF4, sF4⟩)
    (lF5 : K.lookup aF5 = some ⟨.type "tuple", oF5, .seq #[.str "place" qF5_0] nF5, sF5⟩)
    (lF6 : K.lookup aF6 = some ⟨.type "tuple", oF6, .seq #[.str "place" qF6_0, .str "place" qF6_1] nF6, sF6⟩)
    (lF7 : K.lookup aF7 = some ⟨.type "tuple", oF7, .seq #[.str "name" qF7_0] nF7, sF7⟩)
    (lF8 : K.lookup aF8 = some ⟨.type "tuple", oF8, .seq #[.str "name" qF8_0] nF8, sF8⟩)
    (zlen : PySem.W.nsIn K mainGlobals "len" = some none)
    (zmax : PySem.W.nsIn K mainGlobals "max" = some none)
    (zmin : PySem.W.nsIn K mainGlobals "min" = some none)
    (zint : PySem.W.nsIn K mainGlobals "int" = some none)
    (zrange : PySem.W.nsIn K mainGlobals "range" = some none)
    (zisinstance : PySem.W.nsIn K mainGlobals "isinstance" = some none)
    (zbool : PySem.W.nsIn K mainGlobals "bool" = some none)
    (zstr : PySem.W.nsIn K mainGlobals "str" = some none)
    (zall : PySem.W.nsIn K mainGlobals "all" = some none)
    (ztuple : PySem.W.nsIn K mainGlobals "tuple" = some none)
    (zlist : PySem.W.nsIn K mainGlobals "list" = some none)
    (zzip : PySem.W.nsIn K mainGlobals "zip" = some none)
    : ∃ fd : FuncData, (∀ (s : Shared) (v : Value), BindsTo s fd ⟨[v], []⟩ [("_law_script", v)]) ∧ ∀ base : Heap, K.In base → base.Ns mainGlobals mg → FnG l.prog w K mg base CX0 10 fa fd ["_law_script"] (spLaw K) := by
  have e := hfa.symm.trans (PySem.W.mg_of X G ala)
  cases e
  have B : Blt mg := ⟨PySem.W.mg_none_of X G zlen, PySem.W.mg_none_of X G zmax, PySem.W.mg_none_of X G zmin, PySem.W.mg_none_of X G zint, PySem.W.mg_none_of X G zrange⟩
  have D : Blp mg := ⟨PySem.W.mg_none_of X G zisinstance, PySem.W.mg_none_of X G zbool, PySem.W.mg_none_of X G zstr, PySem.W.mg_none_of X G zall⟩
  have Fwh := fun_mk (st := sWhole) lwh cwh kwh
  have bwh := Fwh.binds (ps := ["value"]) fun _ _ _ _ _ _ us hl => match us, hl with | [_], _ => rfl
  have mwh := PySem.W.mg_of X G awh
  have Fii := fun_mk (st := sIsInt) lii cii kii
  have bii := Fii.binds (ps := ["value", "low", "high"]) fun _ _ _ _ _ _ us hl => match us, hl with | [_, _, _], _ => rfl
  have mii := PySem.W.mg_of X G aii
  have Fna := fun_mk (st := sIsName) lna cna kna
  have bna := Fna.binds (ps := ["value"]) fun _ _ _ _ _ _ us hl => match us, hl with | [_], _ => rfl
  have mna := PySem.W.mg_of X G ana
  have Fma := fun_mk (st := sIsMark) lma cma kma
  have bma := Fma.binds (ps := ["value"]) fun _ _ _ _ _ _ us hl => match us, hl with | [_], _ => rfl
  have mma := PySem.W.mg_of X G ama
  have Fip := fun_mk (st := sIsPlace) lip cip kip
  have bip := Fip.binds (ps := ["value"]) fun _ _ _ _ _ _ us hl => match us, hl with | [_], _ => rfl
  have mip := PySem.W.mg_of X G aip
  have Fle := fun_mk (st := sLeast) lle cle kle
  have ble := Fle.binds (ps := ["base"]) fun _ _ _ _ _ _ us hl => match us, hl with | [_], _ => rfl
  have mle := PySem.W.mg_of X G ale
  have Fpt := fun_mk (st := sParts) lpt cpt kpt
  have bpt := Fpt.binds (ps := ["text"]) fun _ _ _ _ _ _ us hl => match us, hl with | [_], _ => rfl
  have mpt := PySem.W.mg_of X G apt
  have Ffi := fun_mk (st := sFits) lfi cfi kfi
  have bfi := Ffi.binds (ps := ["item", "form"]) fun _ _ _ _ _ _ us hl => match us, hl with | [_, _], _ => rfl
  have mfi := PySem.W.mg_of X G afi
  have Fis := fun_mk (st := sIsStep) lis cis kis
  have bis := Fis.binds (ps := ["value"]) fun _ _ _ _ _ _ us hl => match us, hl with | [_], _ => rfl
  have mis := PySem.W.mg_of X G ais
  have Fce := fun_mk (st := sCell) lce cce kce
  have bce := Fce.binds (ps := ["_law_script", "_law_k"]) fun _ _ _ _ _ _ us hl => match us, hl with | [_, _], _ => rfl
  have mce := PySem.W.mg_of X G ace
  have Fbo := fun_mk (st := sBox) lbo cbo kbo
  have bbo := Fbo.binds (ps := ["_law_cell_here"]) fun _ _ _ _ _ _ us hl => match us, hl with | [_], _ => rfl
  have mbo := PySem.W.mg_of X G abo
  have Fta := fun_mk (st := sTake) lta cta kta
  have bta := Fta.binds (ps := ["_law_box_here", "_law_many"]) fun _ _ _ _ _ _ us hl => match us, hl with | [_, _], _ => rfl
  have mta := PySem.W.mg_of X G ata
  have Fwo := fun_mk (st := sWord) lwo cwo kwo
  have bwo := Fwo.binds (ps := ["_law_box_here"]) fun _ _ _ _ _ _ us hl => match us, hl with | [_], _ => rfl
  have mwo := PySem.W.mg_of X G awo
  have Fit := fun_mk (st := sItem) lit cit kit
  have bit := Fit.binds (ps := ["_law_box_here", "_law_letter"]) fun _ _ _ _ _ _ us hl => match us, hl with | [_, _], _ => rfl
  have mit := PySem.W.mg_of X G ait
  have Fri := fun_mk (st := sRight) lri cri kri
  have bri := Fri.binds (ps := ["_law_thing", "_law_due"]) fun _ _ _ _ _ _ us hl => match us, hl with | [_, _], _ => rfl
  have mri := PySem.W.mg_of X G ari
  have Fla := fun_mk (st := sLaw) lla cla kla
  have bla := Fla.binds (ps := ["_law_script"]) fun _ _ _ _ _ _ us hl => match us, hl with | [_], _ => rfl
  have mla := PySem.W.mg_of X G ala
  have Fmo := fun_mk (st := (inClass sPlace 1)) lmo cmo kmo
  have bmo := Fmo.binds (ps := ["cls", "value"]) fun _ _ _ _ _ _ us hl => match us, hl with | [_, _], _ => rfl
  have Fmx := fun_mk (st := (inClass sInvPlace 0)) lmx cmx kmx
  have bmx := Fmx.binds (ps := ["self", "value"]) fun _ _ _ _ _ _ us hl => match us, hl with | [_, _], _ => rfl
  have FI : FunD K "__init__" "Place.__init__" (defArgs (inClass sPlace 0)) (defBody (inClass sPlace 0)) (defScope (inClass sPlace 0)) [.str ""] [("shift", .int 0)] fI _ :=
    ⟨⟨ocI, odI, .ref tD, .ref kD, dcI, pmI, anI, cdI, ctI, slI, rfl, lI, cI, .inr ⟨by simp, tD, _, [.str "" kT], nT, rfl, lT, rfl, .cons ⟨kT, rfl⟩ .nil⟩, .inr ⟨kD, rfl, fun q hq => by
      rw [List.mem_singleton.mp hq]
      exact ⟨_, sD, ⟨kS, rfl⟩⟩⟩⟩, kI⟩
  obtain ⟨ds2, hds2, bI2⟩ := FunD.binds (ps := ["self", "base", "shift"]) FI 2 1 (by simp) rfl (fun T D doc pm an cdv ct us its ks l1 l2 l3 => match us, its, ks, l1, l2, l3 with
    | [_, _], [_], [_], _, _, _ => ⟨_, rfl, ⟨_, _, _, _, _, _, rfl, rfl, rfl⟩⟩) (by simp)
  obtain ⟨its1, mv1, kb1⟩ := FunD.kbinds (ps := ["self", "base", "shift"]) FI 1 ["shift"] [] (fun us its _ ws => us ++ its ++ ws) (by simp) (by simp) (fun q hq => nomatch hq) (fun r1 r2 _ r4 => (r1.append r2).append r4)
    (fun T D doc pm an cdv ct us its mv ws l1 l2 l3 l4 => match us, its, mv, ws, l1, l2, l3, l4 with
    | [_], [_], [], [_], _, _, _, _ => ⟨_, rfl, rfl⟩)
  obtain ⟨its2, mv2, kb2⟩ := FunD.kbinds (ps := ["self", "base", "shift"]) FI 2 ["shift"] [] (fun us _ _ ws => us ++ ws) (by simp) (by simp) (fun q hq => nomatch hq) (fun r1 _ _ r4 => r1.append r4)
    (fun T D doc pm an cdv ct us its mv ws l1 l2 l3 l4 => match us, its, mv, ws, l1, l2, l3, l4 with
    | [_, _], [_], [], [_], _, _, _, _ => ⟨_, rfl, rfl⟩)
  have Z : Cpl K mg cP := ⟨⟨pg, hd, pv_, sa⟩, nB, nS, PySem.W.mg_of X G aCP⟩
  have Y : Pty K cP := ⟨⟨pg, hd, pv_, sa⟩, ha, hn, htk, hm⟩
  have N1 : Npl K cP := ⟨kit_ref hd tP rfl, kit_ref hd tP rfl, kit_ref hd tP rfl, kit_ref hd tP rfl⟩
  have N2 : Npx K cP := ⟨kit_ref hd tP rfl, kit_ref hd tP rfl, kit_own ki (by decide +kernel), kit_own ks (by decide +kernel), kit_own kt (by decide +kernel)⟩
  have M : Mk K cP fI := ⟨mk, iI, jI, kc⟩
  have TX : Xcl K mg "InvalidPlace" cX "value" := ⟨⟨⟨nm, qq, NN, bs, bm, sn, sub, ab, col, dd, k0, k1, k2, k3, k5, lX, rX⟩, saX, exX, tyX, kX⟩, noX, PySem.W.mg_of X G aCX, ⟨gaX, ggX, exX, hdX⟩⟩
  have te : PySem.W.exmOne K (.ref cX) (.ref cX) = some true := PySem.W.exm_ref exX hdX tyX suX
  have hM : ∀ H, SqT K H pM noMarks := fun H => .inr ⟨_, _, _, lM, rfl, rfl, (by show 7 ≤ sizeLine; decide), .cons ⟨_, rfl⟩ (.cons ⟨_, rfl⟩ (.cons ⟨_, rfl⟩ (.cons ⟨_, rfl⟩ (.cons ⟨_, rfl⟩ (.cons ⟨_, rfl⟩ (.cons ⟨_, rfl⟩ .nil))))))⟩
  have sq0 : ∀ H, SqT K H aF0 ((["place"] : List Str).map V.str) := fun H => .inr ⟨_, _, _, lF0, rfl, rfl, (by show 1 ≤ sizeLine; decide), (.cons ⟨_, rfl⟩ .nil)⟩
  have sq1 : ∀ H, SqT K H aF1 ((["place", "place", "mark"] : List Str).map V.str) := fun H => .inr ⟨_, _, _, lF1, rfl, rfl, (by show 3 ≤ sizeLine; decide), (.cons ⟨_, rfl⟩ (.cons ⟨_, rfl⟩ (.cons ⟨_, rfl⟩ .nil)))⟩
  have sq2 : ∀ H, SqT K H aF2 ((["place"] : List Str).map V.str) := fun H => .inr ⟨_, _, _, lF2, rfl, rfl, (by show 1 ≤ sizeLine; decide), (.cons ⟨_, rfl⟩ .nil)⟩
  have sq3 : ∀ H, SqT K H aF3 ((["place"] : List Str).map V.str) := fun H => .inr ⟨_, _, _, lF3, rfl, rfl, (by show 1 ≤ sizeLine; decide), (.cons ⟨_, rfl⟩ .nil)⟩
  have sq4 : ∀ H, SqT K H aF4 ((["place", "mark"] : List Str).map V.str) := fun H => .inr ⟨_, _, _, lF4, rfl, rfl, (by show 2 ≤ sizeLine; decide), (.cons ⟨_, rfl⟩ (.cons ⟨_, rfl⟩ .nil))⟩
  have sq5 : ∀ H, SqT K H aF5 ((["place"] : List Str).map V.str) := fun H => .inr ⟨_, _, _, lF5, rfl, rfl, (by show 1 ≤ sizeLine; decide), (.cons ⟨_, rfl⟩ .nil)⟩
  have sq6 : ∀ H, SqT K H aF6 ((["place", "place"] : List Str).map V.str) := fun H => .inr ⟨_, _, _, lF6, rfl, rfl, (by show 2 ≤ sizeLine; decide), (.cons ⟨_, rfl⟩ (.cons ⟨_, rfl⟩ .nil))⟩
  have sq7 : ∀ H, SqT K H aF7 ((["name"] : List Str).map V.str) := fun H => .inr ⟨_, _, _, lF7, rfl, rfl, (by show 1 ≤ sizeLine; decide), (.cons ⟨_, rfl⟩ .nil)⟩
  have sq8 : ∀ H, SqT K H aF8 ((["name"] : List Str).map V.str) := fun H => .inr ⟨_, _, _, lF8, rfl, rfl, (by show 1 ≤ sizeLine; decide), (.cons ⟨_, rfl⟩ .nil)⟩
  subst etn0 etn1 etn2 etn3 ets0 ets1 ets2 ets3 ets4 ets5 eF0 eF1 eF2 eF3 eF4 eF5 eF6 eF7 eF8
  have Ttn : Tab K w dtn numS := tab_of (l := [("0", 0, ptn0, qtn0), ("1", 1, ptn1, qtn1), ("2", 2, ptn2, qtn2), ("3", 3, ptn3, qtn3)]) ttn rfl wtn fun z => rfl
  have Tts : Tab K w dts shS := tab_of (l := [("-3", (-3), pts0, qts0), ("-2", (-2), pts1, qts1), ("-1", (-1), pts2, qts2), ("+1", 1, pts3, qts3), ("+2", 2, pts4, qts4), ("+3", 3, pts5, qts5)]) tts rfl wts fun z => rfl
  have TF : FTab K w dF := by
    refine ftab_of (l := [("cut", aF0, pF0, ["place"]), ("write", aF1, pF1, ["place", "place", "mark"]), ("read", aF2, pF2, ["place"]), ("look", aF3, pF3, ["place"]), ("store", aF4, pF4, ["place", "mark"]), ("test", aF5, pF5, ["place"]), ("sync", aF6, pF6, ["place", "place"]), ("lock", aF7, pF7, ["name"]), ("unlock", aF8, pF8, ["name"])]) tF rfl wF rfl ?_
    intro q hq
    simp only [List.mem_cons, List.not_mem_nil, or_false] at hq
    rcases hq with rfl | rfl | rfl | rfl | rfl | rfl | rfl | rfl | rfl
    · exact sq0
    · exact sq1
    · exact sq2
    · exact sq3
    · exact sq4
    · exact sq5
    · exact sq6
    · exact sq7
    · exact sq8
  refine ⟨PySem.W.fnOf "law" "law" (defArgs sLaw) (defBody sLaw) (defScope sLaw) .none kVla dcla pmla anla cdla ctla, fun s v => .of_eq rfl, fun base _ _ => ?_⟩
  have gm := PySem.W.mg_of X G gM
  have mT := PySem.W.mg_none_of X G ztuple
  have mL := PySem.W.mg_none_of X G zlist
  have mZ := PySem.W.mg_none_of X G zzip
  have Gwh : FnOk l.prog w K mg base CX0 1 _ _ ["value"] (spWhole K) := ok_whole Fwh B D
  have Gii : FnOk l.prog w K mg base CX0 2 _ _ ["value", "low", "high"] (spIsInt K) := ok_isInt Fii Gwh mwh kwh bwh
  have Gna : FnOk l.prog w K mg base CX0 1 _ _ ["value"] (spIsName K) := ok_isName Fna B D (PySem.W.mg_of X G gL) (PySem.W.mg_of X G gA)
  have Gma : FnOk l.prog w K mg base CX0 2 _ _ ["value"] (spIsMark K) := ok_isMark Fma Gna mna kna bna (PySem.W.mg_of X G gN) hM
  have Gle : FnOk l.prog w K mg base CX0 1 _ _ ["base"] spLeast := ok_least Fle gm
  have GI : FnOk l.prog w K mg base CX0 3 fI _ ["self", "base", "shift"] (spInit cP) := ok_init FI Z Gna mna kna bna Gii mii kii bii Gle mle kle ble gm
  have T : Tk l.prog w K mg base fta _ := ⟨ok_take Fta B, mta, kta, bta⟩
  have Gpt : FnOk l.prog w K mg base CX0 2 _ _ ["text"] spParts := ok_parts Fpt Gna mna kna bna (PySem.W.mg_of X G gtn) (PySem.W.mg_of X G gts) Ttn Tts
  have GX : FnOk l.prog w K mg base CX0 1 fmx _ ["self", "value"] (spX1 K cX "value") := ok_xinit Fmx TX (PySem.W.mg_of X G aCM) ⟨rdM, gaM⟩ fcM
  have GO : FnOk l.prog w K mg base (L2.CX l.prog w) 5 fmo _ ["cls", "value"] (spOf K cP cX) := ok_of Fmo Z Y N1 B D Gii mii kii bii Gpt mpt kpt bpt gm M GI kb1 kb2 TX GX amx tX bmx
  have O : OfM l.prog w K mg base cP cX po fmo _ := ⟨GO, ⟨rdP, gaP⟩, ⟨amo, ⟨_, amo2⟩, fo⟩, bmo⟩
  have Gip : FnOk l.prog w K mg base CX0 6 _ _ ["value"] (spIsPl K cP) := ok_isPl Fip Z O (PySem.W.mg_of X G aCX) te
  have Gfi : FnOk l.prog w K mg base CX0 7 _ _ ["item", "form"] (spFits K cP) := ok_fits Ffi Gip mip kip bip Gma mma kma bma Gna mna kna bna
  have Gis : FnOk l.prog w K mg base CX0 8 _ _ ["value"] (spIsStep K cP) := ok_isStep Fis Gfi mfi kfi bfi (PySem.W.mg_of X G gF) TF B D mT mZ
  have Gwo : FnOk l.prog w K mg base CX0 2 _ _ ["_law_box_here"] (spWord K) := ok_word Fwo T B
  have Git : FnOk l.prog w K mg base CX0 5 _ _ ["_law_box_here", "_law_letter"] (spItem K cP) := ok_item Fit T ⟨Gwo, mwo, kwo, bwo⟩ B Z M N1 N2 Y GI hds2 bI2 kb2
  have Gri : FnOk l.prog w K mg base CX0 9 _ _ ["_law_thing", "_law_due"] (spRight K cP) := ok_right Fri ⟨Gis, mis, kis, bis⟩ D
  exact FnG.of (ok_law Fla B mT mL T ⟨ok_cell Fce B, mce, kce, bce⟩ ⟨ok_box Fbo B, mbo, kbo, bbo⟩ ⟨Git, mit, kit, bit⟩ ⟨Gri, mri, kri, bri⟩)
theorem walk {l : PySem.W.OpenLaw} {q : Program} {loose : List Str} {XP : (Str → Option Value) → Heap → Prop} {YP : World → Heap → Prop} {d : DefRec} {K : Params → PySem.W.Frag} (hn : l.most = some 63) (hdf : d.params.defaults = [])
    (hY : ∀ (w : World) (h : Heap), YP w h → (K w.params).In h)
    (F : ∀ (w : World) (mg : Str → Option Value) (fa : Addr) (h : Heap), (K w.params).In h → h.Ns mainGlobals mg → mg d.name = some (.ref fa) →
      ∃ fd : FuncData, (∀ (s : Shared) (u : Value), BindsTo s fd ⟨[u], []⟩ [("_law_script", u)]) ∧ ∀ base : Heap, (K w.params).In base → base.Ns mainGlobals mg → FnG l.prog w (K w.params) mg base CX0 10 fa fd ["_law_script"] (spLaw (K w.params))) :
    PySem.W.WalkO q loose XP YP l.row.toRowW d [] (fun f vs => PySem.call f vs) :=
  walk_G (n := 63) (k := 10) (x := "_law_script") (CX := fun _ => CX0) (sp := fun w => spLaw (K w.params)) hn (by decide) hdf ⟨rfl, by decide, by decide⟩ hY F (fun _ _ a ns hl _ _ hS => ⟨a, ns, rfl, hS, hl, fun _ => rfl⟩) fun _ _ _ _ _ z => z
end Mz
set_option Elab.async false
set_option linter.all false
set_option maxRecDepth 100000
open PySem PySem.W PyProof.Rows in
set_option maxRecDepth 100000 in
set_option maxHeartbeats 0 in
theorem PySem.Challenge.cw_mapsizes_k21_steps_known_holds : PySem.Challenge.rw_mapsizes_k21_steps_known.Holds := by
  w_on; o_law; k_head; (case hw => w_witness2)
  k_fill
  refine Mz.walk (l := PySem.Challenge.rw_mapsizes_k21_steps_known) rfl rfl (fun w h Y => PySem.W.kIn_of Y) ?F
  case F =>
    intro w mg fa h KX G hmg
    refine' Mz.all_mk (w := w) KX G hmg ?awh ?lwh ?cwh ?kwh ?aii ?lii ?cii ?kii ?ana ?lna ?cna ?kna ?ama ?lma ?cma ?kma ?aip ?lip ?cip ?kip ?ale ?lle ?cle ?kle ?apt ?lpt ?cpt ?kpt ?afi ?lfi ?cfi ?kfi ?ais ?lis ?cis ?kis ?ace ?lce ?cce ?kce ?abo ?lbo ?cbo ?kbo ?ata ?lta ?cta ?kta ?awo ?lwo ?cwo ?kwo ?ait ?lit ?cit ?kit ?ari ?lri ?cri ?kri ?ala ?lla ?cla ?kla ?aCP ?aCX ?aCM ?amo ?amo2 ?lmo ?cmo ?kmo ?amx ?lmx ?cmx ?kmx ?fo ?tX ?iI ?jI ?lI ?cI ?kI ?lT ?sD ?pg ?hd ?pv_ ?sa ?mk ?kc ?nB ?nS ?ha ?hn ?htk ?hm ?ks ?ki ?kt ?tP ?rdP ?gaP ?lX ?rX ?saX ?exX ?tyX ?kX ?noX ?gaX ?ggX ?hdX ?suX ?rdM ?gaM ?fcM ?gL ?gA ?gM ?gN ?lM ?gtn ?ttn ?etn0 ?etn1 ?etn2 ?etn3 ?wtn ?gts ?tts ?ets0 ?ets1 ?ets2 ?ets3 ?ets4 ?ets5 ?wts ?gF ?tF ?eF0 ?eF1 ?eF2 ?eF3 ?eF4 ?eF5 ?eF6 ?eF7 ?eF8 ?wF ?lF0 ?lF1 ?lF2 ?lF3 ?lF4 ?lF5 ?lF6 ?lF7 ?lF8 ?zlen ?zmax ?zmin ?zint ?zrange ?zisinstance ?zbool ?zstr ?zall ?ztuple ?zlist ?zzip
    (case awh => k_is)
    (case lwh => k_is)
    (case cwh => k_is)
    (case kwh => k_is)
    (case aii => k_is)
    (case lii => k_is)
    (case cii => k_is)
    (case kii => k_is)
    (case ana => k_is)
    (case lna => k_is)
    (case cna => k_is)
    (case kna => k_is)
    (case ama => k_is)
    (case lma => k_is)
    (case cma => k_is)
    (case kma => k_is)
    (case aip => k_is)
    (case lip => k_is)
    (case cip => k_is)
    (case kip => k_is)
    (case ale => k_is)
    (case lle => k_is)
    (case cle => k_is)
    (case kle => k_is)
    (case apt => k_is)
    (case lpt => k_is)
    (case cpt => k_is)
    (case kpt => k_is)
    (case afi => k_is)
    (case lfi => k_is)
    (case cfi => k_is)
    (case kfi => k_is)
    (case ais => k_is)
    (case lis => k_is)
    (case cis => k_is)
    (case kis => k_is)
    (case ace => k_is)
    (case lce => k_is)
    (case cce => k_is)
    (case kce => k_is)
    (case abo => k_is)
    (case lbo => k_is)
    (case cbo => k_is)
    (case kbo => k_is)
    (case ata => k_is)
    (case lta => k_is)
    (case cta => k_is)
    (case kta => k_is)
    (case awo => k_is)
    (case lwo => k_is)
    (case cwo => k_is)
    (case kwo => k_is)
    (case ait => k_is)
    (case lit => k_is)
    (case cit => k_is)
    (case kit => k_is)
    (case ari => k_is)
    (case lri => k_is)
    (case cri => k_is)
    (case kri => k_is)
    (case ala => k_is)
    (case lla => k_is)
    (case cla => k_is)
    (case kla => k_is)
    (case aCP => k_is)
    (case aCX => k_is)
    (case aCM => k_is)
    (case amo => k_is)
    (case amo2 => k_is)
    (case lmo => k_is)
    (case cmo => k_is)
    (case kmo => k_is)
    (case amx => k_is)
    (case lmx => k_is)
    (case cmx => k_is)
    (case kmx => k_is)
    (case fo => k_is)
    (case tX => k_is)
    (case iI => k_is)
    (case jI => k_is)
    (case lI => k_is)
    (case cI => k_is)
    (case kI => k_is)
    (case lT => k_is)
    (case sD => k_is)
    (case pg => k_is)
    (case hd => k_is)
    (case pv_ => k_is)
    (case sa => k_is)
    (case mk => k_is)
    (case kc => k_is)
    (case nB => k_is)
    (case nS => k_is)
    (case ha => k_is)
    (case hn => k_is)
    (case htk => k_is)
    (case hm => k_is)
    (case ks => k_is)
    (case ki => k_is)
    (case kt => k_is)
    (case tP => k_is)
    (case rdP => k_is)
    (case gaP => k_is)
    (case lX => k_is)
    (case rX => rfl)
    (case saX => k_is)
    (case exX => k_is)
    (case tyX => k_is)
    (case kX => k_is)
    (case noX => k_is)
    (case gaX => k_is)
    (case ggX => k_is)
    (case hdX => k_is)
    (case suX => k_is)
    (case rdM => k_is)
    (case gaM => k_is)
    (case fcM => k_is)
    (case gL => k_is)
    (case gA => k_is)
    (case gM => k_is)
    (case gN => k_is)
    (case lM => k_is)
    (case gtn => k_is)
    (case ttn => k_is)
    (case etn0 => rfl)
    (case etn1 => rfl)
    (case etn2 => rfl)
    (case etn3 => rfl)
    (case wtn => first | rfl | k_is)
    (case gts => k_is)
    (case tts => k_is)
    (case ets0 => rfl)
    (case ets1 => rfl)
    (case ets2 => rfl)
    (case ets3 => rfl)
    (case ets4 => rfl)
    (case ets5 => rfl)
    (case wts => first | rfl | k_is)
    (case gF => k_is)
    (case tF => k_is)
    (case eF0 => rfl)
    (case eF1 => rfl)
    (case eF2 => rfl)
    (case eF3 => rfl)
    (case eF4 => rfl)
    (case eF5 => rfl)
    (case eF6 => rfl)
    (case eF7 => rfl)
    (case eF8 => rfl)
    (case wF => first | rfl | k_is)
    (case lF0 => k_is)
    (case lF1 => k_is)
    (case lF2 => k_is)
    (case lF3 => k_is)
    (case lF4 => k_is)
    (case lF5 => k_is)
    (case lF6 => k_is)
    (case lF7 => k_is)
    (case lF8 => k_is)
    (case zlen => k_is)
    (case zmax => k_is)
    (case zmin => k_is)
    (case zint => k_is)
    (case zrange => k_is)
    (case zisinstance => k_is)
    (case zbool => k_is)
    (case zstr => k_is)
    (case zall => k_is)
    (case ztuple => k_is)
    (case zlist => k_is)
    (case zzip => k_is)
