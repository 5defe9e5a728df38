import PyProof.Rows.All
import Wide.All
import OpenK.AllK
import Wide.FinOn
import PyProof.ReprRoads
import HandS.ForMost
import HandS.EndBits
import HandS.IsInst
import HandS.Wide
import HandS.MakeKwOnly
import HandS.Walk
import PySem.Challenge.RW_mapsizes_k02_integers_names_marks
import HandS.TupLe
set_option Elab.async false
set_option linter.all false
set_option maxRecDepth 100000
set_option maxHeartbeats 4000000
/-! calls under which no container is being shown: the promises of defs that show lists -/
namespace Mz
open PySem PySem.Spec PyProof.Rows L2
section
variable {P : Program} {w : World} {K : PySem.W.Frag} {mg : Str → Option Value} {base : Heap} {CX : CXT} {k : Nat} {f : Addr} {fd : FuncData} {ps : List Str} {sp : Sp}
theorem quiet_deeper {A : Around} {env : Env} (h : A.guards = some []) : (A.deeper env).guards = some [] := h
theorem quiet_make {A : Around} {c : Addr} {us : List Value} {kw : List (Str × Value)} (h : A.guards = some []) : (A.under (.builtin "type.__call__" ⟨.ref c :: us, kw⟩)).guards = some [] := by
  have e : (Code.builtin "type.__call__" ⟨.ref c :: us, kw⟩).guards = [] := by
    have e2 : (Code.builtin "type.__call__" ⟨.ref c :: us, kw⟩).isGuard = false := by
      show guardIds.contains "type.__call__" = false
      decide +kernel
    unfold Code.guards
    rw [e2]
    rfl
  show pushGuards (Code.builtin "type.__call__" ⟨.ref c :: us, kw⟩).guards A.guards = some []
  rw [e, h]
  rfl
/-- a def's promise where nothing is being shown around it -/
structure FnG (P : Program) (w : World) (K : PySem.W.Frag) (mg : Str → Option Value) (base : Heap) (CX : CXT) (k : Nat) (f : Addr) (fd : FuncData) (ps : List Str) (sp : Sp) : Prop where
  lenG : ∀ vs H Q E, sp vs H Q E → vs.length = ps.length
  runG : ∀ (A : Around) (outer : List Env) (s : Shared) (H : Hp) (args : Args) (us : List Value) (vs : List V) (Q : VK) (E : XK),
    A.guards = some [] → Room k A → Env0 P w K mg base A outer s H → BindsTo s fd args (ps.zip us) → Vals vs us → sp vs H Q E →
    codeAny (model P w) A (.call (.ref f) args) (CR CX outer P w H s Q E) s
theorem FnG.of (F : FnOk P w K mg base CX k f fd ps sp) : FnG P w K mg base CX k f fd ps sp :=
  ⟨F.len, fun A outer s H args us vs Q E _ => F.run A outer s H args us vs Q E⟩
theorem FnG.mono {j : Nat} (F : FnG P w K mg base CX j f fd ps sp) (h : j ≤ k) : FnG P w K mg base CX k f fd ps sp :=
  ⟨F.lenG, fun A outer s H args us vs Q E g r => F.runG A outer s H args us vs Q E g (r.mono h)⟩
/-- the def by its body, told that nothing is being shown -/
theorem fnG_of {name qual : Str} {params : Arguments} {body : List Stmt} {scope : Scope} {dV kV doc pm cdv ct oc : Value} {an od : Option Addr} {osl : Array (Option Value)} {N : List Str}
    (lk : K.lookup f = some ⟨oc, od, .func (PySem.W.fnOf name qual params body scope dV kV doc pm an cdv ct), osl⟩) (hcd : PySem.W.codeIn K cdv qual = true) (S : FnScope N ps scope)
    (len : ∀ vs H Q E, sp vs H Q E → vs.length = ps.length)
    (hb : ∀ (A : Around) (outer : List Env) (s : Shared) (H : Hp) (vs : List V) (Q : VK) (E : XK), A.guards = some [] → Room k (A.deeper (envOfC qual scope s.heap.objs.size f cdv)) → sp vs H Q E →
      ∃ t, PSs (cxOf CX P w K mg base N qual scope f cdv A outer s H E) body t ∧ t { nx := fun _ H' => Q .non H', rt := Q } (start N vs) H) :
    FnG P w K mg base CX (k + 1) f (PySem.W.fnOf name qual params body scope dV kV doc pm an cdv ct) ps sp := by
  refine ⟨len, fun A outer s H args us vs Q E hg hr e0 hbi r hsp => ?_⟩
  -- the promise of the same def at this very place alone: whoever runs it stands at A
  have spA : ∀ (A2 : Around), A2 = A → A2.guards = some [] := fun A2 e => by
    rw [e]
    exact hg
  have lenv := len _ _ _ _ hsp
  have KX : K.In s.heap := e0.mod.kin.keeps fun b o e => (e0.bs b o e).1
  have lim : s.heap.NoLimit := e0.mod.nolimit.keeps fun b o e => (e0.bs b o e).1
  have kinds : ∀ y ∈ ps.zip us, scope.names.lookup y.1 = some .local ∨ (scope.names.lookup y.1 = some .cell ∧ ((cellsFrom (s.heap.objs.size + 1) scope.names []).lookup y.1).isSome = true) := by
    intro y hy
    obtain ⟨n, v⟩ := y
    rcases S.par n (List.of_mem_zip hy).1 with q | q
    · exact .inl q
    · exact .inr ⟨q, PySem.W.cellsFrom_some _ _ _ (.inl q)⟩
  refine codeAny_call_function hr.depth (KX _ _ lk) rfl S.co S.gen rfl (PySem.W.codeRec_of KX hcd) (hbi _ _ _ _ ?_)
  refine wpAny_newFunctionEnv_cells S.kind kinds fun env he s1 x => ?_
  subst he
  refine ⟨lim.keeps x.toInCall.keep, codeAny_func ?_⟩
  obtain ⟨t, ht, hq⟩ := hb A outer s H vs Q E hg (hr.deeper _) hsp
  have I : Inv (cxOf CX P w K mg base N qual scope f cdv A outer s H E) [] (start N vs) H s1 := inv_start S hr.hd e0 lenv r x
  refine wpAny_mono (ht.run [] s1 (start N vs) H _ I hq) (fun fl s' hs => ?_) fun e s' hs => hs
  cases fl with
  | ret u =>
    obtain ⟨v, σ', H', J, rv, q⟩ := hs
    exact ⟨v, H', J.os, J.bare, J.base, J.hok, rv, q⟩
  | next =>
    obtain ⟨σ', H', J, q⟩ := hs
    exact ⟨V.non, H', J.os, J.bare, J.base, J.hok, rfl, q⟩
  | brk =>
    obtain ⟨_, _, _, q⟩ := hs
    exact q.elim
  | cont =>
    obtain ⟨_, _, _, q⟩ := hs
    exact q.elim
end
section
variable {P : Program} {w : World} {K : PySem.W.Frag} {mg : Str → Option Value} {base : Heap}
theorem fun_okG {x qual : Str} {st : Stmt} {f : Addr} {fd : FuncData} {N ps : List Str} {k : Nat} {sp : Sp} (F : Fun K x qual st f fd) (S : FnScope N ps (defScope st)) (len : ∀ vs H Q E, sp vs H Q E → vs.length = ps.length)
    (hb : ∀ (cdv : Value) (A : Around) (outer : List Env) (s : Shared) (H : Hp) (vs : List V) (Q : VK) (E : XK), A.guards = some [] → Room k (A.deeper (envOfC qual (defScope st) s.heap.objs.size f cdv)) → sp vs H Q E →
      ∃ t, PSs (cxOf CX0 P w K mg base N qual (defScope st) f cdv A outer s H E).nox (defBody st) t ∧ t { nx := fun _ H' => Q .non H', rt := Q } (start N vs) H) : FnG P w K mg base CX0 (k + 1) f fd ps sp := by
  obtain ⟨oc, od, kV, doc, pm, an, cdv, ct, osl, rfl, lk, hcd⟩ := F.ex
  refine fnG_of lk hcd S len fun A outer s H vs Q E hg hr hsp => ?_
  obtain ⟨t, h, q⟩ := hb cdv A outer s H vs Q E hg hr hsp
  exact ⟨t, h.nox, q⟩
end
section
variable {X : Cx} {CX : CXT} {k : Nat} {f : Addr} {fd : FuncData} {ps : List Str} {sp : Sp} {dvs : List V} {ds : List Value} {E : XK} {x : Str} {p pos : Pos} {e : Expr} {es : List Expr} {t : TA}
/-- a call of such a def -/
theorem pe_callG (F : FnG X.prog X.w X.K X.mg X.base CX k f fd ps sp) (g0 : X.A.guards = some []) (hr : Room k X.A) (hg : Gl X x) (hm : X.mg x = some (.ref f)) (hk : PySem.W.keepIn X.K (.ref f) = true) (hb : Binds X.K fd ps ds) (hd : Vals dvs ds) (hx : Passes CX X E)
    (ha : PA X (e :: es) t) (hdb : (x == ("__debug__" : Str)) = false := by decide) (he : starEach (e :: es) X.env = (false, eval e X.env) :: starEach es X.env := by rfl) (hpl : (backTo pos (starEach es X.env)).any (·.1) = false := by rfl) :
    PE X (.Call (.Name x p) (e :: es) [] pos) (tCall sp dvs E t) := by
  refine ⟨fun pins s σ H Q I h => wpAny_Call_Name_kw (ld_glob I hg hm ?_ hdb)⟩
  refine PySem.W.callWith_K (h₀ := X.base) I.ok.mod.kin hk (thn (ha.run pos pins s σ H _ I h) fun us s1 hv => ?_) he hpl
  obtain ⟨vs, H1, I1, r, q⟩ := hv
  refine ⟨I1.kIn, ?_⟩
  have r2 : Vals (vs ++ dvs) (us ++ ds) := r.append hd
  have hl : (us ++ ds).length = ps.length := r2.length.symm.trans (F.lenG _ _ _ _ q)
  refine wpAny_call (codeAny_mono (F.runG X.A X.stack s1 H1 ⟨us, []⟩ (us ++ ds) (vs ++ dvs) Q E g0 hr I1.env0 (hb s1 us I1.kIn hl) r2 q) fun r s' hq => ?_)
  cases r with
  | error e => exact hx pins σ H1 s1 e s' I1 hq
  | ok fl =>
    cases fl with
    | ret u => exact I1.after hq
    | next => exact hq.elim
    | brk => exact hq.elim
    | cont => exact hq.elim
end
/-! ### repr of data -/
section
variable {X : Cx}
/-- repr(x), x a bool, None, an int of some size, a text, a list or a tuple of these -/
def rReprD (K : PySem.W.Frag) : List V → Hp → VK → Prop := fun xs H Q => ∃ x d, xs = [x] ∧ Dp K H x d ∧ PyData.showable d = true ∧ PyData.hasDict d = false ∧ PyData.depth d < 60 ∧ (PyData.shown d).length ≤ sizeLine ∧ Q (.str (PyData.shown d)) H
theorem call_reprD (g0 : X.A.guards = some []) (hu : X.A.units + 64 < cLine) : CallR X (.builtin "repr") (rReprD X.K) := by
  intro pins s σ H xs us Q I r h
  obtain ⟨x, d, rfl, hd, hs, hno, hdp, hz, q⟩ := h
  obtain ⟨u, rfl, rx⟩ := vals1 r
  have ends : ∀ h' t tk, (∀ b o, s.heap.get? b = some o → h'.get? b = some o) → EP X pins σ Q (.str (PyData.shown d) t) { s with heap := h', toks := tk } :=
    fun h' t tk hk => ⟨.str _, H, I.kept hk, ⟨_, rfl⟩, q⟩
  have keep : ∀ b o, s.heap.get? b = some o → s.heap.get? b = some o := fun _ _ z => z
  obtain ⟨as, rd⟩ := Dp.reads I d x u hd rx
  cases hd with
  | non =>
    cases rx
    exact PySem.P.repr_of_none (by simpa only [PyData.shown] using ends s.heap _ _ keep)
  | bl b =>
    cases rx
    exact PySem.P.repr_of_bool (by simpa only [PyData.shown] using ends s.heap _ _ keep)
  | int i =>
    obtain ⟨t, rfl⟩ := rx
    have hs' : i.natAbs.log2 < 1920 := by simpa [PyData.showable] using hs
    exact PySem.P.repr_of_int hs' (by simpa only [PyData.shown] using ends s.heap _ _ keep)
  | str z =>
    obtain ⟨t, rfl⟩ := rx
    exact PySem.P.repr_of_str (by simpa only [PyData.shown] using ends s.heap _ _ keep) (by simpa only [PyData.shown] using hz)
  | lst h1 h2 =>
    cases rx
    exact repr_of_reads' rd hs (fun z => by rw [hno] at z; cases z) g0 (by omega) keep (fun h' t tk hk => ends h' t tk hk) hz
  | tup h1 h2 =>
    cases rx
    exact repr_of_reads' rd hs (fun z => by rw [hno] at z; cases z) g0 (by omega) keep (fun h' t tk hk => ends h' t tk hk) hz
end
end Mz
set_option Elab.async false
set_option linter.all false
set_option maxRecDepth 100000
set_option maxHeartbeats 4000000
/-! the end of a row for a law whose promise wants that nothing is being shown -/
namespace Mz
open PySem PySem.Spec PyProof.Rows L2
theorem law_callG {P : Program} {w : World} {K : PySem.W.Frag} {mg mb : Str → Option Value} {CX : CXT} {k : Nat} {fa a : Addr} {fd : FuncData} {x : Str} {sp : Sp} {s1 : Shared} {vs : List Value} {ns : List Int}
    (KX : K.In s1.heap) (hns : s1.heap.Ns mainGlobals mg) (hb : s1.heap.Ns builtinsNs mb) (hbb : ∀ x : Str, x ≠ "__name__" → mb x = bootBuiltins x) (hlim : s1.heap.NoLimit) (hgen : s1.gens = #[])
    (ha : s1.heap.get? a = some { cls := .type "list", data := .seq vs.toArray }) (hi : IntsAre vs ns) (hl : ns.length ≤ sizeLine) (hr : Room k callerA)
    (F : ∀ base : Heap, K.In base → base.Ns mainGlobals mg → FnG P w K mg base CX k fa fd [x] sp) (hbind : ∀ (s : Shared) (u : Value), BindsTo s fd ⟨[u], []⟩ [(x, u)])
    (hsp : ∀ H : Hp, Only H → SqL K H a (ns.map V.int) → sp [.ref a] H (fun v _ => v = .bl true) fun _ _ _ => False)
    (hCX : ∀ H e s', CX [] H s1 (fun _ _ _ => False) e s' → False) :
    codeAny (model P w) callerA (.call (.ref fa) ⟨[.ref a], []⟩) (fun r s' => r = .ok (.ret (.bool true)) ∧ OldK s1.heap s'.heap ∧ s'.os = s1.os ∧ AllBare s'.gens) s1 := by
  have rv := vals_ints hi
  have lenV := hi.length
  have way : ∀ H : Hp, Only H → SqL K H a (ns.map V.int) → HOk P w H s1.heap → (∀ b u, H b = some u → b = a) → (∀ u, H a = some u → K.lookup a = none) →
      codeAny (model P w) callerA (.call (.ref fa) ⟨[.ref a], []⟩) (fun r s' => r = .ok (.ret (.bool true)) ∧ OldK s1.heap s'.heap ∧ s'.os = s1.os ∧ AllBare s'.gens) s1 := by
    intro H hO hS hok hA hK
    have untr : ∀ {b : Addr} {o : Obj} {es : Array DictEntry} {ep : Nat}, s1.heap.get? b = some o → o.data = .dict es ep → H b = none := by
      intro b o es ep e d
      rcases q : H b with _ | u
      · rfl
      · obtain rfl := hA b u q
        rw [ha] at e
        cases e
        exact nomatch (show Data.seq vs.toArray _ = Data.dict es ep from d)
    have nsK : ∀ {b : Addr} {m : Str → Option Value}, s1.heap.Ns b m → (hidT s1.heap H).Ns b m := by
      rintro b m ⟨o, es, ep, e, d, r⟩
      exact ⟨o, es, ep, hidT_get e (untr e d), d, r⟩
    have hKb : K.In (hidT s1.heap H) := by
      intro b o e
      refine hidT_get (KX b o e) ?_
      rcases q : H b with _ | u
      · rfl
      · obtain rfl := hA b u q
        have z := hK u q
        rw [z] at e
        cases e
    have hM : Mod K mg (hidT s1.heap H) := by
      obtain ⟨mc, h1, h2⟩ := hlim
      exact ⟨hKb, nsK hns, ⟨mb, nsK hb, hbb⟩, ⟨mc, nsK h1, h2⟩⟩
    have e0 : Env0 P w K mg (hidT s1.heap H) callerA [] s1 H :=
      ⟨rfl, hM, fun b o e => of_hidT e, Nat.le_of_eq (hidT_size _ _), trivial, fun b z => (nomatch (show b ∈ ([] : List Addr) from z)), hok, .of_eq hgen⟩
    have run := (F _ hKb (nsK hns)).runG callerA [] s1 H ⟨[.ref a], []⟩ [.ref a] [.ref a] _ _ rfl hr e0 (hbind s1 (.ref a)) (.cons rfl .nil) (hsp H hO hS)
    refine codeAny_mono run fun r s' h => ?_
    match r, h with
    | .error e, h => exact (hCX H e s' h).elim
    | .ok .next, h => exact h.elim
    | .ok .brk, h => exact h.elim
    | .ok .cont, h => exact h.elim
    | .ok (.ret u), h =>
      obtain ⟨v, H', os, bare, un, hok2, r2, q⟩ := h
      obtain rfl : v = .bl true := q
      obtain rfl : u = Value.bool true := r2
      refine ⟨rfl, OldK.of_keep fun b o e => ?_, os, bare⟩
      rcases q : H b with _ | u
      · exact un.keep b o e q (fun z => (nomatch (show b ∈ ([] : List Addr) from z))) (by simp)
      · rcases hO b with z | ⟨ob, xs, z⟩
        · rw [q] at z
          cases z
        · have z2 := un.frzs b ob _ z
          obtain ⟨e1, _⟩ := hok b _ z
          obtain ⟨e2, _⟩ := hok2 b _ z2
          rw [e] at e1
          cases e1
          exact e2
  rcases hk : K.lookup a with _ | o
  · have at_a : ∀ {b : Addr} {u : HO}, (if b = a then some (HO.frz { cls := .type "list", data := .seq vs.toArray } (.lst (ns.map V.int))) else none) = some u → b = a ∧ u = .frz { cls := .type "list", data := .seq vs.toArray } (.lst (ns.map V.int)) := by
      intro b u z
      by_cases hba : b = a
      · rw [if_pos hba] at z
        exact ⟨hba, (Option.some.inj z).symm⟩
      · rw [if_neg hba] at z
        cases z
    refine way (fun b => if b = a then some (.frz { cls := .type "list", data := .seq vs.toArray } (.lst (ns.map V.int))) else none) (fun b => ?_) (.inl (.inr ⟨{ cls := .type "list", data := .seq vs.toArray }, if_pos rfl⟩)) (fun b u z => ?_) (fun b u z => (at_a z).1) fun u _ => hk
    · by_cases hba : b = a
      · exact .inr ⟨_, _, if_pos hba⟩
      · exact .inl (if_neg hba)
    · obtain ⟨rfl, rfl⟩ := at_a z
      exact ⟨ha, by rw [List.length_map]; exact hl, vs, _, rv, ha⟩
  · have e := KX a o hk
    rw [ha] at e
    cases e
    refine way (fun _ => none) (fun _ => .inl rfl) (.inr ⟨_, vs.toArray, _, hk, rfl, rfl, rfl, by rw [List.size_toArray, lenV]; exact hl, by simpa using rv⟩) (fun b u z => ?_) (fun b u z => ?_) fun u z => ?_
    · exact nomatch (show (none : Option HO) = some u from z)
    · exact nomatch (show (none : Option HO) = some u from z)
    · exact nomatch (show (none : Option HO) = some u from z)
theorem walk_G {l : PySem.W.OpenLaw} {n k : Nat} {q : Program} {loose : List Str} {XP : (Str → Option Value) → Heap → Prop} {YP : World → Heap → Prop} {d : DefRec} {K : Params → PySem.W.Frag} {CX : World → CXT} {sp : World → Sp} {x : Str}
    (hn : l.most = some n) (hn2 : n ≤ sizeLine) (hdf : d.params.defaults = []) (hr : Room k callerA)
    (hY : ∀ (w : World) (h : Heap), YP w h → (K w.params).In h)
    (F : ∀ (w : World) (mg : Str → Option Value) (fa : Addr) (h : Heap), (K w.params).In h → h.Ns mainGlobals mg → mg d.name = some (.ref fa) →
      ∃ fd : FuncData, (∀ (s : Shared) (u : Value), BindsTo s fd ⟨[u], []⟩ [(x, u)]) ∧ ∀ base : Heap, (K w.params).In base → base.Ns mainGlobals mg → FnG l.prog w (K w.params) mg base (CX w) k fa fd [x] (sp w))
    (hsp : ∀ (w : World) (H : Hp) (a : Addr) (ns : List Int), ns.length ≤ n → (∀ z ∈ ns, Builtin.Int.intBits z ≤ 1048576) → Only H → SqL (K w.params) H a (ns.map V.int) → sp w [.ref a] H (fun v _ => v = .bl true) fun _ _ _ => False)
    (hCX : ∀ (w : World) (H : Hp) (s : Shared) (e : Value) (s' : Shared), CX w [] H s (fun _ _ _ => False) e s' → False) :
    PySem.W.WalkO q loose XP YP l.row.toRowW d [] (fun f vs => PySem.call f vs) := by
  refine Att.attach_callB hn hdf fun w s0 s1 mg mb fa o pm cd doc a vs ns G Y ho hd hcd hmg hobj hints hlen hbits hgen => ?_
  obtain ⟨fd, hb, hF⟩ := F w mg fa _ (hY w _ Y) G.T.g hmg
  exact law_callG (hY w _ Y) G.T.g G.T.b G.T.builtins G.T.nolimit hgen hobj hints (Nat.le_trans hlen hn2) hr hF hb (fun H hO hS => hsp w H a ns hlen hbits hO hS) fun H e s' => hCX w H s1 e s'
end Mz
set_option Elab.async false
set_option linter.all false
set_option maxRecDepth 100000
set_option maxHeartbeats 4000000
namespace Mz
open PySem L2
/-! the text by places -/
def top (i : Nat) : Stmt := PySem.Challenge.pw_mapsizes_k02_integers_names_marks.main.body.getD i (.Pass ⟨0, 0, 0, 0⟩)
abbrev sWhole : Stmt := top 13
abbrev sIsInt : Stmt := top 14
abbrev sIsName : Stmt := top 15
abbrev sIsMark : Stmt := top 16
abbrev sLeast : Stmt := top 17
abbrev sPlace : Stmt := top 19
abbrev sCell : Stmt := top 22
abbrev sBox : Stmt := top 23
abbrev sTake : Stmt := top 24
abbrev sWord : Stmt := top 25
abbrev sNumber : Stmt := top 26
abbrev sAny : Stmt := top 27
abbrev sDue : Stmt := top 28
abbrev sRight : Stmt := top 29
abbrev sLaw : Stmt := top 30
end Mz
set_option Elab.async false
set_option linter.all false
set_option maxRecDepth 100000
set_option maxHeartbeats 4000000
/-! the draws: a cell of the script, its box, a digit out of the box -/
namespace Mz
open PySem PySem.Spec PyProof.Rows L2
/-- all that was tracked, but what stands at b, stands as it stood -/
def Kp (b : Addr) (H H' : Hp) : Prop := ∀ p o, p ≠ b → H p = some o → H' p = some o
theorem Kp.refl {b : Addr} {H : Hp} : Kp b H H := fun _ _ _ e => e
theorem Kp.trans {b : Addr} {H H1 H2 : Hp} (x : Kp b H H1) (y : Kp b H1 H2) : Kp b H H2 := fun p o n e => y p o n (x p o n e)
theorem Kp.fresh {b p : Addr} {H : Hp} {o : HO} (h : H p = none) : Kp b H (upd H p o) := fun q u _ e => by
  rw [upd_ne (ne_of_none e h)]
  exact e
theorem Kp.here {b : Addr} {H : Hp} {o : HO} : Kp b H (upd H b o) := fun q u n e => by
  rw [upd_ne n]
  exact e
/-- a box: what is left of the cell, its seed, how many digits were mixed (at most n) -/
def Bx (H : Hp) (b : Addr) (n : Nat) : Prop := ∃ x y z : Int, H b = some (.lst [.int x, .int y, .int z]) ∧ 0 ≤ x ∧ 0 ≤ y ∧ y < 2147483563 ∧ 0 ≤ z ∧ z ≤ (n : Int)
theorem Bx.upd {H : Hp} {b p : Addr} {n : Nat} {o : HO} (h : Bx H b n) (hp : H p = none) : Bx (upd H p o) b n := by
  obtain ⟨x, y, z, e, r⟩ := h
  exact ⟨x, y, z, by rw [upd_ne (ne_of_none e hp)]; exact e, r⟩
theorem Bx.more {H : Hp} {b : Addr} {n m : Nat} (h : Bx H b n) (le : n ≤ m) : Bx H b m := by
  obtain ⟨x, y, z, e, h1, h2, h3, h4, h5⟩ := h
  exact ⟨x, y, z, e, h1, h2, h3, h4, by omega⟩
def spCell (K : PySem.W.Frag) : Sp := fun vs H Q _ => ∃ (a : Addr) (ns : List Int) (k : Nat), vs = [.ref a, .int k] ∧ SqL K H a (ns.map V.int) ∧ k < 1000 ∧ ∀ i : Int, Q (.int i) H
def spBox : Sp := fun vs H Q _ => ∃ i : Int, vs = [.int i] ∧ ∀ (b : Addr) (H' : Hp), H b = none → Bx H' b 0 → Kp b H H' → Q (.ref b) H'
def spTake : Sp := fun vs H Q _ => ∃ (b : Addr) (n : Nat) (m : Int), vs = [.ref b, .int m] ∧ Bx H b n ∧ n ≤ 1000000 ∧ 0 < m ∧ m < 2 ^ 64 ∧
  ∀ (r : Int) (H' : Hp), 0 ≤ r → r < m → Bx H' b (n + 1) → Kp b H H' → Q (.int r) H'
/-- the built-ins that the draws call -/
structure Blt (mg : Str → Option Value) : Prop where
  len : mg "len" = none
  max : mg "max" = none
  min : mg "min" = none
  int : mg "int" = none
  range : mg "range" = none
section
variable {P : Program} {w : World} {K : PySem.W.Frag} {mg : Str → Option Value} {base : Heap}
theorem scCell : FnScope ["_law_script", "_law_k"] ["_law_script", "_law_k"] (defScope sCell) := ⟨rfl, rfl, rfl, by decide +kernel, rfl, by decide +kernel, by decide +kernel⟩
theorem ok_cell {f : Addr} {fd : FuncData} (F : Fun K "_law_cell" "_law_cell" sCell f fd) (B : Blt mg) : FnOk P w K mg base CX0 1 f fd ["_law_script", "_law_k"] (spCell K) := by
  refine F.ok scCell (fun vs H Q E h => ?_) (fun cdv A outer s H vs Q E hr h => ?_)
  · obtain ⟨a, ns, k, rfl, _⟩ := h
    rfl
  · obtain ⟨a, ns, k, rfl, hS, hk, q⟩ := h
    refine ⟨_, pss_one (ps_ret (pe_ifExp (pt_cmpR op_lt (pv 1) (pe_callB call_len_seq (by rfl) B.len PySem.boot_len (pa_cons (pv 0) pa_nil)) (nomark _))
      (pe_ix ix_list (pv 0) (pv 1) (fun _ _ => rfl)) (pe_op op_add (pe_op op_mul pe_int (pv 1)) pe_int))), ?_⟩
    refine ⟨_, rfl, _, rfl, a, _, rfl, .inl hS, _, _, rfl, rfl, _, rfl, ?_⟩
    refine ite2 (fun hc => ?_) (fun _ => ?_)
    · have hlt : k < ns.length := by
        have z := of_decide_eq_true hc
        rw [List.length_map] at z
        omega
      exact ⟨_, rfl, _, rfl, a, _, _, _, rfl, rfl, hS, atI_nat (v := V.int (ns[k])) (by rw [List.getElem?_map, List.getElem?_eq_getElem hlt]; rfl), q _⟩
    · exact ⟨_, rfl, _, _, rfl, rfl, .inl ⟨by decide, by decide⟩, _, _, rfl, rfl, q _⟩
theorem scBox : FnScope ["_law_cell_here"] ["_law_cell_here"] (defScope sBox) := ⟨rfl, rfl, rfl, by decide +kernel, rfl, by decide +kernel, by decide +kernel⟩
theorem ok_box {f : Addr} {fd : FuncData} (F : Fun K "_law_box" "_law_box" sBox f fd) (B : Blt mg) : FnOk P w K mg base CX0 1 f fd ["_law_cell_here"] spBox := by
  refine F.ok scBox (fun vs H Q E h => ?_) (fun cdv A outer s H vs Q E hr h => ?_)
  · obtain ⟨i, rfl, _⟩ := h
    rfl
  · obtain ⟨i, rfl, q⟩ := h
    refine ⟨_, pss_one (ps_ret (pe_lst (pa_cons (pe_callB (call_max2 rfl) (by rfl) B.max (by decide +kernel) (pa_cons pe_int (pa_cons (pe_op op_sub (pv 0) (pe_op op_pow pe_int pe_int)) pa_nil)))
      (pa_cons (pe_op op_mod (pe_callTy call_int1 (by rfl) B.int (by decide +kernel) (pa_cons (pv 0) pa_nil)) pe_int) (pa_cons pe_int pa_nil))))), ?_⟩
    refine ⟨_, rfl, _, _, rfl, rfl, ⟨by decide, by decide, by decide⟩, _, _, rfl, rfl, _, _, rfl, ?_⟩
    refine ⟨_, rfl, .inl ⟨_, rfl, _, _, rfl, rfl, (by show (0 : Int) < 2147483563; decide), ?_⟩⟩
    refine ⟨(by show 3 ≤ sizeLine; decide), fun p np => q p _ np ⟨_, _, _, upd_same, ?_, ?_, ?_, by decide, by decide⟩ (Kp.fresh np)⟩
    · split <;> omega
    · exact Int.emod_nonneg _ (by decide)
    · exact Int.emod_lt_of_pos _ (by decide)
theorem scTake : FnScope ["_law_box_here", "_law_many", "_law_digit", "_law_mixed"] ["_law_box_here", "_law_many"] (defScope sTake) := ⟨rfl, rfl, rfl, by decide +kernel, rfl, by decide +kernel, by decide +kernel⟩
theorem fmod_low {i j : Int} (h : 0 < j) : 0 ≤ i.fmod j := Int.fmod_nonneg_of_pos i h
theorem fmod_high {i j : Int} (h : 0 < j) : i.fmod j < j := Int.fmod_lt_of_pos i h
theorem small_log {m : Int} (h0 : 0 < m) (h : m < 2 ^ 64) : m.natAbs.log2 < 9000 := by
  have h1 : m.natAbs < 2 ^ 64 := by omega
  exact Nat.lt_of_lt_of_le (PySem.Flt.log2_lt_of (by decide) h1) (by decide)
theorem ok_take {f : Addr} {fd : FuncData} (F : Fun K "_law_take" "_law_take" sTake f fd) (B : Blt mg) : FnOk P w K mg base CX0 1 f fd ["_law_box_here", "_law_many"] spTake := by
  refine F.ok scTake (fun vs H Q E h => ?_) (fun cdv A outer s H vs Q E hr h => ?_)
  · obtain ⟨b, n, m, rfl, _⟩ := h
    rfl
  · obtain ⟨b, n, m, rfl, ⟨x, y, z, hb, x0, y0, y1, z0, z1⟩, hn, m0, m1, q⟩ := h
    have nd := scTake.nd
    refine ⟨_, pss_cons (ps_if (pt_cmpR op_gt (pe_ix ix_list (pv 0) pe_int (fun _ _ => rfl)) pe_int (nomark _))
        (pss_cons (ps_set (i := 2) nd rfl (Or.inl rfl) (pe_op op_modN (pe_callTy call_int1 (by rfl) B.int (by decide +kernel) (pa_cons (pe_ix ix_list (pv 0) pe_int (fun _ _ => rfl)) pa_nil)) (pv 1)))
        (pss_cons (ps_asg (pe_op op_fdivW (pe_ix ix_list (pv 0) pe_int (fun _ _ => rfl)) (pv 1)) (pg_sub (pv 0) pe_int set_list))
        (pss_one (ps_ret (pv 2))))) pss_nil)
      (pss_cons (ps_asg (pe_op op_add (pe_ix ix_list (pv 0) pe_int (fun _ _ => rfl)) pe_int) (pg_sub (pv 0) pe_int set_list))
      (pss_cons (ps_set (i := 3) nd rfl (Or.inl rfl) (pe_op op_mod (pe_op op_pow (pe_callTy call_int1 (by rfl) B.int (by decide +kernel) (pa_cons (pe_op op_add (pe_op op_add (pe_ix ix_list (pv 0) pe_int (fun _ _ => rfl)) (pe_op op_mul pe_int (pe_ix ix_list (pv 0) pe_int (fun _ _ => rfl)))) pe_int) pa_nil)) pe_int) pe_int))
      (pss_cons (ps_set (i := 3) nd rfl (Or.inl rfl) (pe_op op_mod (pe_op op_pow (pe_callTy call_int1 (by rfl) B.int (by decide +kernel) (pa_cons (pe_op op_add (pv 3) (pe_op op_mul pe_int (pe_ix ix_list (pv 0) pe_int (fun _ _ => rfl)))) pa_nil)) pe_int) pe_int))
      (pss_one (ps_ret (pe_op op_modN (pe_op op_fdiv (pv 3) pe_int) (pv 1))))))), ?_⟩
    have a0 : ∀ {u v t : V}, atI [u, v, t] (0 : Int) = some u := rfl
    refine ⟨_, rfl, b, _, _, _, rfl, rfl, SqL.of hb, a0, _, _, rfl, rfl, _, rfl, ?_⟩
    refine ite2 (fun hc => ?_) (fun _ => ?_)
    · refine ⟨_, rfl, b, _, _, _, rfl, rfl, SqL.of hb, a0, .inl ⟨_, rfl, _, rfl, _, _, rfl, rfl, by omega, ?_⟩⟩
      refine ⟨_, rfl, b, _, _, _, rfl, rfl, SqL.of hb, a0, _, rfl, _, _, rfl, rfl, ⟨m0, small_log m0 m1⟩, ?_⟩
      refine ⟨_, rfl, b, _, _, _, rfl, rfl, hb, rfl, ?_⟩
      refine ⟨_, rfl, q _ _ (fmod_low m0) (fmod_high m0) ⟨_, y, z, upd_same, Int.ediv_nonneg x0 (by omega), y0, y1, z0, by omega⟩ Kp.here⟩
    · refine ⟨_, rfl, b, _, _, _, rfl, rfl, SqL.of hb, rfl, _, _, rfl, rfl, _, rfl, b, _, _, _, rfl, rfl, hb, rfl, ?_⟩
      have hb1 : upd H b (.lst [.int x, .int y, .int (z + 1)]) b = some (.lst [.int x, .int y, .int (z + 1)]) := upd_same
      refine ⟨_, rfl, b, _, _, _, rfl, rfl, SqL.of hb1, rfl, ?_⟩
      refine ⟨_, rfl, b, _, _, _, rfl, rfl, SqL.of hb1, rfl, ?_⟩
      refine ⟨_, _, rfl, rfl, .inl ⟨by decide, by decide⟩, _, _, rfl, rfl, _, _, rfl, rfl, .inl ⟨_, rfl, _, _, rfl, rfl, ⟨by decide, by decide, by omega⟩, ?_⟩⟩
      refine ⟨_, _, rfl, rfl, (by show (0 : Int) < 2147483647; decide), ?_⟩
      refine ⟨_, rfl, _, rfl, b, _, _, _, rfl, rfl, SqL.of hb1, rfl, ?_⟩
      have l1 := Int.emod_nonneg ((y + 7349 * (z + 1) + 223) ^ (5 : Int).toNat) (b := 2147483647) (by decide)
      have h1 := Int.emod_lt_of_pos ((y + 7349 * (z + 1) + 223) ^ (5 : Int).toNat) (b := 2147483647) (by decide)
      refine ⟨_, _, rfl, rfl, .inl ⟨by decide, by decide⟩, _, _, rfl, rfl, .inl ⟨_, rfl, _, _, rfl, rfl, ⟨by decide, by decide, by omega⟩, ?_⟩⟩
      refine ⟨_, _, rfl, rfl, (by show (0 : Int) < 2147483587; decide), ?_⟩
      refine ⟨_, rfl, _, _, rfl, rfl, ⟨by decide, by decide⟩, _, rfl, _, _, rfl, rfl, by omega, ?_⟩
      exact q _ _ (fmod_low m0) (fmod_high m0) ⟨x, y, z + 1, upd_same, x0, y0, y1, by omega, by omega⟩ Kp.here
end
end Mz
set_option Elab.async false
set_option linter.all false
set_option maxRecDepth 100000
set_option maxHeartbeats 4000000
/-! the program's own defs: integers, names, marks -/
namespace Mz
open PySem PySem.Spec PyProof.Rows L2
/-- any value, by what isinstance says of it -/
inductive Kd (K : PySem.W.Frag) (H : Hp) : V → Prop
  | int (i : Int) : Kd K H (.int i)
  | bl (b : Bool) : Kd K H (.bl b)
  | str (z : Str) (h : z.length ≤ 1000) (ok : PyData.strOk z = true) : Kd K H (.str z)
  | non : Kd K H .non
  | oth (a : Addr) (t : Value) (ty : TyX K H (.ref a) t) (ki : PySem.W.kitOne K t (.type "int") = some false) (ks : PySem.W.kitOne K t (.type "str") = some false) : Kd K H (.ref a)
def wholeV : V → Bool
  | .int _ => true
  | _ => false
def inB (lo hi : Int) : V → Bool
  | .int i => decide (lo ≤ i) && decide (i ≤ hi)
  | _ => false
abbrev abc : Str := "abcdefghijklmnopqrstuvwxyz"
/-- a name, as the program says it -/
def nameS (z : Str) : Bool := (decide (1 ≤ (z.length : Int)) && decide ((z.length : Int) ≤ 6)) && z.cps.toList.all fun c => decide (c ∈ abc.cps.toList)
def nameV : V → Bool
  | .str z => nameS z
  | _ => false
def noMarks : List V := [.str "old", .str "zero", .str "end", .str "fails", .str "more", .str "done", .str "none"]
def markV : V → Bool
  | .str z => nameS z && !inV (.str z) noMarks
  | _ => false
def spWhole (K : PySem.W.Frag) : Sp := fun vs H Q _ => ∃ v, vs = [v] ∧ Kd K H v ∧ Q (.bl (wholeV v)) H
def spIsInt (K : PySem.W.Frag) : Sp := fun vs H Q _ => ∃ v lo hi, vs = [v, .int lo, .int hi] ∧ Kd K H v ∧ Q (.bl (inB lo hi v)) H
/-- the list of the letters' answers is left behind -/
def spIsName (K : PySem.W.Frag) : Sp := fun vs H Q _ => ∃ v, vs = [v] ∧ Kd K H v ∧ ∀ H', Same H H' → Q (.bl (nameV v)) H'
def spIsMark (K : PySem.W.Frag) : Sp := fun vs H Q _ => ∃ v, vs = [v] ∧ Kd K H v ∧ ∀ H', Same H H' → Q (.bl (markV v)) H'
structure Blp (mg : Str → Option Value) : Prop where
  isi : mg "isinstance" = none
  bool : mg "bool" = none
  str : mg "str" = none
  all : mg "all" = none
section
variable {P : Program} {w : World} {K : PySem.W.Frag} {mg : Str → Option Value} {base : Heap}
theorem scWhole : FnScope ["value"] ["value"] (defScope sWhole) := ⟨rfl, rfl, rfl, by decide +kernel, rfl, by decide +kernel, by decide +kernel⟩
theorem ok_whole {f : Addr} {fd : FuncData} (F : Fun K "_is_whole" "_is_whole" sWhole f fd) (B : Blt mg) (D : Blp mg) : FnOk P w K mg base CX0 1 f fd ["value"] (spWhole K) := by
  refine F.ok scWhole (fun vs H Q E h => ?_) (fun cdv A outer s H vs Q E hr h => ?_)
  · obtain ⟨v, rfl, _⟩ := h
    rfl
  · obtain ⟨v, rfl, hk, q⟩ := h
    refine ⟨_, pss_one (ps_ret (pe_and (pe_callB call_isi (by rfl) D.isi (by decide +kernel) (pa_cons (pv 0) (pa_cons (pe_bltn (v := .ty "int") (by rfl) B.int (by decide +kernel) rfl) pa_nil)))
      (pe_one (pe_not (pe_callB call_isi (by rfl) D.isi (by decide +kernel) (pa_cons (pv 0) (pa_cons (pe_bltn (v := .ty "bool") (by rfl) D.bool (by decide +kernel) rfl) pa_nil))))))), ?_⟩
    refine ⟨_, rfl, ?_⟩
    cases hk with
    | int i => exact ⟨_, _, _, _, true, rfl, .ty _, .base (.int i), kit_ty (by decide +kernel), true, rfl, iteT ⟨_, rfl, _, _, _, _, false, rfl, .ty _, .base (.int i), kit_ty (by decide +kernel), false, rfl, q⟩⟩
    | bl b => exact ⟨_, _, _, _, true, rfl, .ty _, .base (.bl b), kit_ty (by decide +kernel), true, rfl, iteT ⟨_, rfl, _, _, _, _, true, rfl, .ty _, .base (.bl b), kit_ty (by decide +kernel), true, rfl, q⟩⟩
    | str z _ _ => exact ⟨_, _, _, _, false, rfl, .ty _, .base (.str z), kit_ty (by decide +kernel), false, rfl, iteF q⟩
    | non => exact ⟨_, _, _, _, false, rfl, .ty _, .base .non, kit_ty (by decide +kernel), false, rfl, iteF q⟩
    | oth a t ty ki ks => exact ⟨_, _, _, _, false, rfl, .ty _, ty, ki, false, rfl, iteF q⟩
theorem scIsInt : FnScope ["value", "low", "high"] ["value", "low", "high"] (defScope sIsInt) := ⟨rfl, rfl, rfl, by decide +kernel, rfl, by decide +kernel, by decide +kernel⟩
theorem ok_isInt {f f1 : Addr} {fd fd1 : FuncData} (F : Fun K "is_integer" "is_integer" sIsInt f fd) (G : FnOk P w K mg base CX0 1 f1 fd1 ["value"] (spWhole K)) (m1 : mg "_is_whole" = some (.ref f1)) (k1 : PySem.W.keepIn K (.ref f1) = true) (b1 : Binds K fd1 ["value"] []) :
    FnOk P w K mg base CX0 2 f fd ["value", "low", "high"] (spIsInt K) := by
  refine F.ok scIsInt (fun vs H Q E h => ?_) (fun cdv A outer s H vs Q E hr h => ?_)
  · obtain ⟨v, lo, hi, rfl, _⟩ := h
    rfl
  · obtain ⟨v, lo, hi, rfl, hk, q⟩ := h
    refine ⟨_, pss_one (ps_ret (pe_and (pe_call G hr (by rfl) m1 k1 b1 .nil pass0 (pa_cons (pv 0) pa_nil)) (pe_one (pe_chain op_le op_le (pv 1) (pv 0) (pv 2))))), ?_⟩
    refine ⟨_, rfl, v, rfl, hk, _, rfl, ?_⟩
    cases hk with
    | int i =>
      refine iteT ⟨_, rfl, _, rfl, _, _, rfl, rfl, _, rfl, ite2 (fun hc => ?_) (fun hc => ?_)⟩
      · refine ⟨_, rfl, _, _, rfl, rfl, ?_⟩
        have e : inB lo hi (.int i) = decide (i ≤ hi) := by
          show (decide (lo ≤ i) && decide (i ≤ hi)) = _
          rw [hc, Bool.true_and]
        rw [e] at q
        exact q
      · have e : inB lo hi (.int i) = false := by
          show (decide (lo ≤ i) && decide (i ≤ hi)) = _
          rw [Bool.eq_false_iff.mpr hc, Bool.false_and]
        rw [e] at q
        exact q
    | bl b => exact iteF q
    | str z _ _ => exact iteF q
    | non => exact iteF q
    | oth a t ty ki ks => exact iteF q
theorem scIsName : FnScope ["value", "letter"] ["value"] (defScope sIsName) := ⟨rfl, rfl, rfl, by decide +kernel, rfl, by decide +kernel, by decide +kernel⟩
theorem ok_isName {f : Addr} {fd : FuncData} {t1 t2 : Tok} (F : Fun K "is_name" "is_name" sIsName f fd) (B : Blt mg) (D : Blp mg) (mL : mg "_LONGEST_NAME" = some (.int 6 t1)) (mA : mg "_LETTERS" = some (.str abc t2)) : FnOk P w K mg base CX0 1 f fd ["value"] (spIsName K) := by
  refine F.ok scIsName (fun vs H Q E h => ?_) (fun cdv A outer s H vs Q E hr h => ?_)
  · obtain ⟨v, rfl, _⟩ := h
    rfl
  · obtain ⟨v, rfl, hk, q⟩ := h
    have nd := scIsName.nd
    refine ⟨_, pss_cons (ps_if (PW.pt (pw_or (pt_not (pt_val (pe_callB call_isi (by rfl) D.isi (by decide +kernel) (pa_cons (pv 0) (pa_cons (pe_bltn (v := .ty "str") (by rfl) D.str (by decide +kernel) rfl) pa_nil)))))
        (pw_or1 (pt_not (pt_chain op_le op_le pe_int (pe_callB call_len_str (by rfl) B.len PySem.boot_len (pa_cons (pv 0) pa_nil)) (pe_glob (v := .int 6) rfl mL ⟨_, rfl⟩)))))) (pss_one (ps_ret pe_bl)) pss_nil)
      (pss_one (ps_ret (pe_callB (cr_all rfl) (by rfl) D.all (by decide +kernel) (pa_cons (pe_lc (own := [("letter", 1)]) (g := gName 1) (tt := tYes) rfl nd (pi_str (pv 0)) (blkOk_by (N := ["value", "letter"]) (sc := defScope sIsName) (by decide +kernel))
        (fun _ _ _ _ _ => pg_name (i := 1) nd rfl (Or.inl rfl)) (fun _ _ _ _ _ => pts_nil) (fun _ _ _ _ _ => pe_cmpR op_in_sign (pv 1) (pe_glob (v := .str abc) rfl mA ⟨_, rfl⟩) (by rfl))) pa_nil)))), ?_⟩
    refine ⟨_, rfl, ?_⟩
    have no : ∀ {v : V}, nameV v = false → (∀ H', Same H H' → Q (.bl (nameV v)) H') → Q (.bl false) H := fun e q => by
      rw [← e]
      exact q _ fun _ _ z => z
    cases hk with
    | int i => exact ⟨_, _, _, _, false, rfl, .ty _, .base (.int i), kit_ty (by decide +kernel), false, rfl, iteT (iteT (no rfl q))⟩
    | bl b => exact ⟨_, _, _, _, false, rfl, .ty _, .base (.bl b), kit_ty (by decide +kernel), false, rfl, iteT (iteT (no rfl q))⟩
    | non => exact ⟨_, _, _, _, false, rfl, .ty _, .base .non, kit_ty (by decide +kernel), false, rfl, iteT (iteT (no rfl q))⟩
    | oth a t ty ki ks => exact ⟨_, _, _, _, false, rfl, .ty _, ty, ks, false, rfl, iteT (iteT (no rfl q))⟩
    | str z hz ok =>
      refine ⟨_, _, _, _, true, rfl, .ty _, .base (.str z), kit_ty (by decide +kernel), true, rfl, iteF ?_⟩
      have zl : z.length ≤ sizeLine := Nat.le_trans hz (by decide)
      refine ⟨_, rfl, _, rfl, zl, _, _, rfl, rfl, _, rfl, ite2 (fun h1 => ?_) (fun h1 => ?_)⟩
      · refine ⟨_, _, rfl, rfl, _, rfl, ?_⟩
        cases h6 : decide ((z.length : Int) ≤ 6) with
        | false =>
          refine iteT ?_
          have e : nameV (.str z) = false := by
            show ((decide (1 ≤ (z.length : Int)) && decide ((z.length : Int) ≤ 6)) && z.cps.toList.all fun c => decide (c ∈ abc.cps.toList)) = false
            rw [h6, Bool.and_false, Bool.false_and]
          exact no e q
        | true =>
          refine iteF ?_
          refine ⟨_, rfl, z, rfl, fun p np => lc_it walk_str (fun i H' => H' = upd H p (.lst ((z.cps.toList.take i).map fun c => V.bl (decide (c ∈ abc.cps.toList))))) rfl (fun _ _ _ _ => trivial) ?_ ?_⟩
          · rintro i x H0 H' hi rfl ⟨rfl, c, hc, rfl⟩
            refine ⟨rfl, ?_⟩
            unfold tYes
            refine iteT ⟨_, rfl, c, abc, rfl, rfl, _, upd_same, ?_, ?_⟩
            · rw [List.length_map, List.length_take]
              exact Nat.lt_of_le_of_lt (Nat.min_le_left _ _) (Nat.lt_of_lt_of_le hi zl)
            · rw [upd_upd]
              have hc2 : z.cps.toList[i]? = some c := by
                rw [Array.getElem?_toList]
                exact hc
              rw [List.take_succ, hc2, List.map_append]
              rfl
          · rintro H' rfl
            have sz : z.cps.toList.take z.cps.size = z.cps.toList := by
              rw [← Array.length_toList, List.take_length]
            refine ⟨p, (z.cps.toList.take z.cps.size).map fun c => decide (c ∈ abc.cps.toList), rfl, SqL.of (by rw [List.map_map]; exact upd_same), ?_⟩
            have e : nameV (.str z) = ((z.cps.toList.take z.cps.size).map fun c => decide (c ∈ abc.cps.toList)).all id := by
              show ((decide (1 ≤ (z.length : Int)) && decide ((z.length : Int) ≤ 6)) && z.cps.toList.all fun c => decide (c ∈ abc.cps.toList)) = _
              rw [h1, h6, sz, List.all_map]
              rfl
            rw [← e]
            refine q _ fun b o z => ?_
            rw [upd_ne (ne_of_none z np)]
            exact z
      · have e : nameV (.str z) = false := by
          show ((decide (1 ≤ (z.length : Int)) && decide ((z.length : Int) ≤ 6)) && z.cps.toList.all fun c => decide (c ∈ abc.cps.toList)) = false
          rw [Bool.eq_false_iff.mpr h1, Bool.false_and, Bool.false_and]
        exact ⟨_, rfl, iteT (no e q)⟩
end
end Mz
set_option Elab.async false
set_option linter.all false
set_option maxRecDepth 100000
set_option maxHeartbeats 4000000
namespace Mz
open PySem PySem.Spec PyProof.Rows L2
def lowS (z : Str) : Int := if z = "" then 0 else -3
def spLeast : Sp := fun vs H Q _ => ∃ z : Str, vs = [.str z] ∧ Q (.int (lowS z)) H
/-- a place's fields -/
def plF (z : Str) (k : Int) : List (Str × V) := putF "_shift" (.int k) (putF "_base" (.str z) [])
/-- a place that can be made: no error -/
def spInit (C : Addr) : Sp := fun vs H Q _ => ∃ (p dx : Addr) (z : Str) (k : Int), vs = [.ref p, .str z, .int k] ∧ H p = some (.ins C dx []) ∧ z.length ≤ 1000 ∧ PyData.strOk z = true ∧ (z = "" ∨ nameS z = true) ∧ lowS z ≤ k ∧ k ≤ 3 ∧
  ∀ H', (∀ q o, q ≠ p → H q = some o → H' q = some o) → H' p = some (.ins C dx (plF z k)) → Q .non H'
structure Cpl (K : PySem.W.Frag) (mg : Str → Option Value) (C : Addr) : Prop where
  cl : Cls K C
  nB : NoAttr K C "_base"
  nS : NoAttr K C "_shift"
  mgC : mg "Place" = some (.ref C)
section
variable {P : Program} {w : World} {K : PySem.W.Frag} {mg : Str → Option Value} {base : Heap}
theorem scIsMark : FnScope ["value"] ["value"] (defScope sIsMark) := ⟨rfl, rfl, rfl, by decide +kernel, rfl, by decide +kernel, by decide +kernel⟩
theorem ok_isMark {f f1 pM : Addr} {fd fd1 : FuncData} (F : Fun K "is_mark" "is_mark" sIsMark f fd) (G : FnOk P w K mg base CX0 1 f1 fd1 ["value"] (spIsName K)) (m1 : mg "is_name" = some (.ref f1)) (k1 : PySem.W.keepIn K (.ref f1) = true) (b1 : Binds K fd1 ["value"] [])
    (mM : mg "_NO_MARKS" = some (.ref pM)) (hM : ∀ H, SqT K H pM noMarks) : FnOk P w K mg base CX0 2 f fd ["value"] (spIsMark K) := by
  refine F.ok scIsMark (fun vs H Q E h => ?_) (fun cdv A outer s H vs Q E hr h => ?_)
  · obtain ⟨v, rfl, _⟩ := h
    rfl
  · obtain ⟨v, rfl, hk, q⟩ := h
    refine ⟨_, pss_one (ps_ret (pe_and (pe_call G hr (by rfl) m1 k1 b1 .nil pass0 (pa_cons (pv 0) pa_nil)) (pe_one (pe_cmpR op_notIn_seq (pv 0) (pe_glob (v := .ref pM) rfl mM rfl) (by rfl))))), ?_⟩
    refine ⟨_, rfl, v, rfl, hk, fun H' sm => ⟨_, rfl, ite2 (fun hn => ?_) (fun hn => ?_)⟩⟩
    · cases hk with
      | str z hz ok =>
        refine ⟨_, rfl, pM, noMarks, rfl, .inr (hM _), rfl, rfl, ?_⟩
        have e : markV (.str z) = !inV (.str z) noMarks := by
          show (nameS z && !inV (.str z) noMarks) = _
          rw [show nameS z = true from hn, Bool.true_and]
        have q2 := q H' sm
        rw [e] at q2
        exact q2
      | int i => exact absurd hn (by simp [nameV])
      | bl b => exact absurd hn (by simp [nameV])
      | non => exact absurd hn (by simp [nameV])
      | oth a t ty ki ks => exact absurd hn (by simp [nameV])
    · have e : markV v = false := by
        cases v with
        | str z =>
          show (nameS z && !inV (.str z) noMarks) = false
          rw [show nameS z = false from Bool.eq_false_iff.mpr hn, Bool.false_and]
        | _ => rfl
      have q2 := q H' sm
      rw [e] at q2
      exact q2
theorem scLeast : FnScope ["base"] ["base"] (defScope sLeast) := ⟨rfl, rfl, rfl, by decide +kernel, rfl, by decide +kernel, by decide +kernel⟩
theorem ok_least {f : Addr} {fd : FuncData} {t : Tok} (F : Fun K "_least_shift" "_least_shift" sLeast f fd) (mM : mg "_MOST" = some (.int 3 t)) : FnOk P w K mg base CX0 1 f fd ["base"] spLeast := by
  refine F.ok scLeast (fun vs H Q E h => ?_) (fun cdv A outer s H vs Q E hr h => ?_)
  · obtain ⟨z, rfl, _⟩ := h
    rfl
  · obtain ⟨z, rfl, q⟩ := h
    refine ⟨_, pss_one (ps_ret (pe_ifExp (pt_cmpR op_eq (pv 0) pe_str (nomark _)) pe_int (pe_un un_neg (pe_glob (v := .int 3) rfl mM ⟨_, rfl⟩)))), ?_⟩
    refine ⟨_, rfl, rfl, _, rfl, ite2 (fun hc => ?_) (fun hc => ?_)⟩
    · have e : lowS z = 0 := if_pos (V.str.inj (of_decide_eq_true hc))
      rw [e] at q
      exact q
    · have e : lowS z = -3 := if_neg fun x => hc (decide_eq_true (by rw [x]))
      rw [e] at q
      exact ⟨_, rfl, q⟩
theorem scInit : FnScope ["self", "base", "shift"] ["self", "base", "shift"] (defScope (inClass sPlace 0)) := ⟨rfl, rfl, rfl, by decide +kernel, rfl, by decide +kernel, by decide +kernel⟩
theorem ok_init {f f1 f2 f3 C : Addr} {fd fd1 fd2 fd3 : FuncData} {t : Tok} {dvs : List V} {kws : List (Str × V)} {pa : Arguments} (F : FunD K "__init__" "Place.__init__" pa (defBody (inClass sPlace 0)) (defScope (inClass sPlace 0)) dvs kws f fd) (T : Cpl K mg C)
    (G1 : FnOk P w K mg base CX0 1 f1 fd1 ["value"] (spIsName K)) (m1 : mg "is_name" = some (.ref f1)) (k1 : PySem.W.keepIn K (.ref f1) = true) (b1 : Binds K fd1 ["value"] [])
    (G2 : FnOk P w K mg base CX0 2 f2 fd2 ["value", "low", "high"] (spIsInt K)) (m2 : mg "is_integer" = some (.ref f2)) (k2 : PySem.W.keepIn K (.ref f2) = true) (b2 : Binds K fd2 ["value", "low", "high"] [])
    (G3 : FnOk P w K mg base CX0 1 f3 fd3 ["base"] spLeast) (m3 : mg "_least_shift" = some (.ref f3)) (k3 : PySem.W.keepIn K (.ref f3) = true) (b3 : Binds K fd3 ["base"] [])
    (mM : mg "_MOST" = some (.int 3 t)) : FnOk P w K mg base CX0 3 f fd ["self", "base", "shift"] (spInit C) := by
  refine F.ok scInit (fun vs H Q E h => ?_) (fun cdv A outer s H vs Q E hr h => ?_)
  · obtain ⟨p, dx, z, k, rfl, _⟩ := h
    rfl
  · obtain ⟨p, dx, z, k, rfl, hp, hz, ok, hn, h1, h2, q⟩ := h
    refine ⟨_, PSs.nox (pss_cons (ps_if (PW.pt (pw_and (pt_cmpR op_ne (pv 1) pe_str (nomark _)) (pw_and1 (pt_not (pt_val (pe_call G1 (hr.mono (by decide)) (by rfl) m1 k1 b1 .nil pass0 (pa_cons (pv 1) pa_nil))))))) (pss_one ps_never) pss_nil)
      (pss_cons (ps_if (pt_not (pt_val (pe_call G2 hr (by rfl) m2 k2 b2 .nil pass0 (pa_cons (pv 2) (pa_cons (pe_call G3 (hr.mono (by decide)) (by rfl) m3 k3 b3 .nil pass0 (pa_cons (pv 1) pa_nil)) (pa_cons (pe_glob (v := .int 3) rfl mM ⟨_, rfl⟩) pa_nil)))))) (pss_one ps_never) pss_nil)
      (pss_cons (ps_fld (pv 0) (pv 1) rfl) (pss_one (ps_fld (pv 0) (pv 2) rfl))))), ?_⟩
    generalize hT : tSeq (tIfS (tNot _) _ _) (tSeq (sFld _ _ _ _) (sFld _ _ _ _)) = T2
    have rest : ∀ H1, Same H H1 → T2 { nx := fun _ H' => Q .non H', rt := Q } (start ["self", "base", "shift"] [V.ref p, V.str z, V.int k]) H1 := by
      intro H1 sm
      rw [← hT]
      have hp1 := sm _ _ hp
      refine ⟨_, rfl, _, rfl, z, rfl, .int k, lowS z, 3, rfl, Kd.int k, _, rfl, ?_⟩
      have e : inB (lowS z) 3 (.int k) = true := by
        show (decide (lowS z ≤ k) && decide (k ≤ 3)) = true
        rw [decide_eq_true h1, decide_eq_true h2]
        rfl
      rw [e]
      refine iteF ⟨_, rfl, _, rfl, p, C, dx, [], rfl, hp1, T.cl, T.nB, (by show 0 < 1000; decide), _, rfl, _, rfl, p, C, dx, _, rfl, upd_same, T.cl, T.nS, (by show 1 < 1000; decide), ?_⟩
      refine q _ (fun r o n e => ?_) upd_same
      rw [upd_ne n, upd_ne n]
      exact sm _ _ e
    have kd : Kd K H (.str z) := .str z hz ok
    by_cases hz0 : z = ""
    · subst hz0
      exact ⟨_, rfl, rfl, _, rfl, iteF (iteF (rest H (Same.refl H)))⟩
    · have hnm : nameS z = true := hn.resolve_left hz0
      have e : decide (V.str z = V.str "") = false := decide_eq_false fun x => hz0 (V.str.inj x)
      refine ⟨_, rfl, rfl, _, rfl, ?_⟩
      rw [e]
      refine iteT ⟨_, rfl, .str z, rfl, kd, fun H1 sm => ⟨_, rfl, ?_⟩⟩
      have e2 : nameV (.str z) = true := hnm
      rw [e2]
      exact iteF (rest H1 sm)
end
end Mz
set_option Elab.async false
set_option linter.all false
set_option maxRecDepth 100000
set_option maxHeartbeats 4000000
namespace Mz
open PySem PySem.Spec PyProof.Rows L2
/-! letters, by order and by the alphabet -/
def loC (c : Nat) : Bool := !decide ((⟨#[c]⟩ : Str).cps.toList < ("a" : Str).cps.toList)
def hiC (c : Nat) : Bool := !decide (("z" : Str).cps.toList < (⟨#[c]⟩ : Str).cps.toList)
theorem abc_range : abc.cps.toList = List.range' 97 26 := by decide +kernel
theorem one_lt (a b : Nat) : ([a] : List Nat) < [b] ↔ a < b := by
  rw [List.cons_lt_cons_iff]
  simp
theorem letter_eq (c : Nat) : (loC c && hiC c) = decide (c ∈ abc.cps.toList) := by
  have e1 : loC c = decide (97 ≤ c) := by
    unfold loC
    rw [show ("a" : Str).cps.toList = [97] by decide +kernel]
    show (!decide (([c] : List Nat) < [97])) = _
    rw [decide_eq_decide.mpr (one_lt c 97)]
    by_cases h : c < 97
    · rw [decide_eq_true h, decide_eq_false (by omega)]; rfl
    · rw [decide_eq_false h, decide_eq_true (by omega)]; rfl
  have e2 : hiC c = decide (c ≤ 122) := by
    unfold hiC
    rw [show ("z" : Str).cps.toList = [122] by decide +kernel]
    show (!decide (([122] : List Nat) < [c])) = _
    rw [decide_eq_decide.mpr (one_lt 122 c)]
    by_cases h : 122 < c
    · rw [decide_eq_true h, decide_eq_false (by omega)]; rfl
    · rw [decide_eq_false h, decide_eq_true (by omega)]; rfl
  rw [e1, e2, abc_range, ← Bool.decide_and]
  refine decide_eq_decide.mpr ?_
  rw [List.mem_range'_1]
  omega
theorem dp_strs {K : PySem.W.Frag} {H : Hp} : ∀ l : List Str, DpAll K H (l.map V.str) (l.map PyData.str)
  | [] => .nil
  | z :: l => .cons (.str z) (dp_strs l)
theorem strs_lay : ∀ l : List Str, (∀ z ∈ l, PyData.strOk z = true) → PyData.canLayAll0 (l.map PyData.str) = true ∧ PyData.depthAll (l.map PyData.str) = 0
  | [], _ => ⟨rfl, rfl⟩
  | z :: l, ok => by
    obtain ⟨h1, h2⟩ := strs_lay l fun y hy => ok y (List.mem_cons_of_mem _ hy)
    have h3 := ok z List.mem_cons_self
    rw [List.map_cons]
    refine ⟨?_, ?_⟩
    · simp [PyData.canLayAll0, PyData.canLay0, h1, h3]
    · simp [PyData.depthAll, PyData.depth, h2]
theorem shaped_strs (l : List Str) (ok : ∀ z ∈ l, PyData.strOk z = true) : SeqAt.shaped (.list (l.map PyData.str)) = true := by
  obtain ⟨h1, h2⟩ := strs_lay l ok
  unfold SeqAt.shaped
  simp [PyData.canLay0, PyData.depth, h1, h2]
theorem sign_ok {z : Str} {c : Nat} (ok : PyData.strOk z = true) (h : c ∈ z.cps.toList) : PyData.strOk ⟨#[c]⟩ = true := by
  have h1 : c < 0x110000 := by
    unfold PyData.strOk at ok
    rw [Array.all_eq_true_iff_forall_mem] at ok
    exact of_decide_eq_true (ok c (Array.mem_toList_iff.mp h))
  unfold PyData.strOk
  simp only [Array.all_eq_true_iff_forall_mem]
  intro x hx
  have e : x = c := by simpa using hx
  rw [e]
  exact decide_eq_true h1
theorem eqv_nil {xs : List PyData} : PyData.eqv (.list xs) (.list []) = xs.isEmpty := by
  cases xs <;> rfl
section
variable {P : Program} {w : World} {K : PySem.W.Frag} {mg : Str → Option Value} {base : Heap}
theorem scDue : FnScope ["_law_thing", "_law_sign"] ["_law_thing"] (defScope sDue) := ⟨rfl, rfl, rfl, by decide +kernel, rfl, by decide +kernel, by decide +kernel⟩
theorem ok_due {f : Addr} {fd : FuncData} (F : Fun K "_law_name_due" "_law_name_due" sDue f fd) (B : Blt mg) (D : Blp mg) : FnOk P w K mg base CX0 1 f fd ["_law_thing"] (spIsName K) := by
  refine F.ok scDue (fun vs H Q E h => ?_) (fun cdv A outer s H vs Q E hr h => ?_)
  · obtain ⟨v, rfl, _⟩ := h
    rfl
  · obtain ⟨v, rfl, hk, q⟩ := h
    have nd := scDue.nd
    refine ⟨_, pss_cons (ps_if (PW.pt (pw_or (pt_not (pt_val (pe_callB call_isi (by rfl) D.isi (by decide +kernel) (pa_cons (pv 0) (pa_cons (pe_bltn (v := .ty "str") (by rfl) D.str (by decide +kernel) rfl) pa_nil)))))
        (pw_or1 (pt_not (pt_chain op_le op_le pe_int (pe_callB call_len_str (by rfl) B.len PySem.boot_len (pa_cons (pv 0) pa_nil)) pe_int))))) (pss_one (ps_ret pe_bl)) pss_nil)
      (pss_one (ps_ret (pe_cmpR (op_eqD hr.units) (pe_lc (own := [("_law_sign", 1)]) (g := gName 1) rfl nd (pi_str (pv 0)) (blkOk_by (N := ["_law_thing", "_law_sign"]) (sc := defScope sDue) (by decide +kernel))
        (fun _ _ _ _ _ => pg_name (i := 1) nd rfl (Or.inl rfl)) (fun _ _ _ _ _ => pts_one (pt_not (pt_chain op_le_str op_le_str pe_str (pv 1) pe_str))) (fun _ _ _ _ _ => pv 1)) (pe_lst pa_nil) (nomark _)))), ?_⟩
    refine ⟨_, rfl, ?_⟩
    have no : ∀ {v : V}, nameV v = false → (∀ H', Same H H' → Q (.bl (nameV v)) H') → Q (.bl false) H := fun e q => by
      rw [← e]
      exact q _ fun _ _ z => z
    cases hk with
    | int i => exact ⟨_, _, _, _, false, rfl, .ty _, .base (.int i), kit_ty (by decide +kernel), false, rfl, iteT (iteT (no rfl q))⟩
    | bl b => exact ⟨_, _, _, _, false, rfl, .ty _, .base (.bl b), kit_ty (by decide +kernel), false, rfl, iteT (iteT (no rfl q))⟩
    | non => exact ⟨_, _, _, _, false, rfl, .ty _, .base .non, kit_ty (by decide +kernel), false, rfl, iteT (iteT (no rfl q))⟩
    | oth a t ty ki ks => exact ⟨_, _, _, _, false, rfl, .ty _, ty, ks, false, rfl, iteT (iteT (no rfl q))⟩
    | str z hz ok =>
      refine ⟨_, _, _, _, true, rfl, .ty _, .base (.str z), kit_ty (by decide +kernel), true, rfl, iteF ?_⟩
      have zl : z.length ≤ sizeLine := Nat.le_trans hz (by decide)
      refine ⟨_, rfl, _, rfl, zl, _, _, rfl, rfl, _, rfl, ite2 (fun h1 => ?_) (fun h1 => ?_)⟩
      · refine ⟨_, _, rfl, rfl, _, rfl, ?_⟩
        cases h6 : decide ((z.length : Int) ≤ 6) with
        | false =>
          refine iteT ?_
          have e : nameV (.str z) = false := by
            show ((decide (1 ≤ (z.length : Int)) && decide ((z.length : Int) ≤ 6)) && z.cps.toList.all fun c => decide (c ∈ abc.cps.toList)) = false
            rw [h6, Bool.and_false, Bool.false_and]
          exact no e q
        | true =>
          refine iteF ?_
          refine ⟨_, rfl, z, rfl, fun p np => lc_it walk_str (fun i H' => H' = upd H p (.lst (((z.cps.toList.take i).filter fun c => !(loC c && hiC c)).map fun c => V.str ⟨#[c]⟩))) rfl (fun _ _ _ _ => trivial) ?_ ?_⟩
          · rintro i x H0 H' hi rfl ⟨rfl, c, hc, rfl⟩
            have hc2 : z.cps.toList[i]? = some c := by
              rw [Array.getElem?_toList]
              exact hc
            have len : (((z.cps.toList.take i).filter fun c => !(loC c && hiC c)).map fun c => V.str ⟨#[c]⟩).length < sizeLine := by
              rw [List.length_map]
              refine Nat.lt_of_le_of_lt (List.length_filter_le _ _) ?_
              rw [List.length_take]
              exact Nat.lt_of_le_of_lt (Nat.min_le_left _ _) (Nat.lt_of_lt_of_le hi zl)
            have put : (loC c && hiC c) = false → upd (upd H p (.lst (((z.cps.toList.take i).filter fun c => !(loC c && hiC c)).map fun c => V.str ⟨#[c]⟩))) p (.lst ((((z.cps.toList.take i).filter fun c => !(loC c && hiC c)).map fun c => V.str ⟨#[c]⟩) ++ [V.str ⟨#[c]⟩])) =
                upd H p (.lst (((z.cps.toList.take (i + 1)).filter fun c => !(loC c && hiC c)).map fun c => V.str ⟨#[c]⟩)) := fun e => by
              rw [upd_upd, List.take_succ, hc2, List.filter_append, List.map_append]
              show _ = upd H p (.lst (_ ++ List.map _ (List.filter _ [c])))
              rw [List.filter_cons_of_pos (by rw [e]; rfl)]
              rfl
            have skip : (loC c && hiC c) = true → upd H p (.lst (((z.cps.toList.take i).filter fun c => !(loC c && hiC c)).map fun c => V.str ⟨#[c]⟩)) =
                upd H p (.lst (((z.cps.toList.take (i + 1)).filter fun c => !(loC c && hiC c)).map fun c => V.str ⟨#[c]⟩)) := fun e => by
              rw [List.take_succ, hc2, List.filter_append, List.map_append]
              show _ = upd H p (.lst (_ ++ List.map _ (List.filter _ [c])))
              rw [List.filter_cons_of_neg (by rw [e]; decide)]
              show _ = upd H p (.lst (_ ++ []))
              rw [List.append_nil]
            refine ⟨rfl, _, rfl, _, _, rfl, rfl, loC c, rfl, ite2 (fun ht => ?_) (fun hf => ?_)⟩
            · refine ⟨_, _, rfl, rfl, hiC c, rfl, ?_⟩
              cases hh : hiC c with
              | true => exact iteF (skip (by rw [ht, hh]; rfl))
              | false => exact iteT ⟨_, rfl, _, upd_same, len, put (by rw [hh, Bool.and_false])⟩
            · exact ⟨_, rfl, iteT ⟨_, rfl, _, upd_same, len, put (by rw [Bool.eq_false_iff.mpr hf, Bool.false_and])⟩⟩
          · rintro H' rfl
            have sz : z.cps.toList.take z.cps.size = z.cps.toList := by
              rw [← Array.length_toList, List.take_length]
            rw [sz]
            refine ⟨Nat.zero_le _, fun r nr => ?_⟩
            have nrp : r ≠ p := fun x => by
              rw [x, upd_same] at nr
              cases nr
            have nr0 : H r = none := by
              rw [upd_ne nrp] at nr
              exact nr
            have em : ((z.cps.toList.filter fun c => !(loC c && hiC c)).map fun c => V.str ⟨#[c]⟩) = ((z.cps.toList.filter fun c => !(loC c && hiC c)).map fun c => (⟨#[c]⟩ : Str)).map V.str := by
              rw [List.map_map]
              rfl
            rw [em] at nr ⊢
            refine ⟨_, .list [], .lst (SqL.of (by rw [upd_ne nrp.symm]; exact upd_same)) (dp_strs _), .lst (SqL.of upd_same) .nil, shaped_strs _ ?_, rfl, ?_⟩
            · intro y hy
              obtain ⟨c, hc, rfl⟩ := List.mem_map.mp hy
              exact sign_ok ok (List.mem_filter.mp hc).1
            rw [eqv_nil]
            have e : nameV (.str z) = (((z.cps.toList.filter fun c => !(loC c && hiC c)).map fun c => (⟨#[c]⟩ : Str)).map PyData.str).isEmpty := by
              show ((decide (1 ≤ (z.length : Int)) && decide ((z.length : Int) ≤ 6)) && z.cps.toList.all fun c => decide (c ∈ abc.cps.toList)) = _
              rw [h1, h6, List.map_map, Bool.true_and, Bool.true_and]
              generalize z.cps.toList = l
              induction l with
              | nil => rfl
              | cons c l ih =>
                rw [List.all_cons, List.filter_cons, ← letter_eq c]
                cases hb : loC c && hiC c with
                | true => exact ih
                | false => rfl
            rw [← e]
            refine q _ fun b o x => ?_
            rw [upd_ne (ne_of_none x nr0), upd_ne (ne_of_none x np)]
            exact x
      · have e : nameV (.str z) = false := by
          show ((decide (1 ≤ (z.length : Int)) && decide ((z.length : Int) ≤ 6)) && z.cps.toList.all fun c => decide (c ∈ abc.cps.toList)) = false
          rw [Bool.eq_false_iff.mpr h1, Bool.false_and, Bool.false_and]
        exact ⟨_, rfl, iteT (no e q)⟩
end
end Mz
set_option Elab.async false
set_option linter.all false
set_option maxRecDepth 100000
set_option maxHeartbeats 4000000
namespace Mz
open PySem PySem.Spec PyProof.Rows L2
/-! texts of a bounded length, of signs that are some -/
def Sm (n : Nat) (z : Str) : Prop := z.length ≤ n ∧ PyData.strOk z = true
theorem strOk_iff {z : Str} : PyData.strOk z = true ↔ ∀ c ∈ z.cps.toList, c < 0x110000 := by
  unfold PyData.strOk
  rw [Array.all_eq_true_iff_forall_mem]
  exact ⟨fun h c hc => of_decide_eq_true (h c (Array.mem_toList_iff.mp hc)), fun h c hc => decide_eq_true (h c (Array.mem_toList_iff.mpr hc))⟩
theorem Sm.mono {n m : Nat} {z : Str} (h : Sm n z) (le : n ≤ m) : Sm m z := ⟨Nat.le_trans h.1 le, h.2⟩
theorem Sm.app {n m : Nat} {y z : Str} (hy : Sm n y) (hz : Sm m z) : Sm (n + m) (y ++ z) := by
  refine ⟨by rw [strLen_append]; exact Nat.add_le_add hy.1 hz.1, strOk_iff.mpr fun c hc => ?_⟩
  have hc2 : c ∈ (y.cps ++ z.cps).toList := hc
  rw [Array.toList_append] at hc2
  rcases List.mem_append.mp hc2 with e | e
  · exact strOk_iff.mp hy.2 c e
  · exact strOk_iff.mp hz.2 c e
theorem Sm.cut {n : Nat} {z : Str} (h : Sm n z) (lo hi : Option Int) : Sm n (cutS z lo hi) := by
  unfold cutS
  refine ⟨?_, strOk_iff.mpr fun c hc => ?_⟩
  · show ((z.cps.toList.drop _).take _).toArray.size ≤ n
    rw [List.size_toArray, List.length_take, List.length_drop]
    have e : z.cps.toList.length = z.length := rfl
    have := h.1
    omega
  · exact strOk_iff.mp h.2 c (List.mem_of_mem_drop (List.mem_of_mem_take hc))
theorem sm_sign {z : Str} {c : Nat} (ok : PyData.strOk z = true) (h : c ∈ z.cps.toList) : Sm 1 ⟨#[c]⟩ := ⟨Nat.le_refl _, sign_ok ok h⟩
theorem join_ok : ∀ l : List Str, (∀ y ∈ l, PyData.strOk y = true) → PyData.strOk (Str.join "" l) = true
  | [], _ => by decide +kernel
  | [x], h => h x List.mem_cons_self
  | x :: y :: r, h => by
    have h1 := h x List.mem_cons_self
    have h2 := join_ok (y :: r) fun z hz => h z (List.mem_cons_of_mem _ hz)
    show PyData.strOk (x ++ "" ++ Str.join "" (y :: r)) = true
    exact (Sm.app (Sm.app ⟨Nat.le_refl _, h1⟩ ⟨Nat.le_refl _, by decide +kernel⟩) ⟨Nat.le_refl _, h2⟩).2
theorem sum_ones : ∀ l : List Str, (∀ y ∈ l, Sm 1 y) → (l.map (·.length)).sum ≤ l.length
  | [], _ => Nat.le_refl _
  | x :: r, h => by
    have h1 := (h x List.mem_cons_self).1
    have h2 := sum_ones r fun z hz => h z (List.mem_cons_of_mem _ hz)
    rw [List.map_cons, List.sum_cons, List.length_cons]
    omega
theorem sm_join {l : List Str} (h : ∀ y ∈ l, Sm 1 y) : Sm l.length (Txt.join "" l) := by
  unfold Txt.join
  rw [StrLaws.glued_eq_join]
  refine ⟨?_, join_ok l fun y hy => (h y hy).2⟩
  have e := StrLaws.join_length_le "" l
  have e2 := sum_ones l h
  have e3 : l.length * ("" : Str).length = 0 := by
    rw [show ("" : Str).length = 0 by decide +kernel, Nat.mul_zero]
  omega
theorem atI_in {a : Type} {l : List a} {i : Int} (h0 : 0 ≤ i) (h1 : i < (l.length : Int)) : ∃ c, atI l i = some c ∧ c ∈ l := by
  obtain ⟨k, rfl⟩ := Int.eq_ofNat_of_zero_le h0
  have hk : k < l.length := by omega
  exact ⟨l[k], atI_nat (List.getElem?_eq_getElem hk), List.getElem_mem hk⟩
theorem str_empty {z : Str} (h : z.length = 0) : z = "" := by
  obtain ⟨l⟩ := z
  have e : l = #[] := Array.eq_empty_of_size_eq_zero h
  rw [e]
  rfl
def spNumber : Sp := fun vs H Q _ => ∃ (b : Addr) (n : Nat), vs = [.ref b] ∧ Bx H b n ∧ n ≤ 900000 ∧ ∀ (i : Int) (H' : Hp), Bx H' b (n + 3) → Kp b H H' → Q (.int i) H'
def spWord : Sp := fun vs H Q _ => ∃ (b : Addr) (n : Nat), vs = [.ref b] ∧ Bx H b n ∧ n ≤ 900000 ∧ ∀ (z : Str) (H' : Hp), Sm 100 z → Bx H' b (n + 20) → Kp b H H' → Q (.str z) H'
section
variable {P : Program} {w : World} {K : PySem.W.Frag} {mg : Str → Option Value} {base : Heap}
/-- _law_take of the text -/
structure Tk (P : Program) (w : World) (K : PySem.W.Frag) (mg : Str → Option Value) (base : Heap) (f : Addr) (fd : FuncData) : Prop where
  ok : FnOk P w K mg base CX0 1 f fd ["_law_box_here", "_law_many"] spTake
  m : mg "_law_take" = some (.ref f)
  k : PySem.W.keepIn K (.ref f) = true
  b : Binds K fd ["_law_box_here", "_law_many"] []
theorem scNumber : FnScope ["_law_box_here"] ["_law_box_here"] (defScope sNumber) := ⟨rfl, rfl, rfl, by decide +kernel, rfl, by decide +kernel, by decide +kernel⟩
theorem ok_number {f f1 : Addr} {fd fd1 : FuncData} (F : Fun K "_law_number" "_law_number" sNumber f fd) (T : Tk P w K mg base f1 fd1) : FnOk P w K mg base CX0 2 f fd ["_law_box_here"] spNumber := by
  refine F.ok scNumber (fun vs H Q E h => ?_) (fun cdv A outer s H vs Q E hr h => ?_)
  · obtain ⟨b, n, rfl, _⟩ := h
    rfl
  · obtain ⟨b, n, rfl, hB, hn, q⟩ := h
    refine ⟨_, pss_one (ps_ret (pe_ix ix_list (pe_lst (pa_cons (pe_op op_sub (pe_call T.ok hr (by rfl) T.m T.k T.b .nil pass0 (pa_cons (pv 0) (pa_cons pe_int pa_nil))) pe_int)
      (pa_cons (pe_op op_add (pe_op op_mulW (pe_call T.ok hr (by rfl) T.m T.k T.b .nil pass0 (pa_cons (pv 0) (pa_cons (pe_op op_pow pe_int pe_int) pa_nil))) (pe_op op_pow pe_int pe_int)) pe_int)
      (pa_cons (pe_op op_sub pe_int (pe_op op_pow pe_int pe_int)) pa_nil)))) (pe_call T.ok hr (by rfl) T.m T.k T.b .nil pass0 (pa_cons (pv 0) (pa_cons pe_int pa_nil))) (fun _ _ => rfl))), ?_⟩
    refine ⟨_, rfl, b, n, 9, rfl, hB, by omega, by decide, by decide, fun r1 H1 a1 a2 B1 K1 => ?_⟩
    refine ⟨_, _, rfl, rfl, ?_⟩
    refine ⟨_, rfl, _, _, rfl, rfl, ⟨by decide, by decide, by decide⟩, b, n + 1, _, rfl, B1, by omega, by decide, by decide, fun r2 H2 c1 c2 B2 K2 => ?_⟩
    have c3 : r2 < 2 ^ 30 := Int.lt_trans c2 (by decide)
    refine ⟨_, _, rfl, rfl, ⟨by decide, by decide, by decide⟩, _, _, rfl, rfl, wide_mul (a := 30) (b := 200) (by omega) (by decide +kernel) (by decide) (by decide) (by decide), _, _, rfl, rfl, ?_⟩
    refine ⟨_, _, rfl, rfl, ⟨by decide, by decide, by decide⟩, _, _, rfl, rfl, (by show 3 ≤ sizeLine; decide), fun p np => ?_⟩
    refine ⟨_, rfl, b, n + 2, 3, rfl, B2.upd np, by omega, by decide, by decide, fun r3 H3 d1 d2 B3 K3 => ?_⟩
    have nb : p ≠ b := by
      obtain ⟨_, _, _, e, _⟩ := B2
      exact (ne_of_none e np).symm
    have hp := K3 p _ nb upd_same
    have fin : ∀ i : Int, Q (.int i) H3 := fun i => q i H3 B3 (K1.trans (K2.trans ((Kp.fresh np).trans K3)))
    rcases (show r3 = 0 ∨ r3 = 1 ∨ r3 = 2 by omega) with rfl | rfl | rfl
    · exact ⟨p, _, _, _, rfl, rfl, SqL.of hp, rfl, fin _⟩
    · exact ⟨p, _, _, _, rfl, rfl, SqL.of hp, rfl, fin _⟩
    · exact ⟨p, _, _, _, rfl, rfl, SqL.of hp, rfl, fin _⟩
theorem scWord : FnScope ["_law_box_here", "_law_letters", "_law_word_here", "_law_at", "_law_some", "_law_k"] ["_law_box_here"] (defScope sWord) := ⟨rfl, rfl, rfl, by decide +kernel, rfl, by decide +kernel, by decide +kernel⟩
theorem ok_word {f f1 : Addr} {fd fd1 : FuncData} (F : Fun K "_law_word" "_law_word" sWord f fd) (T : Tk P w K mg base f1 fd1) (B : Blt mg) : FnOk P w K mg base CX0 2 f fd ["_law_box_here"] spWord := by
  refine F.ok scWord (fun vs H Q E h => ?_) (fun cdv A outer s H vs Q E hr h => ?_)
  · obtain ⟨b, n, rfl, _⟩ := h
    rfl
  · obtain ⟨b, n, rfl, hB, hn, q⟩ := h
    have nd := scWord.nd
    refine ⟨_, pss_cons (ps_set (i := 1) nd rfl (Or.inr rfl) pe_str)
      (pss_cons (ps_set (i := 2) nd rfl (Or.inl rfl) (pe_join pe_str (pe_lc (own := [("_law_k", 5)]) (g := gName 5) (tt := tYes) rfl nd
          (pi_range1 rfl B.range (pa_cons (pe_call T.ok hr (by rfl) T.m T.k T.b .nil pass0 (pa_cons (pv 0) (pa_cons pe_int pa_nil))) pa_nil))
          (blkOk_by (N := ["_law_box_here", "_law_letters", "_law_word_here", "_law_at", "_law_some", "_law_k"]) (sc := defScope sWord) (by decide +kernel))
          (fun _ _ _ _ _ => pg_name (i := 5) nd rfl (Or.inl rfl)) (fun _ _ _ _ _ => pts_nil)
          (fun _ _ _ _ _ => pe_ix ix_str (pv 1) (pe_call T.ok hr (by rfl) T.m T.k T.b .nil pass0 (pa_cons (pv 0) (pa_cons pe_int pa_nil))) (fun _ _ => rfl)))))
      (pss_cons (ps_if (PW.pt (pw_and (pt_cmpR op_eq (pe_call T.ok hr (by rfl) T.m T.k T.b .nil pass0 (pa_cons (pv 0) (pa_cons pe_int pa_nil))) pe_int (nomark _)) (pw_and1 (pt_cmpR op_ne (pv 2) pe_str (nomark _)))))
          (pss_cons (ps_set (i := 3) nd rfl (Or.inl rfl) (pe_call T.ok hr (by rfl) T.m T.k T.b .nil pass0 (pa_cons (pv 0) (pa_cons (pe_callB call_len_str (by rfl) B.len PySem.boot_len (pa_cons (pv 2) pa_nil)) pa_nil))))
          (pss_one (ps_set (i := 2) nd rfl (Or.inl rfl) (pe_op op_add_str (pe_op op_add_str (pe_slice sl_str (pv 2) po_none (po_some (pv 3))) (pe_ix ix_str pe_str (pe_call T.ok hr (by rfl) T.m T.k T.b .nil pass0 (pa_cons (pv 0) (pa_cons pe_int pa_nil))) (fun _ _ => rfl)))
            (pe_slice sl_str (pv 2) (po_some (pe_op op_add (pv 3) pe_int)) po_none))))) pss_nil)
      (pss_cons (ps_set (i := 4) nd rfl (Or.inl rfl) (pe_lst (pa_cons pe_str (pa_cons pe_str (pa_cons pe_str (pa_cons pe_str (pa_cons pe_str (pa_cons pe_str (pa_cons pe_str (pa_cons pe_str (pa_cons pe_str (pa_cons pe_str (pa_cons pe_str (pa_cons pe_str pa_nil))))))))))))))
      (pss_one (ps_ret (pe_ifExp (pt_cmpR op_eq (pe_call T.ok hr (by rfl) T.m T.k T.b .nil pass0 (pa_cons (pv 0) (pa_cons pe_int pa_nil))) pe_int (nomark _))
        (pe_ix ix_list (pv 4) (pe_call T.ok hr (by rfl) T.m T.k T.b .nil pass0 (pa_cons (pv 0) (pa_cons pe_int pa_nil))) (fun _ _ => rfl)) (pv 2))))))), ?_⟩
    generalize hT : tSeq (tAsg (tLst _) _) _ = T4
    have rest : ∀ (z : Str) (x : Option V) (H' : Hp), Sm 100 z → Bx H' b (n + 16) → Kp b H H' →
        T4 { nx := fun _ H' => Q .non H', rt := Q } [some (.ref b), some (.str abc), some (.str z), x, none, none] H' := by
      intro z x H1 hz B1 K1
      rw [← hT]
      refine ⟨(by show 12 ≤ sizeLine; decide), fun p np => ?_⟩
      have B2 := B1.upd (o := .lst ((["old", "zero", "end", "fails", "more", "done", "none", "olds", "ol", "cut", "zeros", "n"] : List Str).map V.str)) np
      refine ⟨_, rfl, b, n + 16, 3, rfl, B2, by omega, by decide, by decide, fun r H2 r0 r1 B3 K3 => ?_⟩
      have nb : p ≠ b := by
        obtain ⟨_, _, _, e, _⟩ := B1
        exact (ne_of_none e np).symm
      refine ⟨rfl, _, rfl, ite2 (fun _ => ?_) (fun _ => ?_)⟩
      · refine ⟨_, rfl, _, rfl, b, n + 17, 12, rfl, B3, by omega, by decide, by decide, fun r H3 r0 r1 B4 K4 => ?_⟩
        obtain ⟨v, hv, hm⟩ := atI_in (l := (["old", "zero", "end", "fails", "more", "done", "none", "olds", "ol", "cut", "zeros", "n"] : List Str).map V.str) r0 r1
        obtain ⟨y, hy, rfl⟩ := List.mem_map.mp hm
        have sy : ∀ y ∈ (["old", "zero", "end", "fails", "more", "done", "none", "olds", "ol", "cut", "zeros", "n"] : List Str), Sm 100 y := by
          unfold Sm
          decide +kernel
        exact ⟨p, _, _, _, rfl, rfl, SqL.of (K4 p _ nb (K3 p _ nb upd_same)), hv, q y H3 (sy y hy) (B4.more (by omega)) (K1.trans ((Kp.fresh np).trans (K3.trans K4)))⟩
      · exact ⟨_, rfl, q z H2 hz (B3.more (by omega)) (K1.trans ((Kp.fresh np).trans K3))⟩
    refine ⟨⟨_, rfl⟩, _, rfl, b, n, 9, rfl, hB, by omega, by decide, by decide, fun r H1 r0 r1 B1 K1 => ?_⟩
    refine ⟨r, rfl, by omega, by omega, fun D hD => ?_⟩
    have nb : D ≠ b := by
      obtain ⟨_, _, _, e, _⟩ := B1
      exact (ne_of_none e hD).symm
    refine lc_range (lo := 0) (n := r.toNat) (fun i H' => Bx H' b (n + 1 + i) ∧ Kp b H1 H' ∧ ∃ ys : List Str, ys.length = i ∧ (∀ y ∈ ys, Sm 1 y) ∧ H' D = some (.lst (ys.map V.str)))
      ⟨B1.upd hD, Kp.fresh hD, [], rfl, fun _ h => (nomatch h), upd_same⟩ ?_ ?_
    · rintro i H2 hi ⟨B2, K2, ys, ely, hys, hl⟩
      refine ⟨rfl, ?_⟩
      unfold tYes
      refine iteT ⟨_, rfl, _, rfl, b, n + 1 + i, 26, rfl, B2, by omega, by decide, by decide, fun c H3 c0 c1 B3 K3 => ?_⟩
      obtain ⟨g, hg, hm⟩ := atI_in (l := abc.cps.toList) c0 c1
      have hl3 := K3 D _ nb hl
      refine ⟨abc, c, g, rfl, rfl, (by decide +kernel), hg, _, hl3, by rw [List.length_map, ely]; exact Nat.lt_of_lt_of_le (by omega) (show 9 ≤ sizeLine by decide), ?_⟩
      refine ⟨?_, ?_, ys ++ [⟨#[g]⟩], by rw [List.length_append, ely]; rfl, ?_, by rw [List.map_append]; exact upd_same⟩
      · obtain ⟨x, y, z, e, h⟩ := B3
        exact ⟨x, y, z, by rw [upd_ne nb.symm]; exact e, h⟩
      · intro p o np e
        have pD : p ≠ D := ne_of_none e hD
        rw [upd_ne pD]
        exact K3 p o np (K2 p o np e)
      · intro y hy
        rcases List.mem_append.mp hy with h | h
        · exact hys y h
        · rw [List.mem_singleton.mp h]
          exact sm_sign (by decide +kernel) hm
    · rintro H2 ⟨B2, K2, ys, ely, hys, hl⟩
      have sz : Sm 8 (Txt.join "" ys) := (sm_join hys).mono (by omega)
      refine ⟨"", D, ys, rfl, rfl, .inl (SqL.of hl), ?_, ?_⟩
      · have e2 := sum_ones ys hys
        have e3 : ys.length * ("" : Str).length = 0 := by
          rw [show ("" : Str).length = 0 by decide +kernel, Nat.mul_zero]
        omega
      generalize Txt.join "" ys = z at sz
      have K12 := K1.trans K2
      refine ⟨_, rfl, b, n + 1 + r.toNat, 3, rfl, B2, by omega, by decide, by decide, fun t H3 t0 t1 B3 K3 => ?_⟩
      refine ⟨rfl, _, rfl, ite2 (fun _ => ?_) (fun _ => ?_)⟩
      · refine ⟨_, rfl, rfl, _, rfl, ?_⟩
        by_cases hz0 : z = ""
        · rw [decide_eq_true (show V.str z = V.str "" by rw [hz0])]
          exact iteF (rest z none H3 (sz.mono (by decide)) (B3.more (by omega)) (K12.trans K3))
        · rw [decide_eq_false (show ¬ V.str z = V.str "" from fun x => hz0 (V.str.inj x))]
          refine iteT ?_
          have zl : z.length ≤ sizeLine := Nat.le_trans sz.1 (by decide)
          have z1 : 0 < z.length := Nat.pos_of_ne_zero fun x => hz0 (str_empty x)
          have z8 := sz.1
          refine ⟨_, rfl, _, rfl, z, rfl, zl, b, n + 1 + r.toNat + 1, (z.length : Int), rfl, B3, by omega, by omega, by omega, fun a H4 a0 a1 B4 K4 => ?_⟩
          refine ⟨_, rfl, _, rfl, _, rfl, z, rfl, zl, ?_⟩
          refine ⟨_, rfl, b, n + 1 + r.toNat + 2, 11, rfl, B4, by omega, by decide, by decide, fun e H5 e0 e1 B5 K5 => ?_⟩
          obtain ⟨g, hg, hm⟩ := atI_in (l := ("AZ0 _-+.\n{`" : Str).cps.toList) e0 e1
          have s1 := sz.cut none (some a)
          have s2 := sm_sign (z := "AZ0 _-+.\n{`") (by decide +kernel) hm
          have s3 := sz.cut (some (a + 1)) none
          have s12 := s1.app s2
          have s123 := s12.app s3
          refine ⟨_, _, g, rfl, rfl, (by decide +kernel), hg, _, _, rfl, rfl, Nat.le_trans (Nat.add_le_add s1.1 s2.1) (by decide), ?_⟩
          refine ⟨_, rfl, _, rfl, _, _, rfl, rfl, _, rfl, z, rfl, zl, _, _, rfl, rfl, Nat.le_trans (Nat.add_le_add s12.1 s3.1) (by decide), ?_⟩
          exact rest _ _ H5 (s123.mono (by decide)) (B5.more (by omega)) (K12.trans (K3.trans (K4.trans K5)))
      · exact rest z none H3 (sz.mono (by decide)) (B3.more (by omega)) (K12.trans K3)
end
end Mz
set_option Elab.async false
set_option linter.all false
set_option maxRecDepth 100000
set_option maxHeartbeats 4000000
namespace Mz
open PySem PySem.Spec PyProof.Rows L2
theorem ty_at {K : PySem.W.Frag} {H H' : Hp} {v : V} {t : Value} (s : ∀ a, v = .ref a → ∀ o, H a = some o → H' a = some o) (h : TyX K H v t) : TyX K H' v t := by
  cases h with
  | base b =>
    cases b with
    | non => exact .base .non
    | bl x => exact .base (.bl x)
    | int i => exact .base (.int i)
    | str x => exact .base (.str x)
    | flt x => exact .base (.flt x)
    | lst e => exact .base (.lst (s _ rfl _ e))
    | frz e => exact .base (.frz (s _ rfl _ e))
    | tup e => exact .base (.tup (s _ rfl _ e))
    | dK e => exact .base (.dK (s _ rfl _ e))
    | dT e => exact .base (.dT (s _ rfl _ e))
    | ins e cl ha hn htk hm => exact .base (.ins (s _ rfl _ e) cl ha hn htk hm)
  | byt b => exact .byt b
  | set e => exact .set (s _ rfl _ e)
  | kList e c => exact .kList e c
  | kTuple e c => exact .kTuple e c
  | kDict e c => exact .kDict e c
  | fTuple e => exact .fTuple (s _ rfl _ e)
  | fDict e => exact .fDict (s _ rfl _ e)
theorem Kd.at {K : PySem.W.Frag} {H H' : Hp} {v : V} (s : ∀ a, v = .ref a → ∀ o, H a = some o → H' a = some o) (h : Kd K H v) : Kd K H' v := by
  cases h with
  | int i => exact .int i
  | bl b => exact .bl b
  | str z h ok => exact .str z h ok
  | non => exact .non
  | oth a t ty ki ks => exact .oth a t (ty_at s ty) ki ks
theorem Kd.same {K : PySem.W.Frag} {H H' : Hp} (s : Same H H') {v : V} (h : Kd K H v) : Kd K H' v := h.at fun a _ o e => s a o e
theorem same_new {H : Hp} {p : Addr} {o : HO} (h : H p = none) : Same H (upd H p o) := fun q u e => by
  rw [upd_ne (ne_of_none e h)]
  exact e
theorem same_made {H : Hp} {x dx C : Addr} {fs : List (Str × V)} (nx : H x = none) (nd : H dx = none) : Same H (upd (upd H dx (.own x)) x (.ins C dx fs)) := fun q u e => by
  rw [upd_ne (ne_of_none e nx), upd_ne (ne_of_none e nd)]
  exact e
/-- a place is no int and no text -/
structure Cty (K : PySem.W.Frag) (C : Addr) : Prop where
  ha : PySem.W.findIn K (.ref C) "__class__" = some (some (.builtin "object.__class__"))
  hn : PySem.W.specialIn K (.builtin "object.__class__") "__get__" = some (some (.builtin "getset_descriptor.__get__"))
  htk : PySem.W.takesIn K (.builtin "object.__class__") = some true
  hm : PySem.W.mroIn K C (.type "object") = some true
  ki : PySem.W.kitOne K (.ref C) (.type "int") = some false
  ks : PySem.W.kitOne K (.ref C) (.type "str") = some false
def spAny (K : PySem.W.Frag) : Sp := fun vs H Q _ => ∃ (b : Addr) (n : Nat), vs = [.ref b] ∧ Bx H b n ∧ n ≤ 900000 ∧ ∀ (v : V) (H' : Hp), Kd K H' v → Bx H' b (n + 1) → Kp b H H' → Q v H'
section
variable {P : Program} {w : World} {K : PySem.W.Frag} {mg : Str → Option Value} {base : Heap}
theorem scAny : FnScope ["_law_box_here", "_law_some"] ["_law_box_here"] (defScope sAny) := ⟨rfl, rfl, rfl, by decide +kernel, rfl, by decide +kernel, by decide +kernel⟩
theorem ok_any {f f1 fI C : Addr} {fd fd1 fdI : FuncData} {ds : List Value} {g : List Value → List Value → List Value} (F : Fun K "_law_any" "_law_any" sAny f fd) (T : Tk P w K mg base f1 fd1)
    (M : Mk K C fI) (Z : Cpl K mg C) (Y : Cty K C) (GI : FnOk P w K mg base CX0 3 fI fdI ["self", "base", "shift"] (spInit C)) (hds : Vals [.int 0] ds) (bI : Binds K fdI ["self", "base", "shift"] ds)
    (kI : KBn K fdI ["self", "base", "shift"] 1 ["shift"] g (fun vs zs => vs ++ [.str ""] ++ zs)) : FnOk P w K mg base CX0 5 f fd ["_law_box_here"] (spAny K) := by
  refine F.ok scAny (fun vs H Q E h => ?_) (fun cdv A outer s H vs Q E hr h => ?_)
  · obtain ⟨b, n, rfl, _⟩ := h
    rfl
  · obtain ⟨b, n, rfl, hB, hn, q⟩ := h
    have nd := scAny.nd
    refine ⟨_, pss_cons (ps_set (i := 1) nd rfl (Or.inl rfl) (pe_lst (pa_cons pe_non (pa_cons pe_bl (pa_cons pe_bl (pa_cons (pe_lst pa_nil) (pa_cons (pe_lst (pa_cons pe_str pa_nil)) (pa_cons (pe_tup (pa_cons pe_str pa_nil))
      (pa_cons pe_dnewK (pa_cons (pe_disp (pps_cons pe_str pe_int pps_nil) (by rfl) (by rfl) (fun z => by cases z) (by decide))
      (pa_cons (pe_make M GI hr (by rfl) Z.mgC bI hds pass0 (pa_cons pe_str pa_nil)) (pa_cons (pe_makeK0 M GI hr (by rfl) Z.mgC kI pass0 (pk_cons pe_int pk_nil)) pa_nil))))))))))))
      (pss_one (ps_ret (pe_ix ix_list (pv 1) (pe_call T.ok (hr.mono (by decide)) (by rfl) T.m T.k T.b .nil pass0 (pa_cons (pv 0) (pa_cons pe_int pa_nil))) (fun _ _ => rfl)))), ?_⟩
    -- one new object: it is there, all else stays
    have one : ∀ {H1 : Hp} {p : Addr} (o : HO), H1 p = none → ∃ H2, H2 = upd H1 p o ∧ Same H1 H2 ∧ H2 p = some o := fun o n => ⟨_, rfl, same_new n, upd_same⟩
    refine ⟨Nat.zero_le _, fun p1 n1 => ?_⟩
    obtain ⟨H1, e, s1, t1⟩ := one (.lst []) n1
    rw [← e]
    refine ⟨(by show 1 ≤ sizeLine; decide), fun p2 n2 => ?_⟩
    obtain ⟨H2, e, s2, t2⟩ := one (.lst [V.str "a"]) n2
    rw [← e]
    refine ⟨(by show 1 ≤ sizeLine; decide), fun p3 n3 => ?_⟩
    obtain ⟨H3, e, s3, t3⟩ := one (.tup [V.str "a"]) n3
    rw [← e]
    intro p4 n4
    obtain ⟨H4, e, s4, t4⟩ := one (.dK []) n4
    rw [← e]
    intro p5 n5
    refine ⟨upd_same, [(Sum.inr "a", V.int 1)], rfl, by decide, ?_⟩
    rw [upd_upd]
    obtain ⟨H5, e, s5, t5⟩ := one (.dK (mergeK [] [(Sum.inr "a", V.int 1)])) n5
    rw [← e]
    intro p6 d6 n6 m6 x6
    refine ⟨p6, d6, "n", 0, rfl, upd_same, by decide +kernel, by decide +kernel, .inr (by decide +kernel), by decide +kernel, by decide, fun H6 u6 t6 => ⟨rfl, rfl, rfl, fun p7 d7 n7 m7 x7 => ?_⟩⟩
    have s6 : Same H5 H6 := fun r o h => u6 r o (ne_of_none h n6) (same_made n6 m6 _ _ h)
    refine ⟨p7, d7, "", 2, rfl, upd_same, by decide +kernel, by decide +kernel, .inl rfl, by decide +kernel, by decide, fun H7 u7 t7 => ⟨rfl, ?_⟩⟩
    have s7 : Same H6 H7 := fun r o h => u7 r o (ne_of_none h n7) (same_made n7 m7 _ _ h)
    refine ⟨(by show 10 ≤ sizeLine; decide), fun p8 n8 => ?_⟩
    obtain ⟨H8, e, s8, t8⟩ := one (.lst [V.non, V.bl true, V.bl false, V.ref p1, V.ref p2, V.ref p3, V.ref p4, V.ref p5, V.ref p6, V.ref p7]) n8
    rw [← e]
    have c7 := s7.trans s8
    have c6 := s6.trans c7
    have c5 := s5.trans c6
    have c4 := s4.trans c5
    have c3 := s3.trans c4
    have c2 := s2.trans c3
    have c1 := s1.trans c2
    have B8 : Bx H8 b n := by
      obtain ⟨x, y, z, h, r⟩ := hB
      exact ⟨x, y, z, c1 _ _ h, r⟩
    obtain ⟨x0, y0, z0, hb, _⟩ := hB
    refine ⟨_, rfl, _, rfl, b, n, 10, rfl, B8, by omega, by decide, by decide, fun r H9 r0 r1 B9 K9 => ?_⟩
    obtain ⟨v, hv, hm⟩ := atI_in (l := [V.non, V.bl true, V.bl false, V.ref p1, V.ref p2, V.ref p3, V.ref p4, V.ref p5, V.ref p6, V.ref p7]) r0 r1
    have ne : ∀ {G : Hp} {p : Addr}, Same H G → G p = none → p ≠ b := fun sm n => (ne_of_none (sm _ _ hb) n).symm
    have b8 := ne (s1.trans (s2.trans (s3.trans (s4.trans (s5.trans (s6.trans s7)))))) n8
    have b7 := ne (s1.trans (s2.trans (s3.trans (s4.trans (s5.trans s6))))) n7
    have b6 := ne (s1.trans (s2.trans (s3.trans (s4.trans s5)))) n6
    have b5 := ne (s1.trans (s2.trans (s3.trans s4))) n5
    have b4 := ne (s1.trans (s2.trans s3)) n4
    have b3 := ne (s1.trans s2) n3
    have b2 := ne s1 n2
    have b1 := ne (Same.refl H) n1
    have kt : ∀ {T : String}, kitB T "int" = some false → kitB T "str" = some false → PySem.W.kitOne K (.type T) (.type "int") = some false ∧ PySem.W.kitOne K (.type T) (.type "str") = some false := fun h1 h2 => ⟨kit_ty h1, kit_ty h2⟩
    have kl := kt (T := "list") (by decide +kernel) (by decide +kernel)
    have kp := kt (T := "tuple") (by decide +kernel) (by decide +kernel)
    have kd := kt (T := "dict") (by decide +kernel) (by decide +kernel)
    refine ⟨p8, _, _, _, rfl, rfl, SqL.of (K9 p8 _ b8 t8), hv, q v H9 ?_ B9 fun p o n e => K9 p o n (c1 p o e)⟩
    simp only [List.mem_cons, List.not_mem_nil, or_false] at hm
    rcases hm with rfl | rfl | rfl | rfl | rfl | rfl | rfl | rfl | rfl | rfl
    · exact .non
    · exact .bl true
    · exact .bl false
    · exact .oth p1 _ (.base (.lst (K9 _ _ b1 (c2 _ _ t1)))) kl.1 kl.2
    · exact .oth p2 _ (.base (.lst (K9 _ _ b2 (c3 _ _ t2)))) kl.1 kl.2
    · exact .oth p3 _ (.base (.tup (K9 _ _ b3 (c4 _ _ t3)))) kp.1 kp.2
    · exact .oth p4 _ (.base (.dK (K9 _ _ b4 (c5 _ _ t4)))) kd.1 kd.2
    · exact .oth p5 _ (.base (.dK (K9 _ _ b5 (c6 _ _ t5)))) kd.1 kd.2
    · exact .oth p6 _ (.base (.ins (K9 _ _ b6 (c7 _ _ t6)) Z.cl Y.ha Y.hn Y.htk Y.hm)) Y.ki Y.ks
    · exact .oth p7 _ (.base (.ins (K9 _ _ b7 (s8 _ _ t7)) Z.cl Y.ha Y.hn Y.htk Y.hm)) Y.ki Y.ks
end
end Mz
set_option Elab.async false
set_option linter.all false
set_option maxRecDepth 100000
set_option maxHeartbeats 4000000
namespace Mz
open PySem PySem.Spec PyProof.Rows L2
section
variable {X : Cx} {CX : CXT} {k : Nat} {f : Addr} {fd : FuncData} {ps ks : List Str} {sp : Sp} {E : XK} {x : Str} {p pos : Pos} {kws : List Keyword} {tk : TA} {g : List Value → List Value → List Value} {gV : List V → List V → List V}
/-- f(k = v, ..): keywords alone -/
theorem pe_callN0 (F : FnOk X.prog X.w X.K X.mg X.base CX k f fd ps sp) (hr : Room k X.A) (hg : Gl X x) (hm : X.mg x = some (.ref f)) (hk : PySem.W.keepIn X.K (.ref f) = true) (hb : KBn X.K fd ps 0 ks g gV) (hx : Passes CX X E) (hkw : PK X kws tk)
    (hall : (backToKw pos (keywordEach kws X.env)).all (·.1.isSome) = true := by rfl) (hks : (backToKw pos (keywordEach kws X.env)).filterMap (·.1) = ks := by rfl) (hdb : (x == ("__debug__" : Str)) = false := by decide)
    (hpl : ((backTo pos (starEach [] X.env)).any (·.1) || (backToKw pos (keywordEach kws X.env)).any (·.1.isNone)) = false := by rfl) :
    PE X (.Call (.Name x p) [] kws pos) (tCallN 0 ks.length sp gV E tNil tk) := by
  refine ⟨fun pins s σ H Q I h => wpAny_Call_Name_kw (ld_glob I hg hm ?_ hdb)⟩
  refine PySem.W.callWith_KW0 (h₀ := X.base) I.ok.mod.kin hk hall (thn (hkw.run pos pins s σ H _ I h) fun ws s2 hv => ?_) hpl
  obtain ⟨zs, H2, I2, rz, l1, l2, q2⟩ := hv
  rw [hks]
  exact ⟨I2.kIn, run_fnN (us := []) (vs := []) F hr hb hx I2 .nil rz rfl l2 q2⟩
end
def noMarkS : List V := [.str "old", .str "zero", .str "end", .str "fails", .str "more", .str "done", .str "none"]
def ansV (lo hi : Int) (v : V) : List V := [.bl (inB lo hi v), .bl (nameV v), .bl (markV v)]
theorem dp_ans {K : PySem.W.Frag} {H : Hp} {p : Addr} {a b c : Bool} (h : H p = some (.lst [.bl a, .bl b, .bl c])) : Dp K H (.ref p) (.list [.bool a, .bool b, .bool c]) :=
  .lst (SqL.of h) (.cons (.bl a) (.cons (.bl b) (.cons (.bl c) .nil)))
theorem depth_ans {a b c : Bool} : PyData.depth (.list [.bool a, .bool b, .bool c]) < 60 := by
  cases a <;> cases b <;> cases c <;> decide +kernel
theorem shown_ans {a b c : Bool} : (PyData.shown (.list [.bool a, .bool b, .bool c])).length ≤ sizeLine := by
  cases a <;> cases b <;> cases c <;> decide +kernel
def spRight (K : PySem.W.Frag) : Sp := fun vs H Q _ => ∃ (v : V) (lo hi : Int), vs = [v, .int lo, .int hi] ∧ Kd K H v ∧ ∀ H', Same H H' → Q (.bl true) H'
section
variable {P : Program} {w : World} {K : PySem.W.Frag} {mg : Str → Option Value} {base : Heap}
theorem scRight : FnScope ["_law_thing", "_law_one", "_law_other", "_law_whole", "_law_due", "_law_told"] ["_law_thing", "_law_one", "_law_other"] (defScope sRight) := ⟨rfl, rfl, rfl, by decide +kernel, rfl, by decide +kernel, by decide +kernel⟩
theorem ok_right {f f1 f2 f3 f4 : Addr} {fd fd1 fd2 fd3 fd4 : FuncData} {g3 g4 : List Value → List Value → List Value} (F : Fun K "_law_right" "_law_right" sRight f fd) (B : Blt mg) (D : Blp mg) (mR : mg "repr" = none)
    (G1 : FnOk P w K mg base CX0 1 f1 fd1 ["_law_thing"] (spIsName K)) (m1 : mg "_law_name_due" = some (.ref f1)) (k1 : PySem.W.keepIn K (.ref f1) = true) (b1 : Binds K fd1 ["_law_thing"] [])
    (G2 : FnOk P w K mg base CX0 2 f2 fd2 ["value", "low", "high"] (spIsInt K)) (m2 : mg "is_integer" = some (.ref f2)) (k2 : PySem.W.keepIn K (.ref f2) = true) (b2 : Binds K fd2 ["value", "low", "high"] [])
    (G3 : FnOk P w K mg base CX0 1 f3 fd3 ["value"] (spIsName K)) (m3 : mg "is_name" = some (.ref f3)) (k3 : PySem.W.keepIn K (.ref f3) = true) (b3 : Binds K fd3 ["value"] []) (c3 : KBn K fd3 ["value"] 0 ["value"] g3 (fun vs zs => vs ++ zs))
    (G4 : FnOk P w K mg base CX0 2 f4 fd4 ["value"] (spIsMark K)) (m4 : mg "is_mark" = some (.ref f4)) (k4 : PySem.W.keepIn K (.ref f4) = true) (b4 : Binds K fd4 ["value"] []) (c4 : KBn K fd4 ["value"] 0 ["value"] g4 (fun vs zs => vs ++ zs)) :
    FnG P w K mg base CX0 3 f fd ["_law_thing", "_law_one", "_law_other"] (spRight K) := by
  refine fun_okG F scRight (fun vs H Q E h => ?_) (fun cdv A outer s H vs Q E hg hr h => ?_)
  · obtain ⟨v, lo, hi, rfl, _⟩ := h
    rfl
  · obtain ⟨v, lo, hi, rfl, hk, q⟩ := h
    have nd := scRight.nd
    have hr1 : Room 1 _ := hr.mono (by decide)
    have rp : ∀ {X : Cx}, X.A.guards = some [] → X.A.units + 64 < cLine → CallR X (.builtin "repr") (rReprD X.K) := fun g u => call_reprD g u
    refine ⟨_, pss_cons (ps_set (i := 3) nd rfl (Or.inl rfl) (pe_and (pe_callB call_isi (by rfl) D.isi (by decide +kernel) (pa_cons (pv 0) (pa_cons (pe_bltn (v := .ty "int") (by rfl) B.int (by decide +kernel) rfl) pa_nil)))
        (pe_one (pe_not (pe_callB call_isi (by rfl) D.isi (by decide +kernel) (pa_cons (pv 0) (pa_cons (pe_bltn (v := .ty "bool") (by rfl) D.bool (by decide +kernel) rfl) pa_nil)))))))
      (pss_cons (ps_set (i := 4) nd rfl (Or.inl rfl) (pe_lst (pa_cons (pe_and (pv 3) (pe_one (pe_chain op_le op_le (pv 1) (pv 0) (pv 2)))) (pa_cons (pe_call G1 hr1 (by rfl) m1 k1 b1 .nil pass0 (pa_cons (pv 0) pa_nil)) pa_nil))))
      (pss_cons (ps_expr (pe_bm PySem.F.plainAttrs_list PySem.F.slot_list_append PySem.F.type_list_append mt_append (pv 4) (pa_cons (pe_and (pe_ix ix_list (pv 4) pe_int (fun _ _ => rfl)) (pe_one (pe_cmpR op_notIn_seq (pv 0)
          (pe_lst (pa_cons pe_str (pa_cons pe_str (pa_cons pe_str (pa_cons pe_str (pa_cons pe_str (pa_cons pe_str (pa_cons pe_str pa_nil)))))))) (by rfl)))) pa_nil)))
      (pss_cons (ps_set (i := 5) nd rfl (Or.inl rfl) (pe_lst (pa_cons (pe_call G2 hr (by rfl) m2 k2 b2 .nil pass0 (pa_cons (pv 0) (pa_cons (pv 1) (pa_cons (pv 2) pa_nil))))
        (pa_cons (pe_callN0 G3 hr1 (by rfl) m3 k3 c3 pass0 (pk_cons (pv 0) pk_nil)) (pa_cons (pe_callN0 G4 hr (by rfl) m4 k4 c4 pass0 (pk_cons (pv 0) pk_nil)) pa_nil)))))
      (pss_one (ps_ret (pe_and (pe_cmpR op_eq (pe_callB (call_reprD hg hr.units) (by rfl) mR (by decide +kernel) (pa_cons (pv 5) pa_nil)) (pe_callB (call_reprD hg hr.units) (by rfl) mR (by decide +kernel) (pa_cons (pv 4) pa_nil)) (nomark _))
        (pe_and (pe_cmpR op_eq (pe_call G3 hr1 (by rfl) m3 k3 b3 .nil pass0 (pa_cons (pv 0) pa_nil)) (pe_ix ix_list (pv 4) pe_int (fun _ _ => rfl)) (nomark _))
          (pe_one (pe_cmpR op_eq (pe_call G4 hr (by rfl) m4 k4 b4 .nil pass0 (pa_cons (pv 0) pa_nil)) (pe_ix ix_list (pv 4) pe_int (fun _ _ => rfl)) (nomark _)))))))))), ?_⟩
    generalize hT4 : tSeq (tAsg (tLst (tCons (tCall (spIsInt K) _ _ _) _)) _) _ = T4
    generalize hT3 : tSeq (tDrop _) T4 = T3
    have rest4 : ∀ (p4 : Addr) (H2 : Hp), Same H H2 → H2 p4 = some (.lst (ansV lo hi v)) →
        T4 { nx := fun _ H' => Q .non H', rt := Q } [some v, some (.int lo), some (.int hi), some (.bl (wholeV v)), some (.ref p4), none] H2 := by
      intro p4 H2 s2 h4
      rw [← hT4]
      refine ⟨_, rfl, _, rfl, _, rfl, v, lo, hi, rfl, hk.same s2, ?_⟩
      refine ⟨_, rfl, rfl, rfl, v, rfl, hk.same s2, fun H3 s3 => ?_⟩
      refine ⟨_, rfl, rfl, rfl, v, rfl, hk.same (s2.trans s3), fun H4 s4 => ?_⟩
      refine ⟨(by show 3 ≤ sizeLine; decide), fun p5 n5 => ?_⟩
      have s5 : Same H4 (upd H4 p5 (.lst (ansV lo hi v))) := same_new n5
      have h45 := (s3.trans (s4.trans s5)) _ _ h4
      have s25 := s2.trans (s3.trans (s4.trans s5))
      refine ⟨_, rfl, .ref p5, _, rfl, dp_ans upd_same, rfl, rfl, depth_ans, shown_ans, ?_⟩
      refine ⟨_, rfl, .ref p4, _, rfl, dp_ans h45, rfl, rfl, depth_ans, shown_ans, ?_⟩
      refine ⟨rfl, _, rfl, ite2 (fun _ => ?_) (fun x => (x (decide_eq_true rfl)).elim)⟩
      refine ⟨_, rfl, v, rfl, hk.same s25, fun H6 s6 => ?_⟩
      refine ⟨_, rfl, p4, _, _, _, rfl, rfl, SqL.of (s6 _ _ h45), rfl, ?_⟩
      refine ⟨rfl, _, rfl, ite2 (fun _ => ?_) (fun x => (x (decide_eq_true rfl)).elim)⟩
      refine ⟨_, rfl, v, rfl, hk.same (s25.trans s6), fun H7 s7 => ?_⟩
      refine ⟨_, rfl, p4, _, _, _, rfl, rfl, SqL.of (s7 _ _ (s6 _ _ h45)), rfl, rfl, ?_⟩
      show Q (.bl (decide (V.bl (markV v) = V.bl (markV v)))) H7
      rw [decide_eq_true rfl]
      exact q H7 (s25.trans (s6.trans s7))
    have rest3 : ∀ (p4 : Addr) (H1 : Hp), Same H H1 → H1 p4 = some (.lst [.bl (inB lo hi v), .bl (nameV v)]) → H p4 = none →
        T3 { nx := fun _ H' => Q .non H', rt := Q } [some v, some (.int lo), some (.int hi), some (.bl (wholeV v)), some (.ref p4), none] H1 := by
      intro p4 H1 s1 h4 n4
      rw [← hT3]
      refine ⟨_, rfl, .inl ⟨rfl, _, SqL.of h4⟩, _, rfl, p4, _, _, _, rfl, rfl, SqL.of h4, rfl, _, rfl, ite2 (fun hn => ?_) (fun hn => ?_)⟩
      · cases hk with
        | str z hz ok =>
          refine ⟨_, rfl, (by show 7 ≤ sizeLine; decide), fun r nr => ?_⟩
          have n4r : p4 ≠ r := ne_of_none h4 nr
          refine ⟨r, noMarkS, rfl, .inl (SqL.of upd_same), rfl, rfl, p4, _, _, rfl, rfl, (by rw [upd_ne n4r]; exact h4), (by show 2 < sizeLine; decide), ?_⟩
          refine rest4 p4 _ (fun b o e => ?_) ?_
          · have x4 : b ≠ p4 := ne_of_none e n4
            rw [upd_ne x4, upd_ne (ne_of_none (s1 _ _ e) nr)]
            exact s1 _ _ e
          · rw [upd_same]
            have e : markV (.str z) = !inV (.str z) noMarkS := by
              show (nameS z && !inV (.str z) noMarks) = _
              rw [show nameS z = true from hn, Bool.true_and]
              rfl
            unfold ansV
            rw [e]
            rfl
        | int i => exact absurd hn (by simp [nameV])
        | bl b => exact absurd hn (by simp [nameV])
        | non => exact absurd hn (by simp [nameV])
        | oth a t ty ki ks => exact absurd hn (by simp [nameV])
      · refine ⟨p4, _, _, rfl, rfl, h4, (by show 2 < sizeLine; decide), ?_⟩
        refine rest4 p4 _ (fun b o e => ?_) ?_
        · have x4 : b ≠ p4 := ne_of_none e n4
          rw [upd_ne x4]
          exact s1 _ _ e
        · rw [upd_same]
          have e : markV v = false := by
            cases v with
            | str z =>
              show (nameS z && !inV (.str z) noMarks) = false
              rw [show nameS z = false from Bool.eq_false_iff.mpr hn, Bool.false_and]
            | _ => rfl
          unfold ansV
          rw [e]
          rfl
    have fin : ∀ (H1 : Hp) (x : V), x = .bl (inB lo hi v) → Same H H1 → 2 ≤ sizeLine ∧ ∀ p4, H1 p4 = none → T3 { nx := fun _ H' => Q .non H', rt := Q } [some v, some (.int lo), some (.int hi), some (.bl (wholeV v)), some (.ref p4), none] (upd H1 p4 (.lst [x, .bl (nameV v)])) := by
      intro H1 x ex s1
      refine ⟨by decide, fun p4 n4 => rest3 p4 _ (s1.trans (same_new n4)) ?_ (s1.free n4)⟩
      rw [upd_same, ex]
    refine ⟨_, rfl, ?_⟩
    cases hk with
    | int i =>
      refine ⟨_, _, _, _, true, rfl, .ty _, .base (.int i), kit_ty (by decide +kernel), true, rfl, iteT ⟨_, rfl, _, _, _, _, false, rfl, .ty _, .base (.int i), kit_ty (by decide +kernel), false, rfl, ?_⟩⟩
      refine ⟨_, rfl, true, rfl, iteT ⟨_, rfl, _, rfl, _, _, rfl, rfl, _, rfl, ite2 (fun hc => ?_) (fun hc => ?_)⟩⟩
      · refine ⟨_, rfl, _, _, rfl, rfl, _, rfl, _, rfl, .int i, fun H1 s1 => fin H1 _ ?_ s1⟩
        show _ = V.bl (decide (lo ≤ i) && decide (i ≤ hi))
        rw [hc, Bool.true_and]
      · refine ⟨_, rfl, _, rfl, .int i, fun H1 s1 => fin H1 _ ?_ s1⟩
        show _ = V.bl (decide (lo ≤ i) && decide (i ≤ hi))
        rw [Bool.eq_false_iff.mpr hc, Bool.false_and]
    | bl b => exact ⟨_, _, _, _, true, rfl, .ty _, .base (.bl b), kit_ty (by decide +kernel), true, rfl, iteT ⟨_, rfl, _, _, _, _, true, rfl, .ty _, .base (.bl b), kit_ty (by decide +kernel), true, rfl, _, rfl, false, rfl, iteF ⟨_, rfl, _, rfl, .bl b, fun H1 s1 => fin H1 _ rfl s1⟩⟩⟩
    | str z hz ok => exact ⟨_, _, _, _, false, rfl, .ty _, .base (.str z), kit_ty (by decide +kernel), false, rfl, iteF ⟨_, rfl, false, rfl, iteF ⟨_, rfl, _, rfl, .str z hz ok, fun H1 s1 => fin H1 _ rfl s1⟩⟩⟩
    | non => exact ⟨_, _, _, _, false, rfl, .ty _, .base .non, kit_ty (by decide +kernel), false, rfl, iteF ⟨_, rfl, false, rfl, iteF ⟨_, rfl, _, rfl, .non, fun H1 s1 => fin H1 _ rfl s1⟩⟩⟩
    | oth a t ty ki ks => exact ⟨_, _, _, _, false, rfl, .ty _, ty, ki, false, rfl, iteF ⟨_, rfl, false, rfl, iteF ⟨_, rfl, _, rfl, .oth a t ty ki ks, fun H1 s1 => fin H1 _ rfl s1⟩⟩⟩
end
end Mz
set_option Elab.async false
set_option linter.all false
set_option maxRecDepth 100000
set_option maxHeartbeats 4000000
namespace Mz
open PySem PySem.Spec PyProof.Rows L2
theorem same_of {b : Addr} {H H' : Hp} (h : H b = none) (k : Kp b H H') : Same H H' := fun q o e => k q o (ne_of_none e h) e
def spLaw (K : PySem.W.Frag) : Sp := fun vs H Q _ => ∃ (a : Addr) (ns : List Int), vs = [.ref a] ∧ SqL K H a (ns.map V.int) ∧ ns.length ≤ 63 ∧ ∀ H', Q (.bl true) H'
section
variable {P : Program} {w : World} {K : PySem.W.Frag} {mg : Str → Option Value} {base : Heap}
/-- a def of one argument that the law calls -/
structure C1 (P : Program) (w : World) (K : PySem.W.Frag) (mg : Str → Option Value) (base : Heap) (x : Str) (k : Nat) (p : Str) (sp : Sp) (f : Addr) (fd : FuncData) : Prop where
  ok : FnOk P w K mg base CX0 k f fd [p] sp
  m : mg x = some (.ref f)
  k : PySem.W.keepIn K (.ref f) = true
  b : Binds K fd [p] []
theorem scLaw : FnScope ["_law_script", "_law_k", "_law_box_here", "_law_number_here", "_law_one", "_law_other", "_law_some", "_law_thing"] ["_law_script"] (defScope sLaw) := ⟨rfl, rfl, rfl, by decide +kernel, rfl, by decide +kernel, by decide +kernel⟩
theorem ok_law {f fC fB fN fW fA fR f2 : Addr} {fd fdC fdB fdN fdW fdA fdR fd2 : FuncData} {g2 : List Value → List Value → List Value} (F : Fun K "law" "law" sLaw f fd) (B : Blt mg)
    (GC : FnOk P w K mg base CX0 1 fC fdC ["_law_script", "_law_k"] (spCell K)) (mC : mg "_law_cell" = some (.ref fC)) (kC : PySem.W.keepIn K (.ref fC) = true) (bC : Binds K fdC ["_law_script", "_law_k"] [])
    (GB : C1 P w K mg base "_law_box" 1 "_law_cell_here" spBox fB fdB) (GN : C1 P w K mg base "_law_number" 2 "_law_box_here" spNumber fN fdN) (GW : C1 P w K mg base "_law_word" 2 "_law_box_here" spWord fW fdW)
    (GA : C1 P w K mg base "_law_any" 5 "_law_box_here" (spAny K) fA fdA)
    (GR : FnG P w K mg base CX0 3 fR fdR ["_law_thing", "_law_one", "_law_other"] (spRight K)) (mR : mg "_law_right" = some (.ref fR)) (kR : PySem.W.keepIn K (.ref fR) = true) (bR : Binds K fdR ["_law_thing", "_law_one", "_law_other"] [])
    (G2 : FnOk P w K mg base CX0 2 f2 fd2 ["value", "low", "high"] (spIsInt K)) (m2 : mg "is_integer" = some (.ref f2)) (k2 : PySem.W.keepIn K (.ref f2) = true) (b2 : Binds K fd2 ["value", "low", "high"] [])
    (c2 : KBn K fd2 ["value", "low", "high"] 0 ["value", "low", "high"] g2 (fun vs zs => vs ++ zs)) : FnG P w K mg base CX0 6 f fd ["_law_script"] (spLaw K) := by
  refine fun_okG F scLaw (fun vs H Q E h => ?_) (fun cdv A outer s H vs Q E hg hr h => ?_)
  · obtain ⟨a, ns, rfl, _⟩ := h
    rfl
  · obtain ⟨a, ns, rfl, hS, hlen, q⟩ := h
    have nd := scLaw.nd
    have hr1 : Room 1 _ := hr.mono (by decide)
    have hr2 : Room 2 _ := hr.mono (by decide)
    have hr3 : Room 3 _ := hr.mono (by decide)
    refine ⟨_, pss_cons (ps_for PassesOwn.never rfl (pi_range1 rfl B.range (pa_cons (pe_callB (call_max2 rfl) (by rfl) B.max (by decide +kernel) (pa_cons pe_int (pa_cons (pe_callB (call_min2 rfl) (by rfl) B.min (by decide +kernel)
          (pa_cons pe_int (pa_cons (pe_callB call_len_seq (by rfl) B.len PySem.boot_len (pa_cons (pv 0) pa_nil)) pa_nil))) pa_nil))) pa_nil)) (pg_name (i := 1) nd rfl (Or.inl rfl))
        (pss_cons (ps_set (i := 2) nd rfl (Or.inl rfl) (pe_call GB.ok hr1 (by rfl) GB.m GB.k GB.b .nil pass0 (pa_cons (pe_call GC hr1 (by rfl) mC kC bC .nil pass0 (pa_cons (pv 0) (pa_cons (pv 1) pa_nil))) pa_nil)))
        (pss_cons (ps_par (i := 3) (j := 4) rfl nd rfl rfl (by decide) rfl rfl (pa_cons (pe_call GN.ok hr2 (by rfl) GN.m GN.k GN.b .nil pass0 (pa_cons (pv 2) pa_nil)) (pa_cons (pe_call GN.ok hr2 (by rfl) GN.m GN.k GN.b .nil pass0 (pa_cons (pv 2) pa_nil)) pa_nil)) (by rfl))
        (pss_cons (ps_set (i := 5) nd rfl (Or.inl rfl) (pe_call GN.ok hr2 (by rfl) GN.m GN.k GN.b .nil pass0 (pa_cons (pv 2) pa_nil)))
        (pss_cons (ps_set (i := 6) nd rfl (Or.inl rfl) (pe_lst (pa_cons (pe_call GW.ok hr2 (by rfl) GW.m GW.k GW.b .nil pass0 (pa_cons (pv 2) pa_nil)) (pa_cons (pe_call GW.ok hr2 (by rfl) GW.m GW.k GW.b .nil pass0 (pa_cons (pv 2) pa_nil))
          (pa_cons (pe_call GA.ok hr (by rfl) GA.m GA.k GA.b .nil pass0 (pa_cons (pv 2) pa_nil)) pa_nil)))))
        (pss_cons (ps_for PassesOwn.never rfl (pi_list (pe_op op_cat (pv 6) (pe_lst (pa_cons (pv 3) (pa_cons (pv 4) (pa_cons (pv 5) pa_nil)))))) (pg_name (i := 7) nd rfl (Or.inl rfl))
          (pss_one (ps_if (pt_not (pt_val (pe_callG GR hg hr3 (by rfl) mR kR bR .nil pass0 (pa_cons (pv 7) (pa_cons (pv 4) (pa_cons (pv 5) pa_nil)))))) (pss_one (ps_ret pe_bl)) pss_nil)))
        (pss_cons (ps_if (pt_cmpR op_isnot_bl (pe_callN0 G2 hr2 (by rfl) m2 k2 c2 pass0 (pk_cons (pv 3) (pk_cons (pv 3) (pk_cons (pv 3) pk_nil)))) pe_bl (nomark _)) (pss_one (ps_ret pe_bl)) pss_nil)
        (pss_one (ps_if (pt_val (pe_call G2 hr2 (by rfl) m2 k2 b2 .nil pass0 (pa_cons (pv 4) (pa_cons (pe_op op_add (pv 4) pe_int) (pa_cons (pe_op op_sub (pv 4) pe_int) pa_nil))))) (pss_one (ps_ret pe_bl)) pss_nil)))))))))
      (pss_one (ps_ret pe_bl)), ?_⟩
    refine ⟨_, rfl, a, _, rfl, .inl hS, _, _, rfl, _, _, rfl, ?_⟩
    have lenE : ((ns.map V.int).length : Int) = (ns.length : Int) := by rw [List.length_map]
    generalize hm : (if (if (((ns.map V.int).length : Nat) : Int) < 12 then (((ns.map V.int).length : Nat) : Int) else 12) > 3 then (if (((ns.map V.int).length : Nat) : Int) < 12 then (((ns.map V.int).length : Nat) : Int) else 12) else 3) = m
    have m0 : 3 ≤ m ∧ m ≤ 12 := by
      rw [← hm]
      split <;> split <;> omega
    refine ⟨m, rfl, by omega, by omega, for_range (lo := 0) (n := m.toNat) (fun _ σ H' => ∃ v1 v2 v3 v4 v5 v6 v7 : Option V, σ = [some (.ref a), v1, v2, v3, v4, v5, v6, v7] ∧ Same H H')
      ⟨_, _, _, _, _, _, _, rfl, Same.refl H⟩ ?_ fun σ H' _ => q H'⟩
    rintro i σ H0 hi ⟨v1, v2, v3, v4, v5, v6, v7, rfl, s0⟩
    have ei : (0 + (i : Int)) = ((i : Nat) : Int) := by omega
    rw [ei]
    refine ⟨_, rfl, _, rfl, a, ns, i, rfl, s0.seq hS, by omega, fun c => ?_⟩
    refine ⟨c, rfl, fun b H1 nb B1 K1 => ?_⟩
    refine ⟨_, rfl, b, 0, rfl, B1, by omega, fun i1 H2 B2 K2 => ?_⟩
    refine ⟨_, rfl, b, 3, rfl, B2, by omega, fun i2 H3 B3 K3 => ?_⟩
    refine ⟨_, _, rfl, ?_⟩
    refine ⟨_, rfl, b, 6, rfl, B3, by omega, fun i3 H4 B4 K4 => ?_⟩
    refine ⟨_, rfl, b, 9, rfl, B4, by omega, fun z1 H5 w1 B5 K5 => ?_⟩
    refine ⟨_, rfl, b, 29, rfl, B5, by omega, fun z2 H6 w2 B6 K6 => ?_⟩
    refine ⟨_, rfl, b, 49, rfl, B6, by omega, fun v H7 kv B7 K7 => ?_⟩
    have s7 : Same H0 H7 := same_of nb (K1.trans (K2.trans (K3.trans (K4.trans (K5.trans (K6.trans K7))))))
    refine ⟨(by show 3 ≤ sizeLine; decide), fun p np => ?_⟩
    have s8 : Same H7 (upd H7 p (.lst [.str z1, .str z2, v])) := same_new np
    refine ⟨_, rfl, _, rfl, _, rfl, _, rfl, (by show 3 ≤ sizeLine; decide), fun r nr => ?_⟩
    have s9 : Same (upd H7 p (.lst [.str z1, .str z2, v])) (upd (upd H7 p (.lst [.str z1, .str z2, v])) r (.lst [.int i1, .int i2, .int i3])) := same_new nr
    refine ⟨_, _, _, _, rfl, rfl, s9 _ _ upd_same, upd_same, (by show 6 ≤ sizeLine; decide), fun t nt => ?_⟩
    generalize hH : upd (upd (upd H7 p (.lst [.str z1, .str z2, v])) r (.lst [.int i1, .int i2, .int i3])) t (.lst ([.str z1, .str z2, v] ++ [.int i1, .int i2, .int i3])) = H10
    have s10 : Same H0 H10 := by
      rw [← hH]
      exact s7.trans (s8.trans (s9.trans (same_new nt)))
    have kv10 : Kd K H10 v := by
      rw [← hH]
      exact kv.same (s8.trans (s9.trans (same_new nt)))
    have t10 : H10 t = some (.lst [.str z1, .str z2, v, .int i1, .int i2, .int i3]) := by
      rw [← hH]
      exact upd_same
    refine ⟨t, rfl, ⟨_, SqL.of t10⟩, for_list (K := K) (a := t) (xs := [.str z1, .str z2, v, .int i1, .int i2, .int i3])
      (fun _ σ H' => ∃ x : Option V, σ = [some (.ref a), some (.int i), some (.ref b), some (.int i1), some (.int i2), some (.int i3), some (.ref p), x] ∧ Same H10 H') ⟨_, rfl, Same.refl _⟩
      (fun _ σ H' _ ⟨_, _, sm⟩ => SqL.of (sm _ _ t10)) ?_ ?_⟩
    · rintro j x σ H11 hx ⟨y, rfl, s11⟩
      have kx : Kd K H11 x := by
        have hm := List.mem_of_getElem? hx
        simp only [List.mem_cons, List.not_mem_nil, or_false] at hm
        rcases hm with rfl | rfl | rfl | rfl | rfl | rfl
        · exact .str _ (Nat.le_trans w1.1 (by decide)) w1.2
        · exact .str _ (Nat.le_trans w2.1 (by decide)) w2.2
        · exact kv10.same s11
        · exact .int _
        · exact .int _
        · exact .int _
      exact ⟨_, rfl, _, rfl, _, rfl, x, i2, i3, rfl, kx, fun H12 s12 => ⟨_, rfl, iteF ⟨_, rfl, s11.trans s12⟩⟩⟩
    · rintro σ H11 ⟨y, rfl, s11⟩
      refine ⟨_, rfl, _, rfl, _, rfl, rfl, rfl, .int i1, i1, i1, rfl, .int i1, ?_⟩
      have e1 : inB i1 i1 (.int i1) = true := by
        show (decide (i1 ≤ i1) && decide (i1 ≤ i1)) = true
        rw [decide_eq_true (Int.le_refl i1)]
        rfl
      refine ⟨_, _, rfl, rfl, _, rfl, ?_⟩
      rw [e1]
      refine iteF ⟨_, rfl, _, rfl, _, _, rfl, rfl, _, rfl, _, _, rfl, rfl, .int i2, _, _, rfl, .int i2, _, rfl, ?_⟩
      have e2 : inB (i2 + 1) (i2 - 1) (.int i2) = false := by
        show (decide (i2 + 1 ≤ i2) && decide (i2 ≤ i2 - 1)) = false
        rw [decide_eq_false (by omega)]
        rfl
      rw [e2]
      exact iteF ⟨_, _, _, _, _, _, _, rfl, s0.trans (s10.trans s11)⟩
end
end Mz
set_option Elab.async false
set_option linter.all false
set_option maxRecDepth 100000
set_option maxHeartbeats 4000000
namespace Mz
open PySem PySem.Spec PyProof.Rows L2
theorem kb_fun {K : PySem.W.Frag} {x qual : Str} {st : Stmt} {f : Addr} {fd : FuncData} {ps : List Str} (F : Fun K x qual st f fd) (ks : List Str)
    (h : ∀ (kV doc pm : Value) (an : Option Addr) (cdv ct : Value) (ws : List Value), ws.length = ks.length → bindArgs (PySem.W.fnOf x qual (defArgs st) (defBody st) (defScope st) .none kV doc pm an cdv ct) ⟨[], ks.zip ws⟩ = pure (ps.zip ws)) :
    KBn K fd ps 0 ks (fun us ws => us ++ ws) (fun vs zs => vs ++ zs) := by
  obtain ⟨oc, od, kV, doc, pm, an, cdv, ct, osl, rfl, lk, hcd⟩ := F.ex
  refine ⟨fun s us ws _ hu hw => ?_, fun r1 r2 => r1.append r2⟩
  obtain rfl := List.eq_nil_of_length_eq_zero hu
  exact .of_eq (h kV doc pm an cdv ct ws hw)
theorem kit_own {K : PySem.W.Frag} {C : Addr} {T : String} (hm : PySem.W.mroIn K C (.type T) = some false) (h2 : PySem.W.kitMeta T = true) : PySem.W.kitOne K (.ref C) (.type T) = some false := by
  unfold PySem.W.kitOne
  rw [if_neg (by intro e; cases e)]
  show (if PySem.W.kitMeta T = true then PySem.W.mroIn K C (.type T) else none) = some false
  rw [if_pos h2, hm]
theorem all_mk {l : PySem.W.OpenLaw} {w : World} {K : PySem.W.Frag} {h : Heap} {mg : Str → Option Value} {fa : Addr} (X : K.In h) (G : h.Ns mainGlobals mg) (hfa : mg "law" = some (.ref fa))
    {fwh : Addr} {odwh anwh : Option Addr} {slwh : Array (Option Value)} {ocwh kVwh dcwh pmwh cdwh ctwh : Value}
    {fii : Addr} {odii anii : Option Addr} {slii : Array (Option Value)} {ocii kVii dcii pmii cdii ctii : Value}
    {fna : Addr} {odna anna : Option Addr} {slna : Array (Option Value)} {ocna kVna dcna pmna cdna ctna : Value}
    {fma : Addr} {odma anma : Option Addr} {slma : Array (Option Value)} {ocma kVma dcma pmma cdma ctma : Value}
    {fle : Addr} {odle anle : Option Addr} {slle : Array (Option Value)} {ocle kVle dcle pmle cdle ctle : Value}
    {fce : Addr} {odce ance : Option Addr} {slce : Array (Option Value)} {occe kVce dcce pmce cdce ctce : Value}
    {fbo : Addr} {odbo anbo : Option Addr} {slbo : Array (Option Value)} {ocbo kVbo dcbo pmbo cdbo ctbo : Value}
    {fta : Addr} {odta anta : Option Addr} {slta : Array (Option Value)} {octa kVta dcta pmta cdta ctta : Value}
    {fwo : Addr} {odwo anwo : Option Addr} {slwo : Array (Option Value)} {ocwo kVwo dcwo pmwo cdwo ctwo : Value}
    {fnu : Addr} {odnu annu : Option Addr} {slnu : Array (Option Value)} {ocnu kVnu dcnu pmnu cdnu ctnu : Value}
    {fan : Addr} {odan anan : Option Addr} {slan : Array (Option Value)} {ocan kVan dcan pman cdan ctan : Value}
    {fdu : Addr} {oddu andu : Option Addr} {sldu : Array (Option Value)} {ocdu kVdu dcdu pmdu cddu ctdu : Value}
    {fri : Addr} {odri anri : Option Addr} {slri : Array (Option Value)} {ocri kVri dcri pmri cdri ctri : Value}
    {fla : Addr} {odla anla : Option Addr} {slla : Array (Option Value)} {ocla kVla dcla pmla cdla ctla : Value}
    (awh : PySem.W.nsIn K mainGlobals "_is_whole" = some (some (.ref fwh))) (lwh : K.lookup fwh = some ⟨ocwh, odwh, .func (PySem.W.fnOf "_is_whole" "_is_whole" (defArgs sWhole) (defBody sWhole) (defScope sWhole) .none kVwh dcwh pmwh anwh cdwh ctwh), slwh⟩) (cwh : PySem.W.codeIn K cdwh "_is_whole" = true) (kwh : PySem.W.keepIn K (.ref fwh) = true)
    (aii : PySem.W.nsIn K mainGlobals "is_integer" = some (some (.ref fii))) (lii : K.lookup fii = some ⟨ocii, odii, .func (PySem.W.fnOf "is_integer" "is_integer" (defArgs sIsInt) (defBody sIsInt) (defScope sIsInt) .none kVii dcii pmii anii cdii ctii), slii⟩) (cii : PySem.W.codeIn K cdii "is_integer" = true) (kii : PySem.W.keepIn K (.ref fii) = true)
    (ana : PySem.W.nsIn K mainGlobals "is_name" = some (some (.ref fna))) (lna : K.lookup fna = some ⟨ocna, odna, .func (PySem.W.fnOf "is_name" "is_name" (defArgs sIsName) (defBody sIsName) (defScope sIsName) .none kVna dcna pmna anna cdna ctna), slna⟩) (cna : PySem.W.codeIn K cdna "is_name" = true) (kna : PySem.W.keepIn K (.ref fna) = true)
    (ama : PySem.W.nsIn K mainGlobals "is_mark" = some (some (.ref fma))) (lma : K.lookup fma = some ⟨ocma, odma, .func (PySem.W.fnOf "is_mark" "is_mark" (defArgs sIsMark) (defBody sIsMark) (defScope sIsMark) .none kVma dcma pmma anma cdma ctma), slma⟩) (cma : PySem.W.codeIn K cdma "is_mark" = true) (kma : PySem.W.keepIn K (.ref fma) = true)
    (ale : PySem.W.nsIn K mainGlobals "_least_shift" = some (some (.ref fle))) (lle : K.lookup fle = some ⟨ocle, odle, .func (PySem.W.fnOf "_least_shift" "_least_shift" (defArgs sLeast) (defBody sLeast) (defScope sLeast) .none kVle dcle pmle anle cdle ctle), slle⟩) (cle : PySem.W.codeIn K cdle "_least_shift" = true) (kle : PySem.W.keepIn K (.ref fle) = true)
    (ace : PySem.W.nsIn K mainGlobals "_law_cell" = some (some (.ref fce))) (lce : K.lookup fce = some ⟨occe, odce, .func (PySem.W.fnOf "_law_cell" "_law_cell" (defArgs sCell) (defBody sCell) (defScope sCell) .none kVce dcce pmce ance cdce ctce), slce⟩) (cce : PySem.W.codeIn K cdce "_law_cell" = true) (kce : PySem.W.keepIn K (.ref fce) = true)
    (abo : PySem.W.nsIn K mainGlobals "_law_box" = some (some (.ref fbo))) (lbo : K.lookup fbo = some ⟨ocbo, odbo, .func (PySem.W.fnOf "_law_box" "_law_box" (defArgs sBox) (defBody sBox) (defScope sBox) .none kVbo dcbo pmbo anbo cdbo ctbo), slbo⟩) (cbo : PySem.W.codeIn K cdbo "_law_box" = true) (kbo : PySem.W.keepIn K (.ref fbo) = true)
    (ata : PySem.W.nsIn K mainGlobals "_law_take" = some (some (.ref fta))) (lta : K.lookup fta = some ⟨octa, odta, .func (PySem.W.fnOf "_law_take" "_law_take" (defArgs sTake) (defBody sTake) (defScope sTake) .none kVta dcta pmta anta cdta ctta), slta⟩) (cta : PySem.W.codeIn K cdta "_law_take" = true) (kta : PySem.W.keepIn K (.ref fta) = true)
    (awo : PySem.W.nsIn K mainGlobals "_law_word" = some (some (.ref fwo))) (lwo : K.lookup fwo = some ⟨ocwo, odwo, .func (PySem.W.fnOf "_law_word" "_law_word" (defArgs sWord) (defBody sWord) (defScope sWord) .none kVwo dcwo pmwo anwo cdwo ctwo), slwo⟩) (cwo : PySem.W.codeIn K cdwo "_law_word" = true) (kwo : PySem.W.keepIn K (.ref fwo) = true)
    (anu : PySem.W.nsIn K mainGlobals "_law_number" = some (some (.ref fnu))) (lnu : K.lookup fnu = some ⟨ocnu, odnu, .func (PySem.W.fnOf "_law_number" "_law_number" (defArgs sNumber) (defBody sNumber) (defScope sNumber) .none kVnu dcnu pmnu annu cdnu ctnu), slnu⟩) (cnu : PySem.W.codeIn K cdnu "_law_number" = true) (knu : PySem.W.keepIn K (.ref fnu) = true)
    (aan : PySem.W.nsIn K mainGlobals "_law_any" = some (some (.ref fan))) (lan : K.lookup fan = some ⟨ocan, odan, .func (PySem.W.fnOf "_law_any" "_law_any" (defArgs sAny) (defBody sAny) (defScope sAny) .none kVan dcan pman anan cdan ctan), slan⟩) (can : PySem.W.codeIn K cdan "_law_any" = true) (kan : PySem.W.keepIn K (.ref fan) = true)
    (adu : PySem.W.nsIn K mainGlobals "_law_name_due" = some (some (.ref fdu))) (ldu : K.lookup fdu = some ⟨ocdu, oddu, .func (PySem.W.fnOf "_law_name_due" "_law_name_due" (defArgs sDue) (defBody sDue) (defScope sDue) .none kVdu dcdu pmdu andu cddu ctdu), sldu⟩) (cdu : PySem.W.codeIn K cddu "_law_name_due" = true) (kdu : PySem.W.keepIn K (.ref fdu) = true)
    (ari : PySem.W.nsIn K mainGlobals "_law_right" = some (some (.ref fri))) (lri : K.lookup fri = some ⟨ocri, odri, .func (PySem.W.fnOf "_law_right" "_law_right" (defArgs sRight) (defBody sRight) (defScope sRight) .none kVri dcri pmri anri cdri ctri), slri⟩) (cri : PySem.W.codeIn K cdri "_law_right" = true) (kri : PySem.W.keepIn K (.ref fri) = true)
    (ala : PySem.W.nsIn K mainGlobals "law" = some (some (.ref fla))) (lla : K.lookup fla = some ⟨ocla, odla, .func (PySem.W.fnOf "law" "law" (defArgs sLaw) (defBody sLaw) (defScope sLaw) .none kVla dcla pmla anla cdla ctla), slla⟩) (cla : PySem.W.codeIn K cdla "law" = true) (kla : PySem.W.keepIn K (.ref fla) = true)
    {cP fI tD kD pM : Addr} {odI anI odT odM : Option Addr} {slI slT slM : Array (Option Value)} {ocI dcI pmI cdI ctI : Value} {nT nM : Nat} {kT kS kL kA kM m1 m2 m3 m4 m5 m6 m7 : Tok}
    (aP : PySem.W.nsIn K mainGlobals "Place" = some (some (.ref cP))) (iI : PySem.W.findIn K (.ref cP) "__init__" = some (some (.ref fI))) (jI : PySem.W.isFn K (.ref fI) = true)
    (lI : K.lookup fI = some ⟨ocI, odI, .func (PySem.W.fnOf "__init__" "Place.__init__" (defArgs (inClass sPlace 0)) (defBody (inClass sPlace 0)) (defScope (inClass sPlace 0)) (.ref tD) (.ref kD) dcI pmI anI cdI ctI), slI⟩) (cI : PySem.W.codeIn K cdI "Place.__init__" = true) (kI : PySem.W.keepIn K (.ref fI) = true)
    (lT : K.lookup tD = some ⟨.type "tuple", odT, .seq #[.str "" kT] nT, slT⟩) (sD : PySem.W.nsIn K kD "shift" = some (some (.int 0 kS)))
    (pg : PySem.W.plainGet K cP Str.empty = true) (hd : PySem.W.hasDictIn K cP = true) (po : PySem.W.plainOver K cP = true) (sa : PySem.W.findIn K (.ref cP) "__setattr__" = some (some (.builtin "object.__setattr__")))
    (mk : PySem.W.makesIn K cP = true) (kc : PySem.W.keepIn K (.ref cP) = true) (nB : PySem.W.findIn K (.ref cP) "_base" = some none) (nS : PySem.W.findIn K (.ref cP) "_shift" = some none)
    (ha : PySem.W.findIn K (.ref cP) "__class__" = some (some (.builtin "object.__class__"))) (hn : PySem.W.specialIn K (.builtin "object.__class__") "__get__" = some (some (.builtin "getset_descriptor.__get__"))) (htk : PySem.W.takesIn K (.builtin "object.__class__") = some true)
    (hm : PySem.W.mroIn K cP (.type "object") = some true) (ki : PySem.W.mroIn K cP (.type "int") = some false) (ks : PySem.W.mroIn K cP (.type "str") = some false)
    (gL : PySem.W.nsIn K mainGlobals "_LONGEST_NAME" = some (some (.int 6 kL))) (gA : PySem.W.nsIn K mainGlobals "_LETTERS" = some (some (.str abc kA))) (gM : PySem.W.nsIn K mainGlobals "_MOST" = some (some (.int 3 kM)))
    (gN : PySem.W.nsIn K mainGlobals "_NO_MARKS" = some (some (.ref pM)))
    (lM : K.lookup pM = some ⟨.type "tuple", odM, .seq #[.str "old" m1, .str "zero" m2, .str "end" m3, .str "fails" m4, .str "more" m5, .str "done" m6, .str "none" m7] nM, slM⟩)
    (zlen : PySem.W.nsIn K mainGlobals "len" = some none)
    (zmax : PySem.W.nsIn K mainGlobals "max" = some none)
    (zmin : PySem.W.nsIn K mainGlobals "min" = some none)
    (zint : PySem.W.nsIn K mainGlobals "int" = some none)
    (zrange : PySem.W.nsIn K mainGlobals "range" = some none)
    (zisinstance : PySem.W.nsIn K mainGlobals "isinstance" = some none)
    (zbool : PySem.W.nsIn K mainGlobals "bool" = some none)
    (zstr : PySem.W.nsIn K mainGlobals "str" = some none)
    (zall : PySem.W.nsIn K mainGlobals "all" = some none)
    (zrepr : PySem.W.nsIn K mainGlobals "repr" = some none)
    : ∃ fd : FuncData, (∀ (s : Shared) (v : Value), BindsTo s fd ⟨[v], []⟩ [("_law_script", v)]) ∧ ∀ base : Heap, K.In base → base.Ns mainGlobals mg → FnG l.prog w K mg base CX0 6 fa fd ["_law_script"] (spLaw K) := by
  have e := hfa.symm.trans (PySem.W.mg_of X G ala)
  cases e
  have B : Blt mg := ⟨PySem.W.mg_none_of X G zlen, PySem.W.mg_none_of X G zmax, PySem.W.mg_none_of X G zmin, PySem.W.mg_none_of X G zint, PySem.W.mg_none_of X G zrange⟩
  have D : Blp mg := ⟨PySem.W.mg_none_of X G zisinstance, PySem.W.mg_none_of X G zbool, PySem.W.mg_none_of X G zstr, PySem.W.mg_none_of X G zall⟩
  have Fwh := fun_mk (st := sWhole) lwh cwh kwh
  have bwh := Fwh.binds (ps := ["value"]) fun _ _ _ _ _ _ us hl => match us, hl with | [_], _ => rfl
  have mwh := PySem.W.mg_of X G awh
  have Fii := fun_mk (st := sIsInt) lii cii kii
  have bii := Fii.binds (ps := ["value", "low", "high"]) fun _ _ _ _ _ _ us hl => match us, hl with | [_, _, _], _ => rfl
  have mii := PySem.W.mg_of X G aii
  have Fna := fun_mk (st := sIsName) lna cna kna
  have bna := Fna.binds (ps := ["value"]) fun _ _ _ _ _ _ us hl => match us, hl with | [_], _ => rfl
  have mna := PySem.W.mg_of X G ana
  have Fma := fun_mk (st := sIsMark) lma cma kma
  have bma := Fma.binds (ps := ["value"]) fun _ _ _ _ _ _ us hl => match us, hl with | [_], _ => rfl
  have mma := PySem.W.mg_of X G ama
  have Fle := fun_mk (st := sLeast) lle cle kle
  have ble := Fle.binds (ps := ["base"]) fun _ _ _ _ _ _ us hl => match us, hl with | [_], _ => rfl
  have mle := PySem.W.mg_of X G ale
  have Fce := fun_mk (st := sCell) lce cce kce
  have bce := Fce.binds (ps := ["_law_script", "_law_k"]) fun _ _ _ _ _ _ us hl => match us, hl with | [_, _], _ => rfl
  have mce := PySem.W.mg_of X G ace
  have Fbo := fun_mk (st := sBox) lbo cbo kbo
  have bbo := Fbo.binds (ps := ["_law_cell_here"]) fun _ _ _ _ _ _ us hl => match us, hl with | [_], _ => rfl
  have mbo := PySem.W.mg_of X G abo
  have Fta := fun_mk (st := sTake) lta cta kta
  have bta := Fta.binds (ps := ["_law_box_here", "_law_many"]) fun _ _ _ _ _ _ us hl => match us, hl with | [_, _], _ => rfl
  have mta := PySem.W.mg_of X G ata
  have Fwo := fun_mk (st := sWord) lwo cwo kwo
  have bwo := Fwo.binds (ps := ["_law_box_here"]) fun _ _ _ _ _ _ us hl => match us, hl with | [_], _ => rfl
  have mwo := PySem.W.mg_of X G awo
  have Fnu := fun_mk (st := sNumber) lnu cnu knu
  have bnu := Fnu.binds (ps := ["_law_box_here"]) fun _ _ _ _ _ _ us hl => match us, hl with | [_], _ => rfl
  have mnu := PySem.W.mg_of X G anu
  have Fan := fun_mk (st := sAny) lan can kan
  have ban := Fan.binds (ps := ["_law_box_here"]) fun _ _ _ _ _ _ us hl => match us, hl with | [_], _ => rfl
  have man := PySem.W.mg_of X G aan
  have Fdu := fun_mk (st := sDue) ldu cdu kdu
  have bdu := Fdu.binds (ps := ["_law_thing"]) fun _ _ _ _ _ _ us hl => match us, hl with | [_], _ => rfl
  have mdu := PySem.W.mg_of X G adu
  have Fri := fun_mk (st := sRight) lri cri kri
  have bri := Fri.binds (ps := ["_law_thing", "_law_one", "_law_other"]) fun _ _ _ _ _ _ us hl => match us, hl with | [_, _, _], _ => rfl
  have mri := PySem.W.mg_of X G ari
  have Fla := fun_mk (st := sLaw) lla cla kla
  have bla := Fla.binds (ps := ["_law_script"]) fun _ _ _ _ _ _ us hl => match us, hl with | [_], _ => rfl
  have mla := PySem.W.mg_of X G ala
  have FI : FunD K "__init__" "Place.__init__" (defArgs (inClass sPlace 0)) (defBody (inClass sPlace 0)) (defScope (inClass sPlace 0)) [.str ""] [("shift", .int 0)] fI _ :=
    ⟨⟨ocI, odI, .ref tD, .ref kD, dcI, pmI, anI, cdI, ctI, slI, rfl, lI, cI, .inr ⟨by simp, tD, _, [.str "" kT], nT, rfl, lT, rfl, .cons ⟨kT, rfl⟩ .nil⟩, .inr ⟨kD, rfl, fun q hq => by
      rw [List.mem_singleton.mp hq]
      exact ⟨_, sD, ⟨kS, rfl⟩⟩⟩⟩, kI⟩
  obtain ⟨ds, hds, bI⟩ := FunD.binds (ps := ["self", "base", "shift"]) FI 2 1 (by simp) rfl (fun T D doc pm an cdv ct us its ks l1 l2 l3 => match us, its, ks, l1, l2, l3 with
    | [_, _], [_], [_], _, _, _ => ⟨_, rfl, ⟨_, _, _, _, _, _, rfl, rfl, rfl⟩⟩) (by simp)
  obtain ⟨its, mv, kbI⟩ := FunD.kbinds (ps := ["self", "base", "shift"]) FI 1 ["shift"] [] (fun us its _ ws => us ++ its ++ ws) (by simp) (by simp) (fun q hq => nomatch hq) (fun r1 r2 _ r4 => (r1.append r2).append r4)
    (fun T D doc pm an cdv ct us its mv ws l1 l2 l3 l4 => match us, its, mv, ws, l1, l2, l3, l4 with
    | [_], [_], [], [_], _, _, _, _ => ⟨_, rfl, rfl⟩)
  have Z : Cpl K mg cP := ⟨⟨pg, hd, po, sa⟩, nB, nS, PySem.W.mg_of X G aP⟩
  have Y : Cty K cP := ⟨ha, hn, htk, hm, kit_own ki (by decide +kernel), kit_own ks (by decide +kernel)⟩
  have cii := kb_fun (ps := ["value", "low", "high"]) Fii ["value", "low", "high"] fun _ _ _ _ _ _ ws hl => match ws, hl with | [_, _, _], _ => rfl
  have cna := kb_fun (ps := ["value"]) Fna ["value"] fun _ _ _ _ _ _ ws hl => match ws, hl with | [_], _ => rfl
  have cma := kb_fun (ps := ["value"]) Fma ["value"] fun _ _ _ _ _ _ ws hl => match ws, hl with | [_], _ => rfl
  refine ⟨PySem.W.fnOf "law" "law" (defArgs sLaw) (defBody sLaw) (defScope sLaw) .none kVla dcla pmla anla cdla ctla, fun s v => .of_eq rfl, fun base _ _ => ?_⟩
  have hM : ∀ H, SqT K H pM noMarks := fun H => .inr ⟨_, _, _, lM, rfl, rfl, (by show 7 ≤ sizeLine; decide), .cons ⟨_, rfl⟩ (.cons ⟨_, rfl⟩ (.cons ⟨_, rfl⟩ (.cons ⟨_, rfl⟩ (.cons ⟨_, rfl⟩ (.cons ⟨_, rfl⟩ (.cons ⟨_, rfl⟩ .nil))))))⟩
  have Gwh : FnOk l.prog w K mg base CX0 1 _ _ ["value"] (spWhole K) := ok_whole Fwh B D
  have Gii : FnOk l.prog w K mg base CX0 2 _ _ ["value", "low", "high"] (spIsInt K) := ok_isInt Fii Gwh mwh kwh bwh
  have Gna : FnOk l.prog w K mg base CX0 1 _ _ ["value"] (spIsName K) := ok_isName Fna B D (PySem.W.mg_of X G gL) (PySem.W.mg_of X G gA)
  have Gma : FnOk l.prog w K mg base CX0 2 _ _ ["value"] (spIsMark K) := ok_isMark Fma Gna mna kna bna (PySem.W.mg_of X G gN) hM
  have Gle : FnOk l.prog w K mg base CX0 1 _ _ ["base"] spLeast := ok_least Fle (PySem.W.mg_of X G gM)
  have GI : FnOk l.prog w K mg base CX0 3 fI _ ["self", "base", "shift"] (spInit cP) := ok_init FI Z Gna mna kna bna Gii mii kii bii Gle mle kle ble (PySem.W.mg_of X G gM)
  have T : Tk l.prog w K mg base fta _ := ⟨ok_take Fta B, mta, kta, bta⟩
  exact ok_law Fla B (ok_cell Fce B) mce kce bce ⟨ok_box Fbo B, mbo, kbo, bbo⟩ ⟨ok_number Fnu T, mnu, knu, bnu⟩ ⟨ok_word Fwo T B, mwo, kwo, bwo⟩
    ⟨ok_any Fan T ⟨mk, iI, jI, kc⟩ Z Y GI hds bI kbI, man, kan, ban⟩
    (ok_right Fri B D (PySem.W.mg_none_of X G zrepr) (ok_due Fdu B D) mdu kdu bdu Gii mii kii bii Gna mna kna bna cna Gma mma kma bma cma) mri kri bri Gii mii kii bii cii
theorem walk {l : PySem.W.OpenLaw} {q : Program} {loose : List Str} {XP : (Str → Option Value) → Heap → Prop} {YP : World → Heap → Prop} {d : DefRec} {K : Params → PySem.W.Frag} (hn : l.most = some 63) (hdf : d.params.defaults = [])
    (hY : ∀ (w : World) (h : Heap), YP w h → (K w.params).In h)
    (F : ∀ (w : World) (mg : Str → Option Value) (fa : Addr) (h : Heap), (K w.params).In h → h.Ns mainGlobals mg → mg d.name = some (.ref fa) →
      ∃ fd : FuncData, (∀ (s : Shared) (u : Value), BindsTo s fd ⟨[u], []⟩ [("_law_script", u)]) ∧ ∀ base : Heap, (K w.params).In base → base.Ns mainGlobals mg → FnG l.prog w (K w.params) mg base CX0 6 fa fd ["_law_script"] (spLaw (K w.params))) :
    PySem.W.WalkO q loose XP YP l.row.toRowW d [] (fun f vs => PySem.call f vs) :=
  walk_G (n := 63) (k := 6) (x := "_law_script") (CX := fun _ => CX0) (sp := fun w => spLaw (K w.params)) hn (by decide) hdf ⟨rfl, by decide, by decide⟩ hY F (fun _ _ a ns hl _ _ hS => ⟨a, ns, rfl, hS, hl, fun _ => rfl⟩) fun _ _ _ _ _ z => z
end Mz
set_option Elab.async false
set_option linter.all false
set_option maxRecDepth 100000
open PySem PySem.W PyProof.Rows in
set_option maxRecDepth 100000 in
set_option maxHeartbeats 0 in
theorem PySem.Challenge.cw_mapsizes_k02_integers_names_marks_holds : PySem.Challenge.rw_mapsizes_k02_integers_names_marks.Holds := by
  w_on; o_law; k_head; (case hw => w_witness2)
  k_fill
  refine Mz.walk (l := PySem.Challenge.rw_mapsizes_k02_integers_names_marks) rfl rfl (fun w h Y => PySem.W.kIn_of Y) ?F
  case F =>
    intro w mg fa h KX G hmg
    refine' Mz.all_mk KX G hmg ?awh ?lwh ?cwh ?kwh ?aii ?lii ?cii ?kii ?ana ?lna ?cna ?kna ?ama ?lma ?cma ?kma ?ale ?lle ?cle ?kle ?ace ?lce ?cce ?kce ?abo ?lbo ?cbo ?kbo ?ata ?lta ?cta ?kta ?awo ?lwo ?cwo ?kwo ?anu ?lnu ?cnu ?knu ?aan ?lan ?can ?kan ?adu ?ldu ?cdu ?kdu ?ari ?lri ?cri ?kri ?ala ?lla ?cla ?kla ?aP ?iI ?jI ?lI ?cI ?kI ?lT ?sD ?pg ?hd ?po ?sa ?mk ?kc ?nB ?nS ?ha ?hn ?htk ?hm ?ki ?ks ?gL ?gA ?gM ?gN ?lM ?zlen ?zmax ?zmin ?zint ?zrange ?zisinstance ?zbool ?zstr ?zall ?zrepr
    (case awh => k_is)
    (case lwh => k_is)
    (case cwh => k_is)
    (case kwh => k_is)
    (case aii => k_is)
    (case lii => k_is)
    (case cii => k_is)
    (case kii => k_is)
    (case ana => k_is)
    (case lna => k_is)
    (case cna => k_is)
    (case kna => k_is)
    (case ama => k_is)
    (case lma => k_is)
    (case cma => k_is)
    (case kma => k_is)
    (case ale => k_is)
    (case lle => k_is)
    (case cle => k_is)
    (case kle => k_is)
    (case ace => k_is)
    (case lce => k_is)
    (case cce => k_is)
    (case kce => k_is)
    (case abo => k_is)
    (case lbo => k_is)
    (case cbo => k_is)
    (case kbo => k_is)
    (case ata => k_is)
    (case lta => k_is)
    (case cta => k_is)
    (case kta => k_is)
    (case awo => k_is)
    (case lwo => k_is)
    (case cwo => k_is)
    (case kwo => k_is)
    (case anu => k_is)
    (case lnu => k_is)
    (case cnu => k_is)
    (case knu => k_is)
    (case aan => k_is)
    (case lan => k_is)
    (case can => k_is)
    (case kan => k_is)
    (case adu => k_is)
    (case ldu => k_is)
    (case cdu => k_is)
    (case kdu => k_is)
    (case ari => k_is)
    (case lri => k_is)
    (case cri => k_is)
    (case kri => k_is)
    (case ala => k_is)
    (case lla => k_is)
    (case cla => k_is)
    (case kla => k_is)
    (case aP => k_is)
    (case iI => k_is)
    (case jI => k_is)
    (case lI => k_is)
    (case cI => k_is)
    (case kI => k_is)
    (case lT => k_is)
    (case sD => k_is)
    (case pg => k_is)
    (case hd => k_is)
    (case po => k_is)
    (case sa => k_is)
    (case mk => k_is)
    (case kc => k_is)
    (case nB => k_is)
    (case nS => k_is)
    (case ha => k_is)
    (case hn => k_is)
    (case htk => k_is)
    (case hm => k_is)
    (case ki => k_is)
    (case ks => k_is)
    (case gL => k_is)
    (case gA => k_is)
    (case gM => k_is)
    (case gN => k_is)
    (case lM => k_is)
    (case zlen => k_is)
    (case zmax => k_is)
    (case zmin => k_is)
    (case zint => k_is)
    (case zrange => k_is)
    (case zisinstance => k_is)
    (case zbool => k_is)
    (case zstr => k_is)
    (case zall => k_is)
    (case zrepr => k_is)
#print axioms PySem.Challenge.cw_mapsizes_k02_integers_names_marks_holds
